/-
  The operations on memory: new blocks, structs and lists that are built, loads, stores.
-/
import Derived.Test.YtmceablhndldiaaGreatDoorSx8
import Derived.Laws.Tables
namespace Go.Sx
open Go.RowKit

theorem VRs.of_get {ρ : Ren} : ∀ {a : List AV} {l : List Value}, a.length = l.length → (∀ (i : Nat) (x : AV), a[i]? = some x → ∃ v, l[i]? = some v ∧ VR ρ x v) → VRs ρ a l
  | [], [], _, _ => VRs.nil ρ
  | [], _ :: _, h, _ => by cases h
  | _ :: _, [], h, _ => by cases h
  | a :: x, v :: l, h, k => by
    obtain ⟨u, hu, hV⟩ := k 0 a rfl
    cases hu
    exact VRs.cons hV (VRs.of_get (by simpa using h) fun i y hy => k (i + 1) y hy)
theorem newO_ok {o : AO} {c c' n : Nat} {h h' : H} {l : Log} (e : newO o c h = .ok n c' h' l) : n = c ∧ c' = c + 1 ∧ h' = h.set c (some o) ∧ l = [] := by cases e; exact ⟨rfl, rfl, rfl, rfl⟩
theorem Free.one {ρ : Ren} {c : Nat} (h : Free ρ c (c + 1)) : ρ c = none := h c (Nat.le_refl c) (Nat.lt_succ_self c)
theorem Rel.newRow {ρ : Ren} {h : H} {w : World} (r : Rel ρ h w) {c : Nat} (hc : ρ c = none) {cs : List AV} {l rest : List Value} (hv : VRs ρ cs l) (arr : Array Value) (ha : arr.toList = l ++ rest) (t : TypeId) (f : Nat × Nat) (hf : arr.size ≤ f.1 ∨ f.2 = 0) :
    Post ρ h w c (c + 1) (ρ.put c (w.heap.size, arr.size)) (h.set c (some (.row cs))) (w.alloc (.cells arr t f)) := by
  refine r.new hc ⟨arr, t, f.1, f.2, l, rest, ?_, rfl, ha, VRs.mono (Ren.le_put _ hc) _ _ hv, fun i hi => by omega⟩
  show (w.heap.push _)[w.heap.size]? = _
  simp
section
variable {P : Program} {o : Oper}
theorem run_newRow (t : TypeId) (cells : Array Value) (w : World) : (newRow t cells).run P w = .ok ⟨w.heap.size, 0, none⟩ (w.alloc (.cells cells t (0, 0))) := by
  rfl
theorem VR.newPtr (ρ : Ren) (c b s : Nat) : VR (ρ.put c (b, s)) (mkPtr c) (.pointer (some ⟨b, 0, none⟩)) := by
  simp only [mkPtr, VR]
  exact ⟨b, s, Ren.put_same ρ c _, rfl⟩
theorem op_alloc {e : TypeId} {z : AV} (ho : o.op = .alloc e) (hz : zeroOf P e = some z) : OpOk P o (oAlloc z.cells) := by
  refine OpOk.of_run fun call E c h v c' h' l he ρ w a hr _ hf => ?_
  obtain ⟨n, he2, rfl⟩ := map_ok he
  obtain ⟨rfl, rfl, rfl, _⟩ := newO_ok he2
  obtain ⟨zv, hrun, _, hV⟩ := run_zero (w := w) hz ρ
  refine ⟨_, _, _, ?_, VR.newPtr ρ n w.heap.size zv.cells.size, hr.newRow hf.one hV zv.cells (rest := []) (by simp) e (0, 0) (.inr rfl)⟩
  simp only [execOp, ho]
  refine run_val ?_
  simp [Instr.alloc, hrun, newVar, run_newRow]
theorem op_box {t : TypeId} {x : Operand} {y : Opd} (ho : o.op = .box t x) (k : cOpd x = some y) : OpOk P o (oBox y) := by
  refine OpOk.of_run fun call E c h v c' h' l he ρ w a hr hE hf => ?_
  obtain ⟨n, he2, rfl⟩ := map_ok he
  obtain ⟨rfl, rfl, rfl, _⟩ := newO_ok he2
  have hV := (cOpd_VR hE k).cells
  refine ⟨_, _, _, ?_, VR.newPtr ρ n w.heap.size (a.eval x).cells.size, hr.newRow hf.one hV (a.eval x).cells (rest := []) (by simp) t (0, 0) (.inr rfl)⟩
  simp only [execOp, ho]
  refine run_val ?_
  simp [Instr.box, newVar, run_newRow]
theorem fold_set (off : Nat) : ∀ (vs : List Value) (k : Nat) (arr : Array Value), off + k + vs.length ≤ arr.size →
    ((vs.zipIdx k).foldl (fun cs (p : Value × Nat) => cs.setIfInBounds (off + p.2) p.1) arr).toList = arr.toList.take (off + k) ++ (vs ++ arr.toList.drop (off + k + vs.length)) ∧
    ((vs.zipIdx k).foldl (fun cs (p : Value × Nat) => cs.setIfInBounds (off + p.2) p.1) arr).size = arr.size
  | [], k, arr, h => by simp
  | v :: vs, k, arr, h => by
    simp only [List.length_cons] at h
    obtain ⟨h1, h2⟩ := fold_set off vs (k + 1) (arr.setIfInBounds (off + k) v) (by simp; omega)
    simp only [List.zipIdx_cons, List.foldl_cons]
    refine ⟨?_, by simpa using h2⟩
    rw [h1]
    have ho : off + k < arr.toList.length := by rw [Array.length_toList]; omega
    simp only [Array.toList_setIfInBounds, List.length_cons]
    rw [show off + k + (vs.length + 1) = off + (k + 1) + vs.length by omega]
    rw [List.drop_set_of_lt (by omega), List.set_eq_take_append_cons_drop, if_pos ho, List.take_append, List.take_take]
    simp only [List.length_take, List.cons_append]
    rw [show min (off + (k + 1)) (off + k) = off + k by omega, show off + (k + 1) - min (off + k) arr.toList.length = 1 by omega]
    simp
theorem fill_ok {ρ : Ren} {e : Env} {a : Act} (hE : ER ρ e a.tmps) (place : Nat → Option (Nat × Nat)) (part : Nat × Operand → Option (Nat × Nat × Opd)) (hp : ∀ q p, part q = some p → place q.1 = some (p.1, p.2.1) ∧ cOpd q.2 = some p.2.2) :
    ∀ (ps : List (Nat × Operand)) (l : List (Nat × Nat × Opd)), allO part ps = some l → ∀ (cs r : List AV) (arr : Array Value), VRs ρ cs arr.toList → fillA e l cs = some r →
    ∃ arr', Instr.fill place arr (ps.map fun q => (q.1, a.eval q.2)) = some arr' ∧ VRs ρ r arr'.toList ∧ arr'.size = arr.size
  | [], l, hl, cs, r, arr, hv, hf => by
    cases hl
    cases hf
    exact ⟨arr, rfl, hv, rfl⟩
  | q :: ps, l, hl, cs, r, arr, hv, hf => by
    obtain ⟨p, h1, hl⟩ := ifS_eq (show ifS none (fun b => ifS none (fun r => some (b :: r)) (allO part ps)) (part q) = some l from hl)
    obtain ⟨l', h2, hl⟩ := ifS_eq hl
    cases hl
    obtain ⟨g1, g2⟩ := hp q p h1
    obtain ⟨hn, hf⟩ := ifB_eq (show ifB (Nat.beq (ev e p.2.2).cells.length p.2.1) (ifS none (fillA e l') (putAt (ev e p.2.2).cells p.1 cs)) none = some r from hf)
    obtain ⟨cs', hc, hf⟩ := ifS_eq hf
    obtain ⟨rfl, hlen⟩ := putAt_eq _ _ _ _ hc
    have hV := (cOpd_VR hE g2).cells
    have hn := Nat.eq_of_beq_eq_true hn
    have hVL := hV.length
    have hVl := hV.length
    have hcl := hv.length
    rw [Array.length_toList] at hVl hcl
    obtain ⟨f1, f2⟩ := fold_set p.1 (a.eval q.2).cells.toList 0 arr (by rw [Array.length_toList]; omega)
    obtain ⟨arr', h3, h4, h5⟩ := fill_ok hE place part hp ps l' h2 _ r (((a.eval q.2).cells.toList.zipIdx 0).foldl (fun cs (p' : Value × Nat) => cs.setIfInBounds (p.1 + p'.2) p'.1) arr) (by
      rw [f1]
      simp only [Nat.add_zero]
      refine (VRs.take _ hv).append (hV.append ?_)
      rw [hVL]
      exact VRs.drop _ hv) hf
    refine ⟨arr', ?_, h4, h5.trans f2⟩
    simp only [List.map_cons, Instr.fill, g1]
    rw [if_neg (by simp; omega)]
    rw [← Array.foldl_toList, Array.toList_zipIdx]
    exact h3
theorem map_pair (a : Act) (ps : Array (Nat × Operand)) : (ps.map fun (i, x) => (i, a.eval x)).toList = ps.toList.map fun q => (q.1, a.eval q.2) := by
  rw [Array.toList_map]
theorem op_build {t : TypeId} {ps : Array (Nat × Operand)} {z : AV} {f : Ev} (ho : o.op = .build t ps) (hz : zeroOf P t = some z) (h : cBuild P t ps.toList z = some f) : OpOk P o f := by
  obtain ⟨i, zv, h1, h2, h3, _, _⟩ := zeroOf_eq hz
  have key : ∃ l, f = oBuild z.cells l ∧ ∀ (ρ : Ren) (e : Env) (a : Act) r, ER ρ e a.tmps → fillA e l z.cells = some r → ∃ arr, P.built t (ps.map fun (i, x) => (i, a.eval x)).toList = some arr ∧ VRs ρ r arr.toList := by
    unfold cBuild at h
    split at h
    · rename_i fs hu
      obtain ⟨pl, hpl, h⟩ := ifS_eq h
      obtain ⟨l, hl, h⟩ := ifS_eq h
      cases h
      refine ⟨l, rfl, fun ρ e a r hE hr => ?_⟩
      obtain ⟨arr, g1, g2, _⟩ := fill_ok hE (pl.toArray[·]?) (partS pl) (fun q p hq => by
        obtain ⟨b, k1, hq⟩ := ifS_eq hq
        obtain ⟨y, k2, hq⟩ := ifS_eq hq
        cases hq
        exact ⟨by simpa using k1, k2⟩) ps.toList l hl z.cells r zv.cells (ofV_VR ρ h3).cells hr
      refine ⟨arr, ?_, g2⟩
      unfold Program.built
      simp only [h1, hu, h2, show fs.toList.mapM (fun f => (P.info? f.type).map fun i => (f.offset, i.size)) = some pl from hpl, map_pair]
      exact g1
    · rename_i n el hu
      obtain ⟨s, hs, h⟩ := ifS_eq h
      obtain ⟨l, hl, h⟩ := ifS_eq h
      cases h
      obtain ⟨ie, hie, hs⟩ := ifS_eq hs
      cases hs
      refine ⟨l, rfl, fun ρ e a r hE hr => ?_⟩
      obtain ⟨arr, g1, g2, _⟩ := fill_ok hE (fun i => some (i * ie.size, ie.size)) (partA ie.size) (fun q p hq => by
        obtain ⟨y, k2, hq⟩ := ifS_eq hq
        cases hq
        exact ⟨rfl, k2⟩) ps.toList l hl z.cells r zv.cells (ofV_VR ρ h3).cells hr
      refine ⟨arr, ?_, g2⟩
      unfold Program.built
      simp only [h1, hu, h2, hie, map_pair]
      exact g1
    · cases h
  obtain ⟨l, rfl, key⟩ := key
  refine OpOk.of_val fun call e c h v c' h' g he => ?_
  obtain ⟨r, hr, he⟩ := ifS_ok he
  obtain ⟨rfl, rfl, rfl, _⟩ := pure_ok he
  refine ⟨rfl, rfl, fun ρ w a _ hE => ?_⟩
  obtain ⟨arr, k1, k2⟩ := key ρ e a r hE hr
  refine ⟨.agg arr, ?_, by simp only [VR]; exact ⟨_, rfl, k2⟩⟩
  simp only [execOp, ho]
  refine run_val ?_
  exact run_build w t _ arr k1
theorem reps_get (z : List AV) : ∀ (n i : Nat), i < n * z.length → (reps z n)[i]? = z[i % z.length]?
  | 0, i, h => by omega
  | n + 1, i, h => by
    show (z ++ reps z n)[i]? = _
    by_cases hi : i < z.length
    · rw [List.getElem?_append_left hi, Nat.mod_eq_of_lt hi]
    · rw [List.getElem?_append_right (by omega), reps_get z n (i - z.length) (by rw [Nat.add_mul] at h; omega), ← Nat.mod_eq_sub_mod (by omega)]
theorem reps_length (z : List AV) : ∀ n, (reps z n).length = n * z.length
  | 0 => by rw [Nat.zero_mul]; rfl
  | n + 1 => by
    show (z ++ reps z n).length = _
    rw [List.length_append, reps_length z n, Nat.add_mul]
    omega
/-- zero values, one behind the other -/
theorem reps_VR {ρ : Ren} {z : List AV} {zero : Array Value} (h : VRs ρ z zero.toList) (n : Nat) : VRs ρ (reps z n) ((Array.range (n * z.length)).map fun i => zero[i % zero.size]!).toList := by
  have hlen := h.length
  rw [Array.length_toList] at hlen
  refine VRs.of_get (by rw [reps_length]; simp) fun i x hx => ?_
  have hi : i < n * z.length := by
    rcases Nat.lt_or_ge i (n * z.length) with hh | hh
    · exact hh
    · rw [List.getElem?_eq_none (by rw [reps_length]; exact hh)] at hx; cases hx
  rw [reps_get z n i hi] at hx
  obtain ⟨v, hv, hV⟩ := h.get hx
  refine ⟨v, ?_, hV⟩
  rw [Array.getElem?_toList] at hv
  rw [Array.getElem?_toList, Array.getElem?_map]
  simp only [hlen, getElem!_def]
  simp [hi]
  rw [hv]
theorem elemS_eq {t e : TypeId} (h : elemS P t = some e) : P.underlying t = some (.slice e) := by
  unfold elemS at h
  split at h
  · rename_i hu; cases h; exact hu
  · cases h
theorem op_buildSlice {t el : TypeId} {n : Nat} {ps : Array (Nat × Operand)} {z : AV} {l : List (Nat × Nat × Opd)} (ho : o.op = .buildSlice t n ps) (he : elemS P t = some el) (hz : zeroOf P el = some z) (hn : n * len z.cells ≤ 16777216) (hl : allO (partA (len z.cells)) ps.toList = some l) :
    OpOk P o (oBuildSlice (len z.cells) (reps z.cells n) n l) := by
  refine OpOk.of_run fun call E c h v c' h' g hk ρ w a hr hE hf => ?_
  obtain ⟨r, hr1, hk⟩ := ifS_ok hk
  obtain ⟨m, hk2, rfl⟩ := map_ok hk
  obtain ⟨rfl, rfl, rfl, _⟩ := newO_ok hk2
  obtain ⟨i, zv, h1, h2, h3, h4, h5⟩ := zeroOf_eq hz
  have hV := (ofV_VR ρ h3).cells
  have hu := elemS_eq he
  have hsz : zv.cells.size = z.cells.length := by have := hV.length; rwa [Array.length_toList] at this
  rw [len_eq] at hn hl
  obtain ⟨arr, g1, g2, g3⟩ := fill_ok hE (fun i => some (i * z.cells.length, z.cells.length)) (partA z.cells.length) (fun q p hq => by
        obtain ⟨y, k2, hq⟩ := ifS_eq hq
        cases hq
        exact ⟨rfl, k2⟩) ps.toList l hl (reps z.cells n) r _ (reps_VR hV n) hr1
  have hs : arr.size = n * z.cells.length := by rw [g3]; simp
  refine ⟨.slice (some ⟨w.heap.size, 0, none⟩) n n, _, _, ?_, ?_, hr.newRow hf.one g2 arr (rest := []) (by simp) el (0, 0) (.inr rfl)⟩
  · simp only [execOp, ho]
    refine run_val ?_
    have hzero : (if n * i.size = 0 then (Pure.pure #[] : Sem (Array Value)) else do pure (← zeroValue el).cells).run P w = .ok (if n * i.size = 0 then #[] else zv.cells) w := by
      split
      · rfl
      · simp [zeroValue, run_info h1, h2]
    have hfill : Instr.fill (fun j => some (j * i.size, i.size)) ((Array.range (n * i.size)).map ((if n * i.size = 0 then #[] else zv.cells)[· % (if n * i.size = 0 then (#[] : Array Value) else zv.cells).size]!)) (ps.map fun q => (q.1, a.eval q.2)).toList = some arr := by
      rw [Array.toList_map, ← h4]
      by_cases h0 : n * z.cells.length = 0
      · rw [← g1, h0]
        have e0 : ∀ f : Nat → Value, (Array.range 0).map f = #[] := fun f => by rw [show Array.range 0 = #[] from rfl]; simp
        rw [e0, e0]
      · rw [if_neg h0]
        exact g1
    simp only [Instr.buildSlice, Sem.run_bind, run_under hu, Result.andThen, sizeOf, run_info h1, Sem.run_pure]
    rw [if_neg (by rw [← h4]; omega)]
    by_cases h0 : n * i.size = 0
    · rw [if_pos h0]
      simp only [if_pos h0] at hfill
      simp only [Sem.run_bind, Sem.run_pure, Result.andThen, hfill, run_newRow]
    · rw [if_neg h0]
      simp only [if_neg h0] at hfill hzero
      simp only [Sem.run_bind, Sem.run_pure, Result.andThen] at hzero
      have hz0 : (zeroValue el).run P w = .ok zv w := by simp [zeroValue, run_info h1, h2]
      simp only [Sem.run_bind, Sem.run_pure, Result.andThen, hz0, hfill, run_newRow]
  · simp only [VR]
    refine ⟨w.heap.size, arr.size, 0, n, Ren.put_same ρ m _, rfl, Nat.le_refl n, Nat.le_refl n, .inr rfl, ?_⟩
    rw [hs, len_eq]
    omega
end
end Go.Sx
