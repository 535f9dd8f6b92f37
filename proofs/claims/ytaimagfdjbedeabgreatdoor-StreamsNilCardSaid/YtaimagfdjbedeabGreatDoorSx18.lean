/-
  Symbolic runs of closed calls: part 18.
-/
import Derived.Test.YtaimagfdjbedeabGreatDoorSx8
import Derived.Laws.Tables
namespace Go.Sx
open Go.RowKit

theorem VRs.of_get {ρ : Ren} : ∀ {a : List AV} {l : List Value}, a.length = l.length → (∀ (i : Nat) (x : AV), a[i]? = some x → ∃ v, l[i]? = some v ∧ VR ρ x v) → VRs ρ a l
  | [], [], _, _ => VRs.nil ρ
  | [], _ :: _, h, _ => by cases h
  | _ :: _, [], h, _ => by cases h
  | a :: x, v :: l, h, k => by
    obtain ⟨u, hu, hV⟩ := k 0 a rfl
    cases hu
    exact VRs.cons hV (VRs.of_get (by simpa using h) fun i y hy => k (i + 1) y hy)
theorem newO_ok {o : AO} {c c' n : Nat} {h h' : H} {l : Log} (e : newO o c h = .ok n c' h' l) : n = c ∧ c' = c + 1 ∧ h' = h.set c (some o) ∧ l = [] := by cases e; exact ⟨rfl, rfl, rfl, rfl⟩
theorem Free.one {ρ : Ren} {c : Nat} (h : Free ρ c (c + 1)) : ρ c = none := h c (Nat.le_refl c) (Nat.lt_succ_self c)
theorem Rel.newRow {ρ : Ren} {h : H} {w : World} (r : Rel ρ h w) {c : Nat} (hc : ρ c = none) {cs : List AV} {l rest : List Value} (hv : VRs ρ cs l) (arr : Array Value) (ha : arr.toList = l ++ rest) (t : TypeId) (f : Nat × Nat) (hf : arr.size ≤ f.1 ∨ f.2 = 0) :
    Post ρ h w c (c + 1) (ρ.put c (w.heap.size, arr.size)) (h.set c (some (.row cs))) (w.alloc (.cells arr t f)) := by
  refine r.new hc ⟨arr, t, f.1, f.2, l, rest, ?_, rfl, ha, VRs.mono (Ren.le_put _ hc) _ _ hv, fun i hi => by omega⟩
  show (w.heap.push _)[w.heap.size]? = _
  simp
section
variable {P : Program} {o : Oper}
theorem run_newRow (t : TypeId) (cells : Array Value) (w : World) : (newRow t cells).run P w = .ok ⟨w.heap.size, 0, none⟩ (w.alloc (.cells cells t (0, 0))) := by
  rfl
theorem VR.newPtr (ρ : Ren) (c b s : Nat) : VR (ρ.put c (b, s)) (mkPtr c) (.pointer (some ⟨b, 0, none⟩)) := by
  simp only [mkPtr, VR]
  exact ⟨b, s, Ren.put_same ρ c _, rfl⟩
theorem op_alloc {e : TypeId} {z : AV} (ho : o.op = .alloc e) (hz : zeroOf P e = some z) : OpOk P o (oAlloc z.cells) := by
  refine OpOk.of_run fun call E c h v c' h' l he ρ w a hr _ hf => ?_
  obtain ⟨n, he2, rfl⟩ := map_ok he
  obtain ⟨rfl, rfl, rfl, _⟩ := newO_ok he2
  obtain ⟨zv, hrun, _, hV⟩ := run_zero (w := w) hz ρ
  refine ⟨_, _, _, ?_, VR.newPtr ρ n w.heap.size zv.cells.size, hr.newRow hf.one hV zv.cells (rest := []) (by simp) e (0, 0) (.inr rfl)⟩
  simp only [execOp, ho]
  refine run_val ?_
  simp [Instr.alloc, hrun, newVar, run_newRow]
theorem op_box {t : TypeId} {x : Operand} {y : Opd} (ho : o.op = .box t x) (k : cOpd x = some y) : OpOk P o (oBox y) := by
  refine OpOk.of_run fun call E c h v c' h' l he ρ w a hr hE hf => ?_
  obtain ⟨n, he2, rfl⟩ := map_ok he
  obtain ⟨rfl, rfl, rfl, _⟩ := newO_ok he2
  have hV := (cOpd_VR hE k).cells
  refine ⟨_, _, _, ?_, VR.newPtr ρ n w.heap.size (a.eval x).cells.size, hr.newRow hf.one hV (a.eval x).cells (rest := []) (by simp) t (0, 0) (.inr rfl)⟩
  simp only [execOp, ho]
  refine run_val ?_
  simp [Instr.box, newVar, run_newRow]
theorem fold_set (off : Nat) : ∀ (vs : List Value) (k : Nat) (arr : Array Value), off + k + vs.length ≤ arr.size →
    ((vs.zipIdx k).foldl (fun cs (p : Value × Nat) => cs.setIfInBounds (off + p.2) p.1) arr).toList = arr.toList.take (off + k) ++ (vs ++ arr.toList.drop (off + k + vs.length)) ∧
    ((vs.zipIdx k).foldl (fun cs (p : Value × Nat) => cs.setIfInBounds (off + p.2) p.1) arr).size = arr.size
  | [], k, arr, h => by simp
  | v :: vs, k, arr, h => by
    simp only [List.length_cons] at h
    obtain ⟨h1, h2⟩ := fold_set off vs (k + 1) (arr.setIfInBounds (off + k) v) (by simp; omega)
    simp only [List.zipIdx_cons, List.foldl_cons]
    refine ⟨?_, by simpa using h2⟩
    rw [h1]
    have ho : off + k < arr.toList.length := by rw [Array.length_toList]; omega
    simp only [Array.toList_setIfInBounds, List.length_cons]
    rw [show off + k + (vs.length + 1) = off + (k + 1) + vs.length by omega]
    rw [List.drop_set_of_lt (by omega), List.set_eq_take_append_cons_drop, if_pos ho, List.take_append, List.take_take]
    simp only [List.length_take, List.cons_append]
    rw [show min (off + (k + 1)) (off + k) = off + k by omega, show off + (k + 1) - min (off + k) arr.toList.length = 1 by omega]
    simp
theorem fill_ok {ρ : Ren} {e : Env} {a : Act} (hE : ER ρ e a.tmps) (place : Nat → Option (Nat × Nat)) (part : Nat × Operand → Option (Nat × Nat × Opd)) (hp : ∀ q p, part q = some p → place q.1 = some (p.1, p.2.1) ∧ cOpd q.2 = some p.2.2) :
    ∀ (ps : List (Nat × Operand)) (l : List (Nat × Nat × Opd)), allO part ps = some l → ∀ (cs r : List AV) (arr : Array Value), VRs ρ cs arr.toList → fillA e l cs = some r →
    ∃ arr', Instr.fill place arr (ps.map fun q => (q.1, a.eval q.2)) = some arr' ∧ VRs ρ r arr'.toList ∧ arr'.size = arr.size
  | [], l, hl, cs, r, arr, hv, hf => by
    cases hl
    cases hf
    exact ⟨arr, rfl, hv, rfl⟩
  | q :: ps, l, hl, cs, r, arr, hv, hf => by
    obtain ⟨p, h1, hl⟩ := ifS_eq (show ifS none (fun b => ifS none (fun r => some (b :: r)) (allO part ps)) (part q) = some l from hl)
    obtain ⟨l', h2, hl⟩ := ifS_eq hl
    cases hl
    obtain ⟨g1, g2⟩ := hp q p h1
    obtain ⟨hn, hf⟩ := ifB_eq (show ifB (Nat.beq (ev e p.2.2).cells.length p.2.1) (ifS none (fillA e l') (putAt (ev e p.2.2).cells p.1 cs)) none = some r from hf)
    obtain ⟨cs', hc, hf⟩ := ifS_eq hf
    obtain ⟨rfl, hlen⟩ := putAt_eq _ _ _ _ hc
    have hV := (cOpd_VR hE g2).cells
    have hn := Nat.eq_of_beq_eq_true hn
    have hVL := hV.length
    have hVl := hV.length
    have hcl := hv.length
    rw [Array.length_toList] at hVl hcl
    obtain ⟨f1, f2⟩ := fold_set p.1 (a.eval q.2).cells.toList 0 arr (by rw [Array.length_toList]; omega)
    obtain ⟨arr', h3, h4, h5⟩ := fill_ok hE place part hp ps l' h2 _ r (((a.eval q.2).cells.toList.zipIdx 0).foldl (fun cs (p' : Value × Nat) => cs.setIfInBounds (p.1 + p'.2) p'.1) arr) (by
      rw [f1]
      simp only [Nat.add_zero]
      refine (VRs.take _ hv).append (hV.append ?_)
      rw [hVL]
      exact VRs.drop _ hv) hf
    refine ⟨arr', ?_, h4, h5.trans f2⟩
    simp only [List.map_cons, Instr.fill, g1]
    rw [if_neg (by simp; omega)]
    rw [← Array.foldl_toList, Array.toList_zipIdx]
    exact h3
theorem map_pair (a : Act) (ps : Array (Nat × Operand)) : (ps.map fun (i, x) => (i, a.eval x)).toList = ps.toList.map fun q => (q.1, a.eval q.2) := by
  rw [Array.toList_map]
theorem op_build {t : TypeId} {ps : Array (Nat × Operand)} {z : AV} {f : Ev} (ho : o.op = .build t ps) (hz : zeroOf P t = some z) (h : cBuild P t ps.toList z = some f) : OpOk P o f := by
  obtain ⟨i, zv, h1, h2, h3, _, _⟩ := zeroOf_eq hz
  have key : ∃ l, f = oBuild z.cells l ∧ ∀ (ρ : Ren) (e : Env) (a : Act) r, ER ρ e a.tmps → fillA e l z.cells = some r → ∃ arr, P.built t (ps.map fun (i, x) => (i, a.eval x)).toList = some arr ∧ VRs ρ r arr.toList := by
    unfold cBuild at h
    split at h
    · rename_i fs hu
      obtain ⟨pl, hpl, h⟩ := ifS_eq h
      obtain ⟨l, hl, h⟩ := ifS_eq h
      cases h
      refine ⟨l, rfl, fun ρ e a r hE hr => ?_⟩
      obtain ⟨arr, g1, g2, _⟩ := fill_ok hE (pl.toArray[·]?) (partS pl) (fun q p hq => by
        obtain ⟨b, k1, hq⟩ := ifS_eq hq
        obtain ⟨y, k2, hq⟩ := ifS_eq hq
        cases hq
        exact ⟨by simpa using k1, k2⟩) ps.toList l hl z.cells r zv.cells (ofV_VR ρ h3).cells hr
      refine ⟨arr, ?_, g2⟩
      unfold Program.built
      simp only [h1, hu, h2, show fs.toList.mapM (fun f => (P.info? f.type).map fun i => (f.offset, i.size)) = some pl from hpl, map_pair]
      exact g1
    · rename_i n el hu
      obtain ⟨s, hs, h⟩ := ifS_eq h
      obtain ⟨l, hl, h⟩ := ifS_eq h
      cases h
      obtain ⟨ie, hie, hs⟩ := ifS_eq hs
      cases hs
      refine ⟨l, rfl, fun ρ e a r hE hr => ?_⟩
      obtain ⟨arr, g1, g2, _⟩ := fill_ok hE (fun i => some (i * ie.size, ie.size)) (partA ie.size) (fun q p hq => by
        obtain ⟨y, k2, hq⟩ := ifS_eq hq
        cases hq
        exact ⟨rfl, k2⟩) ps.toList l hl z.cells r zv.cells (ofV_VR ρ h3).cells hr
      refine ⟨arr, ?_, g2⟩
      unfold Program.built
      simp only [h1, hu, h2, hie, map_pair]
      exact g1
    · cases h
  obtain ⟨l, rfl, key⟩ := key
  refine OpOk.of_val fun call e c h v c' h' g he => ?_
  obtain ⟨r, hr, he⟩ := ifS_ok he
  obtain ⟨rfl, rfl, rfl, _⟩ := pure_ok he
  refine ⟨rfl, rfl, fun ρ w a _ hE => ?_⟩
  obtain ⟨arr, k1, k2⟩ := key ρ e a r hE hr
  refine ⟨.agg arr, ?_, by simp only [VR]; exact ⟨_, rfl, k2⟩⟩
  simp only [execOp, ho]
  refine run_val ?_
  exact run_build w t _ arr k1
theorem reps_get (z : List AV) : ∀ (n i : Nat), i < n * z.length → (reps z n)[i]? = z[i % z.length]?
  | 0, i, h => by omega
  | n + 1, i, h => by
    show (z ++ reps z n)[i]? = _
    by_cases hi : i < z.length
    · rw [List.getElem?_append_left hi, Nat.mod_eq_of_lt hi]
    · rw [List.getElem?_append_right (by omega), reps_get z n (i - z.length) (by rw [Nat.add_mul] at h; omega), ← Nat.mod_eq_sub_mod (by omega)]
theorem reps_length (z : List AV) : ∀ n, (reps z n).length = n * z.length
  | 0 => by rw [Nat.zero_mul]; rfl
  | n + 1 => by
    show (z ++ reps z n).length = _
    rw [List.length_append, reps_length z n, Nat.add_mul]
    omega
/-- zero values, one behind the other -/
theorem reps_VR {ρ : Ren} {z : List AV} {zero : Array Value} (h : VRs ρ z zero.toList) (n : Nat) : VRs ρ (reps z n) ((Array.range (n * z.length)).map fun i => zero[i % zero.size]!).toList := by
  have hlen := h.length
  rw [Array.length_toList] at hlen
  refine VRs.of_get (by rw [reps_length]; simp) fun i x hx => ?_
  have hi : i < n * z.length := by
    rcases Nat.lt_or_ge i (n * z.length) with hh | hh
    · exact hh
    · rw [List.getElem?_eq_none (by rw [reps_length]; exact hh)] at hx; cases hx
  rw [reps_get z n i hi] at hx
  obtain ⟨v, hv, hV⟩ := h.get hx
  refine ⟨v, ?_, hV⟩
  rw [Array.getElem?_toList] at hv
  rw [Array.getElem?_toList, Array.getElem?_map]
  simp only [hlen, getElem!_def]
  simp [hi]
  rw [hv]
theorem elemS_eq {t e : TypeId} (h : elemS P t = some e) : P.underlying t = some (.slice e) := by
  unfold elemS at h
  split at h
  · rename_i hu; cases h; exact hu
  · cases h
theorem op_buildSlice {t el : TypeId} {n : Nat} {ps : Array (Nat × Operand)} {z : AV} {l : List (Nat × Nat × Opd)} (ho : o.op = .buildSlice t n ps) (he : elemS P t = some el) (hz : zeroOf P el = some z) (hn : n * Nat.succ (len z.cells) ≤ 16777216) (hl : allO (partA (len z.cells)) ps.toList = some l) :
    OpOk P o (oBuildSlice (len z.cells) (reps z.cells n) n l) := by
  refine OpOk.of_run fun call E c h v c' h' g hk ρ w a hr hE hf => ?_
  obtain ⟨r, hr1, hk⟩ := ifS_ok hk
  obtain ⟨m, hk2, rfl⟩ := map_ok hk
  obtain ⟨rfl, rfl, rfl, _⟩ := newO_ok hk2
  obtain ⟨i, zv, h1, h2, h3, h4, h5⟩ := zeroOf_eq hz
  have hV := (ofV_VR ρ h3).cells
  have hu := elemS_eq he
  have hsz : zv.cells.size = z.cells.length := by have := hV.length; rwa [Array.length_toList] at this
  rw [len_eq] at hn hl
  rw [Nat.mul_succ] at hn
  obtain ⟨arr, g1, g2, g3⟩ := fill_ok hE (fun i => some (i * z.cells.length, z.cells.length)) (partA z.cells.length) (fun q p hq => by
        obtain ⟨y, k2, hq⟩ := ifS_eq hq
        cases hq
        exact ⟨rfl, k2⟩) ps.toList l hl (reps z.cells n) r _ (reps_VR hV n) hr1
  have hs : arr.size = n * z.cells.length := by rw [g3]; simp
  refine ⟨.slice (some ⟨w.heap.size, 0, none⟩) n n, _, _, ?_, ?_, hr.newRow hf.one g2 arr (rest := []) (by simp) el (0, 0) (.inr rfl)⟩
  · simp only [execOp, ho]
    refine run_val ?_
    have hzero : (if n * i.size = 0 then (Pure.pure #[] : Sem (Array Value)) else do pure (← zeroValue el).cells).run P w = .ok (if n * i.size = 0 then #[] else zv.cells) w := by
      split
      · rfl
      · simp [zeroValue, run_info h1, h2]
    have hfill : Instr.fill (fun j => some (j * i.size, i.size)) ((Array.range (n * i.size)).map ((if n * i.size = 0 then #[] else zv.cells)[· % (if n * i.size = 0 then (#[] : Array Value) else zv.cells).size]!)) (ps.map fun q => (q.1, a.eval q.2)).toList = some arr := by
      rw [Array.toList_map, ← h4]
      by_cases h0 : n * z.cells.length = 0
      · rw [← g1, h0]
        have e0 : ∀ f : Nat → Value, (Array.range 0).map f = #[] := fun f => by rw [show Array.range 0 = #[] from rfl]; simp
        rw [e0, e0]
      · rw [if_neg h0]
        exact g1
    simp only [Instr.buildSlice, Sem.run_bind, run_under hu, Result.andThen, sizeOf, run_info h1, Sem.run_pure]
    rw [if_neg (by rw [← h4]; omega)]
    by_cases h0 : n * i.size = 0
    · rw [if_pos h0]
      simp only [if_pos h0] at hfill
      simp only [Sem.run_bind, Sem.run_pure, Result.andThen, hfill, run_newRow]
    · rw [if_neg h0]
      simp only [if_neg h0] at hfill hzero
      simp only [Sem.run_bind, Sem.run_pure, Result.andThen] at hzero
      have hz0 : (zeroValue el).run P w = .ok zv w := by simp [zeroValue, run_info h1, h2]
      simp only [Sem.run_bind, Sem.run_pure, Result.andThen, hz0, hfill, run_newRow]
  · simp only [VR]
    refine ⟨w.heap.size, arr.size, 0, n, Ren.put_same ρ m _, rfl, Nat.le_refl n, Nat.le_refl n, .inr rfl, ?_, by omega⟩
    rw [hs, len_eq]
    omega
end
end Go.Sx
namespace Go.Sx
open Go.RowKit

section
variable {α β : Type} {c c' : Nat} {h h' : H} {l : Log}
theorem low_ok {n : Nat} {r : Rs α} {x : α} (e : ifB (Nat.blt n c) r .fail = .ok x c' h' l) : n < c ∧ r = .ok x c' h' l := by
  cases k : Nat.blt n c with
  | false => rw [k] at e; cases e
  | true =>
    rw [k] at e
    rw [blt_dec] at k
    exact ⟨of_decide_eq_true k, e⟩
theorem load1_ok {n off : Nat} {v : AV} (e : load1 n off c h = .ok v c' h' l) : ∃ cs t, h.get n = some (.row cs) ∧ dropN off cs = v :: t ∧ c' = c ∧ h' = h ∧ l = [(n, some off, false)] ∧ n < c := by
  obtain ⟨hlow, e⟩ := low_ok (show ifB (Nat.blt n c) _ .fail = Rs.ok v c' h' l from e)
  have e : ifS .fail (fun cs => ifC .fail (fun v _ => .ok v c h [(n, some off, false)]) (dropN off cs)) (rowOf h n) = Rs.ok v c' h' l := e
  cases k : rowOf h n with
  | none => rw [k] at e; cases e
  | some cs =>
    rw [k] at e
    have e : ifC .fail (fun v _ => .ok v c h [(n, some off, false)]) (dropN off cs) = Rs.ok v c' h' l := e
    cases q : dropN off cs with
    | nil => rw [q] at e; cases e
    | cons a t => rw [q] at e; cases e; exact ⟨cs, t, rowOf_some k, q, rfl, rfl, rfl, hlow⟩
theorem loadR_ok {n off k : Nat} {v : List AV} (e : loadR n off k c h = .ok v c' h' l) : ∃ cs, h.get n = some (.row cs) ∧ takeN k (dropN off cs) = some v ∧ c' = c ∧ h' = h ∧ l = locs false n k off ∧ n < c := by
  obtain ⟨hlow, e⟩ := low_ok (show ifB (Nat.blt n c) _ .fail = Rs.ok v c' h' l from e)
  have e : ifS .fail (fun cs => ifS .fail (fun l => .ok l c h (locs false n k off)) (takeN k (dropN off cs))) (rowOf h n) = Rs.ok v c' h' l := e
  cases q : rowOf h n with
  | none => rw [q] at e; cases e
  | some cs =>
    rw [q] at e
    have e : ifS .fail (fun l => .ok l c h (locs false n k off)) (takeN k (dropN off cs)) = Rs.ok v c' h' l := e
    cases t : takeN k (dropN off cs) with
    | none => rw [t] at e; cases e
    | some r => rw [t] at e; cases e; exact ⟨cs, rowOf_some q, t, rfl, rfl, rfl, hlow⟩
theorem loadN_ok {n off k : Nat} {v : List AV} (e : loadN n off k c h = .ok v c' h' l) : c' = c ∧ h' = h ∧ ((k = 0 ∧ v = []) ∨ ∃ cs, h.get n = some (.row cs) ∧ takeN k (dropN off cs) = some v) := by
  unfold loadN at e
  cases hk : Nat.beq k 0 with
  | true =>
    rw [hk] at e
    obtain ⟨rfl, rfl, rfl, _⟩ := pure_ok (show M.pure [] c h = _ from e)
    exact ⟨rfl, rfl, .inl ⟨Nat.eq_of_beq_eq_true hk, rfl⟩⟩
  | false =>
    rw [hk] at e
    obtain ⟨cs, h1, h2, rfl, rfl, _⟩ := loadR_ok (show loadR n off k c h = _ from e)
    exact ⟨rfl, rfl, .inr ⟨cs, h1, h2⟩⟩
theorem storeR_ok {n off : Nat} {vs : List AV} {u : Unit} (e : storeR n off vs c h = .ok u c' h' l) : ∃ cs r, h.get n = some (.row cs) ∧ putAt vs off cs = some r ∧ scals vs = true ∧ c' = c ∧ h' = h.set n (some (.row r)) ∧ l = locs true n (len vs) off ∧ n < c := by
  obtain ⟨hlow, e⟩ := low_ok (show ifB (Nat.blt n c) _ .fail = Rs.ok u c' h' l from e)
  have e : ifS .fail (fun cs => ifS .fail (fun r => ifB (scals vs) (.ok () c (h.set n (some (.row r))) (locs true n (len vs) off)) .fail) (putAt vs off cs)) (rowOf h n) = Rs.ok u c' h' l := e
  cases q : rowOf h n with
  | none => rw [q] at e; cases e
  | some cs =>
    rw [q] at e
    have e : ifS .fail (fun r => ifB (scals vs) (.ok () c (h.set n (some (.row r))) (locs true n (len vs) off)) .fail) (putAt vs off cs) = Rs.ok u c' h' l := e
    cases t : putAt vs off cs with
    | none => rw [t] at e; cases e
    | some r =>
      rw [t] at e
      have e : ifB (scals vs) (.ok () c (h.set n (some (.row r))) (locs true n (len vs) off)) .fail = Rs.ok u c' h' l := e
      cases s : scals vs with
      | false => rw [s] at e; cases e
      | true => rw [s] at e; cases e; exact ⟨cs, r, rowOf_some q, t, rfl, rfl, rfl, rfl, hlow⟩
theorem storeN_ok {n off : Nat} {vs : List AV} {u : Unit} (e : storeN n off vs c h = .ok u c' h' l) : c' = c ∧ ((vs = [] ∧ h' = h) ∨ ∃ cs r, h.get n = some (.row cs) ∧ putAt vs off cs = some r ∧ scals vs = true ∧ h' = h.set n (some (.row r))) := by
  cases vs with
  | nil =>
    obtain ⟨rfl, rfl, rfl, _⟩ := pure_ok (show M.pure () c h = _ from e)
    exact ⟨rfl, .inl ⟨rfl, rfl⟩⟩
  | cons v vs =>
    obtain ⟨cs, r, h1, h2, h3, rfl, rfl, _⟩ := storeR_ok (show storeR n off (v :: vs) c h = _ from e)
    exact ⟨rfl, .inr ⟨cs, r, h1, h2, h3, rfl⟩⟩
theorem killRow_ok {n off k : Nat} {v : List AV} (e : killRow n off k c h = .ok v c' h' l) : ∃ cs, h.get n = some (.row cs) ∧ takeN k (dropN off cs) = some v ∧ c' = c ∧ h' = h.set n none ∧ l = [(n, none, true)] ∧ n < c := by
  obtain ⟨hlow, e⟩ := low_ok (show ifB (Nat.blt n c) _ .fail = Rs.ok v c' h' l from e)
  have e : ifS .fail (fun cs => ifS .fail (fun l => .ok l c (h.set n none) [(n, none, true)]) (takeN k (dropN off cs))) (rowOf h n) = Rs.ok v c' h' l := e
  cases q : rowOf h n with
  | none => rw [q] at e; cases e
  | some cs =>
    rw [q] at e
    have e : ifS .fail (fun l => .ok l c (h.set n none) [(n, none, true)]) (takeN k (dropN off cs)) = Rs.ok v c' h' l := e
    cases t : takeN k (dropN off cs) with
    | none => rw [t] at e; cases e
    | some r => rw [t] at e; cases e; exact ⟨cs, rowOf_some q, t, rfl, rfl, rfl, hlow⟩
theorem getMap_ok {n : Nat} {r : List (AV × AV × Nat) × Nat} (e : getMap n c h = .ok r c' h' l) : h.get n = some (.mp r.1 r.2) ∧ c' = c ∧ h' = h ∧ l = [(n, none, false)] ∧ n < c := by
  obtain ⟨hlow, e⟩ := low_ok (show ifB (Nat.blt n c) _ .fail = Rs.ok r c' h' l from e)
  have e : ifS .fail (fun r => .ok r c h [(n, none, false)]) (ifS none AO.map? (h.get n)) = Rs.ok r c' h' l := e
  cases q : h.get n with
  | none => rw [q] at e; cases e
  | some o =>
    rw [q] at e
    cases o with
    | row cs => cases e
    | mp es k => cases e; exact ⟨rfl, rfl, rfl, rfl, hlow⟩
theorem setMap_ok {n : Nat} {r : List (AV × AV × Nat) × Nat} {u : Unit} (e : setMap n r c h = .ok u c' h' l) : c' = c ∧ h' = h.set n (some (.mp r.1 r.2)) ∧ l = [(n, none, true)] ∧ n < c ∧ ∃ o, h.get n = some o := by
  obtain ⟨hlow, e⟩ := low_ok (show ifB (Nat.blt n c) _ .fail = Rs.ok u c' h' l from e)
  have e : ifS .fail (fun _ => .ok () c (h.set n (some (.mp r.1 r.2))) [(n, none, true)]) (h.get n) = Rs.ok u c' h' l := e
  cases q : h.get n with
  | none => rw [q] at e; cases e
  | some o => rw [q] at e; cases e; exact ⟨rfl, rfl, rfl, hlow, o, rfl⟩
end
theorem VR.oneCell {ρ : Ren} {a : AV} {v : Value} (h : VR ρ a v) (s : scal a = true) : v.oneCell' = true := by
  cases a with
  | agg l => cases s
  | tuple l => cases s
  | bool b => simp only [VR] at h; subst h; rfl
  | int b n => simp only [VR] at h; subst h; rfl
  | str s => simp only [VR] at h; obtain ⟨_, rfl, _⟩ := h; rfl
  | ptr a => cases a <;> simp only [VR] at h <;> (first | subst h | obtain ⟨_, _, _, rfl⟩ := h) <;> rfl
  | slice a n c z => cases a <;> simp only [VR] at h <;> (first | subst h | obtain ⟨_, _, _, _, _, rfl, _⟩ := h) <;> rfl
  | map a => cases a <;> simp only [VR] at h <;> (first | subst h | obtain ⟨_, _, _, rfl⟩ := h) <;> rfl
  | fn f a c => simp only [VR] at h; obtain ⟨_, _, rfl, _⟩ := h; rfl
  | nilFn => simp only [VR] at h; subst h; rfl
  | iface t x => simp only [VR] at h; obtain ⟨_, rfl, _⟩ := h; rfl
  | nilIface => simp only [VR] at h; subst h; rfl
theorem VRs.oneCell {ρ : Ren} : ∀ {a : List AV} {l : List Value}, VRs ρ a l → scals a = true → ∀ v ∈ l, v.oneCell' = true
  | [], _, h, _, v, hv => by simp only [VRs] at h; subst h; cases hv
  | a :: x, _, h, s, v, hv => by
    simp only [VRs] at h
    obtain ⟨u, r, rfl, h1, h2⟩ := h
    have s : ifB (scal a) (scals x) false = true := s
    cases k : scal a with
    | false => rw [k] at s; cases s
    | true =>
      rw [k] at s
      rcases List.mem_cons.1 hv with rfl | hv
      · exact h1.oneCell k
      · exact VRs.oneCell h2 s v hv
section
variable {P : Program} {o : Oper}
/-- cells of a row, loaded -/
theorem Rel.run_loadN {ρ : Ren} {h : H} {w : World} (r : Rel ρ h w) {n off k : Nat} {cs v : List AV} (e : h.get n = some (.row cs)) (ht : takeN k (dropN off cs) = some v) :
    ∃ b s, ρ n = some (b, s) ∧ ∃ l : List Value, l.length = k ∧ VRs ρ v l ∧ ∀ w' : World, w'.heap = w.heap → (loadCells ⟨b, off, none⟩ k).run P w' = .ok l.toArray w' := by
  obtain ⟨b, s, f, hle, _, hc⟩ := r.cells e
  obtain ⟨rfl, hk⟩ := takeN_eq _ _ _ ht
  rw [dropN_eq] at hk ⊢
  have hlen : ((cs.drop off).take k).length = k := by rw [List.length_take]; omega
  have key : ∀ j, j < k → ∃ u, w.cell? ⟨b, off + j, none⟩ = some u ∧ ∃ x, ((cs.drop off).take k)[j]? = some x ∧ VR ρ x u := fun j hj => by
    have hj' : off + j < cs.length := by rw [List.length_drop] at hk; omega
    obtain ⟨u, h1, h2⟩ := hc (off + j) cs[off + j] (List.getElem?_eq_getElem hj')
    exact ⟨u, h1, _, by rw [List.getElem?_take, if_pos hj, List.getElem?_drop, List.getElem?_eq_getElem hj'], h2⟩
  refine ⟨b, s, f, (List.range k).map fun j => (w.cell? ⟨b, off + j, none⟩).getD undef, by simp, ?_, ?_⟩
  · refine VRs.of_get (by rw [hlen]; simp) fun i x hx => ?_
    have hi : i < k := by
      rcases Nat.lt_or_ge i k with hh | hh
      · exact hh
      · rw [List.getElem?_eq_none (by omega)] at hx; cases hx
    obtain ⟨u, h1, x', h2, h3⟩ := key i hi
    rw [hx] at h2
    cases h2
    exact ⟨u, by simp [hi, h1], h3⟩
  · intro w' hw
    rw [run_loadCells w' ⟨b, off, none⟩ k (fun j => (w.cell? ⟨b, off + j, none⟩).getD undef) fun j hj => by
      obtain ⟨u, h1, _⟩ := key j hj
      rw [addr_add, show w'.cell? ⟨b, off + j, none⟩ = w.cell? ⟨b, off + j, none⟩ by simp [World.cell?, hw], h1]
      rfl]
theorem load1At_ok {ρ : Ren} {h h' : H} {w : World} (r : Rel ρ h w) {c c' : Nat} {v x : AV} {l : Log} (e : load1At v c h = .ok x c' h' l) {u : Value} (hu : VR ρ v u) :
    c' = c ∧ h' = h ∧ ∃ b i y, u = .pointer (some ⟨b, i, none⟩) ∧ w.cell? ⟨b, i, none⟩ = some y ∧ VR ρ x y := by
  obtain ⟨p, rfl, e⟩ := onPtr_ok e
  obtain ⟨p, rfl, e⟩ := ifS_ok e
  obtain ⟨cs, t, h1, h2, rfl, rfl, _⟩ := load1_ok e
  simp only [VR] at hu
  obtain ⟨b, s, h3, rfl⟩ := hu
  obtain ⟨b', s', h4, _, _, hc⟩ := r.cells h1
  rw [h3] at h4
  cases h4
  rw [dropN_eq] at h2
  obtain ⟨y, h5, h6⟩ := hc p.2 x (by simpa [List.head?_drop] using congrArg List.head? h2)
  exact ⟨rfl, rfl, b, p.2, y, rfl, h5, h6⟩
theorem loadNAt_ok {ρ : Ren} {h h' : H} {w : World} (r : Rel ρ h w) {c c' n : Nat} {v x : AV} {l : Log} (e : loadNAt n v c h = .ok x c' h' l) {u : Value} (hu : VR ρ v u) :
    c' = c ∧ h' = h ∧ ∃ a y, u = .pointer (some a) ∧ (loadCells a n).run P w = .ok y w ∧ VR ρ x (.agg y) := by
  obtain ⟨p, rfl, e⟩ := onPtr_ok e
  obtain ⟨p, rfl, e⟩ := ifS_ok e
  obtain ⟨q, e2, rfl⟩ := map_ok e
  obtain ⟨rfl, rfl, hh⟩ := loadN_ok e2
  simp only [VR] at hu
  obtain ⟨b, s, h3, rfl⟩ := hu
  rcases hh with ⟨rfl, rfl⟩ | ⟨cs, h1, h2⟩
  · exact ⟨rfl, rfl, _, #[], rfl, rfl, by simp only [VR]; exact ⟨_, rfl, VRs.nil ρ⟩⟩
  obtain ⟨b', s', h4, y, _, h5, h6⟩ := r.run_loadN (P := P) h1 h2
  rw [h3] at h4
  cases h4
  exact ⟨rfl, rfl, _, _, rfl, h6 w rfl, by simp only [VR]; exact ⟨_, rfl, h5⟩⟩
theorem op_load1 {t : TypeId} {x : Operand} {y : Opd} (ho : o.op = .load t x) (k : cOpd x = some y) (ha : aggO P t = some false) : OpOk P o (oLoad1 y) := by
  refine OpOk.of_run fun call E c h v c' h' l he ρ w a hr hE hf => ?_
  obtain ⟨rfl, rfl, b, i, u, h1, h2, h3⟩ := load1At_ok hr he (cOpd_VR hE k)
  refine ⟨u, ρ, w, ?_, h3, Post.refl hr⟩
  simp only [execOp, ho]
  refine run_val ?_
  simp [Instr.loadAt, h1, Instr.sureAddr, loadVar, run_isAgg ha, h2]
theorem op_loadN {t : TypeId} {n : Nat} {x : Operand} {y : Opd} (ho : o.op = .load t x) (k : cOpd x = some y) (ha : aggO P t = some true) (hn : sizeO P t = some n) : OpOk P o (oLoadN n y) := by
  refine OpOk.of_run fun call E c h v c' h' l he ρ w a hr hE hf => ?_
  obtain ⟨rfl, rfl, b, u, h1, h2, h3⟩ := loadNAt_ok (P := P) hr he (cOpd_VR hE k)
  refine ⟨.agg u, ρ, w, ?_, h3, Post.refl hr⟩
  simp only [execOp, ho]
  refine run_val ?_
  simp [Instr.loadAt, h1, Instr.sureAddr, loadVar, run_isAgg ha, run_size hn, h2]
/-- cells stored into a row -/
theorem Rel.run_store {ρ : Ren} {h h' : H} {w : World} (r : Rel ρ h w) {n off c c' b s : Nat} {vs : List AV} {u : Unit} {g : Log} (e : storeN n off vs c h = .ok u c' h' g) {l : List Value} (hv : VRs ρ vs l) (hb : ρ n = some (b, s)) :
    c' = c ∧ ∃ w', (storeCells ⟨b, off, none⟩ l).run P w = .ok () w' ∧ Post ρ h w c c ρ h' w' := by
  obtain ⟨rfl, hh⟩ := storeN_ok e
  rcases hh with ⟨rfl, rfl⟩ | ⟨cs, q, h1, h2, h3, rfl⟩
  · simp only [VRs] at hv
    subst hv
    exact ⟨rfl, w, rfl, Post.refl r⟩
  obtain ⟨hq, hlen⟩ := putAt_eq _ _ _ _ h2
  obtain ⟨b', s', f, hp⟩ := r.store (c := c') h1 hv hq hlen
  rw [hb] at f
  cases f
  obtain ⟨b', s', f', hle, hok, _⟩ := r.cells h1
  rw [hb] at f'
  cases f'
  have hl := hv.length
  refine ⟨rfl, _, ?_, hp⟩
  have := run_storeCells_cells (P := P) b off l 0 w (fun j hj => (hok _ (by omega)).1) (fun j hj => (hok _ (by omega)).2) (hv.oneCell h3)
  simpa using this
theorem op_store {t : TypeId} {n : Nat} {x z : Operand} {y q : Opd} (ho : o.op = .store t x z) (k : cOpd x = some y) (kz : cOpd z = some q) (hn : sizeO P t = some n) : OpOk P o (oStore n y q) := by
  refine OpOk.of_skip fun call E c h v c' h' l he => ?_
  obtain ⟨hlen, he⟩ := ifB_ok he
  obtain ⟨p, hp, he⟩ := onPtr_ok he
  obtain ⟨p, rfl, he⟩ := ifS_ok he
  obtain ⟨u, he2, rfl⟩ := map_ok he
  refine ⟨rfl, fun ρ w a hr hE hf => ?_⟩
  have hx := cOpd_VR hE k
  have hV := (cOpd_VR hE kz).cells
  rw [hp] at hx
  simp only [VR] at hx
  obtain ⟨b, s, h1, h2⟩ := hx
  obtain ⟨rfl, w', h4, h5⟩ := hr.run_store (P := P) he2 hV h1
  refine ⟨ρ, w', ?_, h5⟩
  have hsz : (a.eval z).cells.size = n := by
    have := hV.length
    rw [Array.length_toList] at this
    rw [this]
    exact Nat.eq_of_beq_eq_true hlen
  simp [execOp, ho, Instr.storeAt, h2, Instr.sureAddr, storeVar, run_size hn, hsz, h4]
end
end Go.Sx
namespace Go.Sx
open Go.RowKit

section
variable {P : Program} {o : Oper}
theorem wrap_lt (k : IntKind) {m : Nat} (h1 : (m : Int) < 2 ^ k.bits) (h2 : k.signed = true → (m : Int) < 2 ^ (k.bits - 1)) : k.wrap (m : Int) = m := by
  have e : (m : Int) % 2 ^ k.bits = m := Int.emod_eq_of_lt (by omega) h1
  simp only [IntKind.wrap, e]
  split
  · rename_i hc
    simp only [Bool.and_eq_true, decide_eq_true_eq] at hc
    exact absurd hc.2 (Int.not_le.2 (h2 hc.1))
  · rfl
theorem wrap_small {n : Nat} (h : n ≤ 1048576) : IntKind.i64.wrap (n : Int) = n :=
  wrap_lt .i64 (by show (n : Int) < 2 ^ 64; omega) (fun _ => by show (n : Int) < 2 ^ 63; omega)
theorem op_makeMap {t : TypeId} (ho : o.op = .makeMap t none) : OpOk P o oMakeMap := by
  refine OpOk.of_run fun call E c h v c' h' l he ρ w a hr _ hf => ?_
  obtain ⟨n, he2, rfl⟩ := map_ok he
  obtain ⟨rfl, rfl, rfl, _⟩ := newO_ok he2
  refine ⟨.map (some w.heap.size), _, _, ?_, ?_, hr.new (s := 0) (obj := .map #[] 0) (o := .mp [] 0) hf.one ⟨#[], by show (w.heap.push _)[w.heap.size]? = _; simp, rfl⟩⟩
  · simp only [execOp, ho]
    refine run_val ?_
    rfl
  · simp only [VR]
    exact ⟨w.heap.size, 0, Ren.put_same ρ n _, rfl⟩
theorem op_makeSlice {t el : TypeId} {x y : Operand} {x' y' : Opd} {z : AV} (ho : o.op = .makeSlice t x y) (he : elemS P t = some el) (hz : zeroOf P el = some z) (kx : cOpd x = some x') (ky : cOpd y = some y') : OpOk P o (oMakeSlice z.cells x' y') := by
  refine OpOk.of_run fun call E c h v c' h' g hk ρ w a hr hE hf => ?_
  obtain ⟨l0, hl, hk⟩ := ifS_ok hk
  obtain ⟨c0, hc, hk⟩ := ifS_ok hk
  obtain ⟨hb, hk⟩ := ifB_ok hk
  obtain ⟨m, hk2, rfl⟩ := map_ok hk
  obtain ⟨rfl, rfl, rfl, _⟩ := newO_ok hk2
  obtain ⟨b1, b2⟩ := le_of_two hb
  obtain ⟨i, zv, h1, h2, h3, h4, h5⟩ := zeroOf_eq hz
  have hV := (ofV_VR ρ h3).cells
  have hu := elemS_eq he
  have hsz : zv.cells.size = z.cells.length := by have := hV.length; rwa [Array.length_toList] at this
  obtain ⟨j1, hx⟩ := asN_VR (cOpd_VR hE kx) hl
  obtain ⟨j2, hy⟩ := asN_VR (cOpd_VR hE ky) hc
  have hR := reps_VR hV c0
  generalize ha : (Array.range (c0 * z.cells.length)).map (fun i => zv.cells[i % zv.cells.size]!) = arr at hR
  have hs : arr.size = c0 * z.cells.length := by rw [← ha, Array.size_map, Array.size_range]
  refine ⟨.slice (some ⟨w.heap.size, 0, none⟩) l0 c0, _, _, ?_, ?_, hr.newRow hf.one hR arr (rest := []) (by simp) el (0, 0) (.inr rfl)⟩
  · simp only [execOp, ho]
    refine run_val ?_
    have hbig : ¬ ((i.bytes : Int) * (c0 : Int) > 2 ^ 48) := by
      have h6 := Nat.mul_le_mul h5 b2
      rw [← Int.natCast_mul]
      generalize i.bytes * c0 = q at h6
      omega
    have hw1 := wrap_small (Nat.le_trans b1 b2)
    have hw2 := wrap_small b2
    have hn1 : ¬ ((c0 : Int) < 0) := by omega
    have hn2 : ¬ ((l0 : Int) < 0) := by omega
    have hn3 : ¬ ((l0 : Int) > (c0 : Int)) := by omega
    have hfill : (Array.range (c0 * i.size)).map ((if c0 * i.size = 0 then (#[] : Array Value) else zv.cells)[· % (if c0 * i.size = 0 then (#[] : Array Value) else zv.cells).size]!) = arr := by
      rw [← ha, ← h4]
      by_cases h0 : c0 * z.cells.length = 0
      · rw [h0]
        have e0 : ∀ f : Nat → Value, (Array.range 0).map f = #[] := fun f => by rw [show Array.range 0 = #[] from rfl]; simp
        rw [e0, e0]
      · rw [if_neg h0]
    have hi1 : (asInt (a.eval x)).run P w = .ok (l0 : Int) w := by rw [hx]; rfl
    have hi2 : (asInt (a.eval y)).run P w = .ok (c0 : Int) w := by rw [hy]; rfl
    simp only [Instr.makeSlice, Sem.run_bind, run_under hu, Result.andThen, hi1, hi2, run_info h1, hw1, hw2]
    simp only [decide_eq_false hn1, decide_eq_false hn2, decide_eq_false hn3, decide_eq_false hbig, Bool.or_self, Bool.false_eq_true, if_false, Int.toNat_natCast, Sem.run_bind, run_askRoom, Result.andThen, sizeOf, run_info h1, Sem.run_pure]
    have hz0 : (zeroValue el).run P w = .ok zv w := by simp [zeroValue, run_info h1, h2]
    by_cases h0 : c0 * i.size = 0
    · rw [if_pos h0]
      simp only [if_pos h0] at hfill
      simp only [Sem.run_bind, Sem.run_pure, Result.andThen, hfill, run_newRow]
    · rw [if_neg h0]
      simp only [if_neg h0] at hfill
      simp only [Sem.run_bind, Sem.run_pure, Result.andThen, hz0, hfill, run_newRow]
  · simp only [VR]
    refine ⟨w.heap.size, arr.size, 0, c0, Ren.put_same ρ m _, rfl, Nat.le_refl _, b1, .inr rfl, ?_, by omega⟩
    rw [hs, len_eq]
    omega
theorem getMap_rel {ρ : Ren} {h : H} {w : World} (r : Rel ρ h w) {n k : Nat} {es : List (AV × AV × Nat)} (e : h.get n = some (.mp es k)) :
    ∃ b s a, ρ n = some (b, s) ∧ w.heap[b]? = some (.map a k) ∧ ERs ρ es a.toList := by
  obtain ⟨b, s, f, a, h1, h2⟩ := r.lies n _ e
  exact ⟨b, s, a, f, h1, h2⟩
theorem ERs.length {ρ : Ren} : ∀ {x : List (AV × AV × Nat)} {l : List MapEntry}, ERs ρ x l → l.length = x.length
  | [], _, h => by rw [show _ = _ from h]; rfl
  | _ :: x, _, ⟨e, r, h1, _, _, _, h5⟩ => by rw [h1]; simp [ERs.length h5]
theorem VR.int64 (ρ : Ren) (n : Nat) : VR ρ (int64 n) (goInt n) := VR.int ρ .i64 n
theorem run_builtin {b : Builtin} {args : Array Operand} {ts : Array TypeId} {a : Act} {w w' : World} {v : Value} {s : Sem Value} (ho : o.op = .call { callee := .builtin b, args, argTypes := ts })
    (hb : ∀ cs, builtin b ts o.type cs (args.map a.eval) = do pure (.value (← s))) (h : s.run P w = .ok v w') : (execOp a.eval o).run P w = .ok (.value v) w' := by
  simp only [execOp, ho, resolve, Sem.run_bind, Sem.run_pure, Result.andThen, invoke, hb, h]
theorem op_lenArr {n : Nat} {t : TypeId} {x : Operand} (ho : o.op = .call { callee := .builtin .len, args := #[x], argTypes := #[t] })
    (ht : (∃ e, P.underlying t = some (.array n e)) ∨ ∃ p e, P.underlying t = some (.pointer p) ∧ P.underlying p = some (.array n e)) : OpOk P o (oLenArr n) := by
  refine OpOk.of_val fun call e c h v c' h' l he => ?_
  obtain ⟨rfl, rfl, rfl, _⟩ := pure_ok he
  refine ⟨rfl, rfl, fun ρ w a _ hE => ⟨goInt n, run_builtin ho (fun _ => rfl) ?_, VR.int64 ρ n⟩⟩
  rcases ht with ⟨e, h1⟩ | ⟨p, e, h1, h2⟩
  · simp [Builtin.len_, run_under h1]
  · simp [Builtin.len_, run_under h1, run_under h2]
theorem op_len {t : TypeId} {x : Operand} {y : Opd} (ho : o.op = .call { callee := .builtin .len, args := #[x], argTypes := #[t] }) (k : cOpd x = some y) (d : TypeDesc) (hd : P.underlying t = some d)
    (f : Ev) (ht : (d = .string ∧ f = oLenStr y) ∨ (∃ e, d = .slice e ∧ f = oLenSl y) ∨ (∃ i e, d = .map i e ∧ f = oLenMap y)) : OpOk P o f := by
  rcases ht with ⟨rfl, rfl⟩ | ⟨e0, rfl, rfl⟩ | ⟨i0, e0, rfl, rfl⟩
  · refine OpOk.of_val fun call e c h v c' h' l he => ?_
    obtain ⟨s, hs, he⟩ := onStr_ok he
    obtain ⟨rfl, rfl, rfl, _⟩ := pure_ok he
    refine ⟨rfl, rfl, fun ρ w a _ hE => ?_⟩
    have hx := cOpd_VR hE k
    rw [hs] at hx
    simp only [VR] at hx
    obtain ⟨b, hb, hx⟩ := hx
    refine ⟨goInt s.length, run_builtin ho (fun _ => rfl) ?_, by rw [len_eq]; exact VR.int64 ρ _⟩
    simp [Builtin.len_, run_under hd, hb, str_len hx]
  · refine OpOk.of_val fun call e c h v c' h' l he => ?_
    obtain ⟨p, n, m, z, hs, he⟩ := onSlice_ok he
    obtain ⟨rfl, rfl, rfl, _⟩ := pure_ok he
    refine ⟨rfl, rfl, fun ρ w a _ hE => ⟨goInt n, run_builtin ho (fun _ => rfl) ?_, VR.int64 ρ n⟩⟩
    have hx := cOpd_VR hE k
    rw [hs] at hx
    cases p <;> simp only [VR] at hx
    · simp [Builtin.len_, run_under hd, hx]
    · obtain ⟨_, _, _, _, _, hx, _⟩ := hx
      simp [Builtin.len_, run_under hd, hx]
  · refine OpOk.of_run fun call e c h v c' h' l he ρ w a hr hE hf => ?_
    have hx := cOpd_VR hE k
    obtain ⟨p, hs, he⟩ := onMap_ok he
    rw [hs] at hx
    cases p with
    | none =>
      simp only [VR] at hx
      obtain ⟨rfl, rfl, rfl, _⟩ := pure_ok (show M.pure (int64 0) c h = _ from he)
      exact ⟨goInt 0, ρ, w, run_builtin ho (fun _ => rfl) (by simp [Builtin.len_, run_under hd, hx]), VR.int64 ρ 0, Post.refl hr⟩
    | some n =>
      simp only [VR] at hx
      obtain ⟨b, s, h1, h2⟩ := hx
      obtain ⟨r, hg, rfl⟩ := map_ok (show M.map (fun r => int64 (len r.1)) (getMap n) c h = _ from he)
      obtain ⟨h3, rfl, rfl, _⟩ := getMap_ok hg
      obtain ⟨b', s', m, h4, h5, h6⟩ := getMap_rel hr h3
      rw [h1] at h4
      cases h4
      have hl := h6.length
      rw [Array.length_toList] at hl
      have hg2 : (getObj b).run P w = .ok (.map m r.2) w := by simp [getObj, Sem.run, h5]
      exact ⟨goInt r.1.length, ρ, w, run_builtin ho (fun _ => rfl) (by simp [Builtin.len_, run_under hd, h2, hg2, hl]), by rw [len_eq]; exact VR.int64 ρ _, Post.refl hr⟩
theorem op_cap {t e0 : TypeId} {x : Operand} {y : Opd} (ho : o.op = .call { callee := .builtin .cap, args := #[x], argTypes := #[t] }) (k : cOpd x = some y) (hd : P.underlying t = some (.slice e0)) : OpOk P o (oCap y) := by
  refine OpOk.of_val fun call e c h v c' h' l he => ?_
  obtain ⟨p, n, m, z, hs, he⟩ := onSlice_ok he
  cases p with
  | some p => cases he
  | none =>
    obtain ⟨rfl, rfl, rfl, _⟩ := pure_ok (show M.pure (int64 m) c h = _ from he)
    refine ⟨rfl, rfl, fun ρ w a _ hE => ⟨goInt m, run_builtin ho (fun _ => rfl) ?_, VR.int64 ρ m⟩⟩
    have hx := cOpd_VR hE k
    rw [hs] at hx
    simp only [VR] at hx
    simp [Builtin.cap_, run_under hd, hx]
theorem op_minmax {b : Bool} {ts : Array TypeId} {x y : Operand} {x' y' : Opd} (ho : o.op = .call { callee := .builtin (if b then .max else .min), args := #[x, y], argTypes := ts }) (kx : cOpd x = some x') (ky : cOpd y = some y') : OpOk P o (oMinMax b x' y') := by
  refine OpOk.of_val fun call e c h v c' h' l he => ?_
  obtain ⟨i, m, hs, he⟩ := onInt_ok he
  obtain ⟨j, n, hu, he⟩ := onInt_ok he
  obtain ⟨rfl, rfl, rfl, _⟩ := pure_ok he
  refine ⟨rfl, rfl, fun ρ w a _ hE => ?_⟩
  have hx := cOpd_VR hE kx
  have hy := cOpd_VR hE ky
  rw [hs] at hx
  rw [hu] at hy
  simp only [VR] at hx hy
  refine ⟨.int i (ifB (ifB b (ltI m n) (ltI n m)) n m), ?_, VR.int ρ _ _⟩
  cases b with
  | true =>
    refine run_builtin ho (fun _ => rfl) ?_
    simp only [Builtin.max_, Array.toList_map, List.map_cons, List.map_nil, List.foldlM_cons, List.foldlM_nil, hx, hy, Builtin.max2, Sem.run_bind, Sem.run_pure, Result.andThen, ifB_true, ltI_eq]
    by_cases q : m < n
    · simp [ifB, q]
    · simp [ifB, q]
  | false =>
    refine run_builtin ho (fun _ => rfl) ?_
    simp only [Builtin.min_, Array.toList_map, List.map_cons, List.map_nil, List.foldlM_cons, List.foldlM_nil, hx, hy, Builtin.min2, Sem.run_bind, Sem.run_pure, Result.andThen, ifB_false, ltI_eq]
    by_cases q : n < m
    · simp [ifB, q]
    · simp [ifB, q]
end
end Go.Sx
namespace Go.Sx
open Go.RowKit

section
variable {P : Program} {o : Oper}
theorem growBy_le (n : Nat) : ∀ (r c : Nat), Builtin.growBy n r c ≤ max c (n + (n + 768) / 4)
  | 0, c => by show c ≤ _; omega
  | r + 1, c => by
    show (if c ≥ n then c else Builtin.growBy n r (c + (c + 768) / 4)) ≤ _
    split
    · omega
    · have := growBy_le n r (c + (c + 768) / 4)
      omega
theorem nextcap_le {n c : Nat} (h : c < n) (k : n ≤ 1048576) : Builtin.nextslicecap n c ≤ 4194304 := by
  unfold Builtin.nextslicecap
  split
  · omega
  · split
    · omega
    · have := growBy_le n 4 c
      omega
theorem u8s_VR (ρ : Ren) {b : ByteArray} {s : List Nat} (h : b.data.toList.map UInt8.toNat = s) : VRs ρ (u8s s) (b.data.toList.map fun x => .int .u8 x.toNat) := by
  subst h
  generalize b.data.toList = l
  induction l with
  | nil => exact VRs.nil ρ
  | cons x l ih => exact VRs.cons (VR.int ρ .u8 _) ih
theorem u8s_length : ∀ s : List Nat, (u8s s).length = s.length
  | [] => rfl
  | _ :: s => congrArg Nat.succ (u8s_length s)
/-- what is appended: its length, and a run that yields its cells -/
def SrcOk (P : Program) (size : Nat) (ρ : Ren) (w : World) (n : Nat) (s : Sem (Array Value)) (r : List AV) : Prop :=
  r.length = n * size ∧ ∃ arr, VRs ρ r arr.toList ∧ ∀ w' : World, w'.heap = w.heap → s.run P w' = .ok arr w'
theorem srcOf_ok {size c c' : Nat} {h h' : H} {l : Log} {v : AV} {r : List AV × Nat} (e : srcOf size v c h = .ok r c' h' l) {ρ : Ren} {w : World} (hr : Rel ρ h w) {u : Value} (hu : VR ρ v u) :
    c' = c ∧ h' = h ∧ (∀ w', (Builtin.lenOf u).run P w' = .ok r.2 w') ∧ SrcOk P size ρ w r.2 (Builtin.firstCells size r.2 u) r.1 := by
  cases v with
  | str s =>
    obtain ⟨hb, e⟩ := ifB_ok (show ifB (Nat.beq size 1) (M.pure (u8s s, len s)) fail c h = _ from e)
    obtain ⟨rfl, rfl, rfl, _⟩ := pure_ok e
    have h1 := Nat.eq_of_beq_eq_true hb
    subst h1
    simp only [VR] at hu
    obtain ⟨b, rfl, hs⟩ := hu
    have hl := str_len hs
    refine ⟨rfl, rfl, fun w' => by simp [Builtin.lenOf, hl, len_eq], by rw [u8s_length, len_eq, Nat.mul_one], _, u8s_VR ρ hs, ?_⟩
    have : ∀ w' : World, (Builtin.firstCells 1 (len s) (.string b)).run P w' = .ok (b.data.toList.map fun x => Value.int .u8 x.toNat).toArray w' := fun w' => by
      have h2 : b.extract 0 (len s) = b := by
        rw [len_eq, ← hl]
        exact ByteArray.extract_zero_size
      simp only [Builtin.firstCells, h2, Sem.run_pure]
      congr 1
      apply Array.ext'
      simp
    exact fun w' _ => this w'
  | slice a n m z =>
    cases a with
    | none =>
      obtain ⟨hb, e⟩ := ifB_ok (show ifB (Nat.beq n 0) (M.pure (([] : List AV), 0)) fail c h = _ from e)
      obtain ⟨rfl, rfl, rfl, _⟩ := pure_ok e
      have h1 := Nat.eq_of_beq_eq_true hb
      subst h1
      simp only [VR] at hu
      subst hu
      exact ⟨rfl, rfl, fun w' => rfl, by simp, #[], by simp [VRs], fun w' _ => rfl⟩
    | some p =>
      obtain ⟨q, e2, rfl⟩ := map_ok (show M.map (fun l => (l, n)) (loadN p.1 p.2 (n * size)) c h = _ from e)
      obtain ⟨rfl, rfl, hh⟩ := loadN_ok e2
      simp only [VR] at hu
      obtain ⟨b, s, o', k', g1, rfl, g3, g4, g5, g6⟩ := hu
      rcases hh with ⟨h0, rfl⟩ | ⟨cs, h1, h2⟩
      · refine ⟨rfl, rfl, fun w' => rfl, by simpa using h0.symm, #[], by simp [VRs], fun w' hw => ?_⟩
        show (loadCells ⟨b, o', none⟩ (n * size)).run P w' = _
        rw [h0]
        rfl
      have hlen : q.length = n * size := by
        obtain ⟨rfl, hk⟩ := takeN_eq _ _ _ h2
        rw [List.length_take]
        omega
      obtain ⟨b', s', f1, arr, f2, f3, f4⟩ := hr.run_loadN (P := P) h1 h2
      rw [g1] at f1
      cases f1
      refine ⟨rfl, rfl, fun w' => rfl, hlen, arr.toArray, by simpa using f3, fun w' hw => ?_⟩
      rcases g5 with g5 | g5
      · have : n = 0 := by omega
        subst this
        have f2 : arr.length = 0 * size := f2
        rw [Nat.zero_mul] at f2
        have : arr = [] := List.length_eq_zero_iff.1 f2
        subst this
        show (loadCells ⟨b, o', none⟩ (0 * size)).run P w' = _
        rw [Nat.zero_mul]
        rfl
      · subst g5
        exact f4 w' hw
  | _ => cases e
end
end Go.Sx
namespace Go.Sx
open Go.RowKit

section
variable {P : Program} {o : Oper}
/-- what append's second argument brings: 'k' cells' worth, 'arr' -/
def Src (P : Program) (eT el : TypeId) (size k : Nat) (x : Value) (arr : Array Value) (w : World) : Prop :=
  ((∃ d, P.underlying eT = some d ∧ ∀ i, d ≠ .int i) ∧ (∀ w', (Builtin.lenOf x).run P w' = .ok k w') ∧ ∀ w' : World, w'.heap = w.heap → (Builtin.firstCells size k x).run P w' = .ok arr w')
  ∨ (∃ i j, P.underlying eT = some (.int i) ∧ x = .int j (k : Int)) ∧ k ≤ 1048576 ∧ ∃ zv : Value, (∀ w' : World, (zeroValue el).run P w' = .ok zv w') ∧ zv.cells.size = size ∧ arr = Builtin.zeroCells zv.cells k
theorem arg0 (a b : TypeId) : (#[a, b] : Array TypeId)[0]? = some a := rfl
theorem arg1 (a b : TypeId) : (#[a, b] : Array TypeId)[1]? = some b := rfl
theorem val0 (a b : Value) : (#[a, b] : Array Value)[0]? = some a := rfl
theorem val1 (a b : Value) : (#[a, b] : Array Value)[1]? = some b := rfl
theorem zeroCells_none (z : Array Value) {n : Nat} (h : n * z.size = 0) : Builtin.zeroCells z n = #[] := by
  apply Array.eq_empty_of_size_eq_zero
  simp [Builtin.zeroCells, h]
theorem zeros_run {el : TypeId} {zv : Value} {k size : Nat} (h0 : ∀ w' : World, (zeroValue el).run P w' = .ok zv w') (hzs : zv.cells.size = size) (w : World) :
    (if k * size = 0 then (pure #[] : Sem (Array Value)) else zeroValue el >>= fun z => pure (Builtin.zeroCells z.cells k)).run P w = .ok (Builtin.zeroCells zv.cells k) w := by
  by_cases h : k * size = 0
  · rw [if_pos h, zeroCells_none _ (by rw [hzs]; exact h)]
    rfl
  · rw [if_neg h]
    simp only [Sem.run_bind, h0, Result.andThen, Sem.run_pure]
theorem fewBytes {k : Nat} {b : Nat} (hk : k ≤ 1048576) (hb : b ≤ 1048576) : ¬ ((k : Int) * (b : Int) > 2 ^ 48) := by
  have h6 := Nat.mul_le_mul hk hb
  rw [← Int.natCast_mul]
  generalize k * b = q at h6
  omega
theorem room_le {n t : Nat} (h : n < 9223372036854775808) : n + t % (2 ^ 63 - n) ≤ 9223372036854775807 := by
  have := Nat.mod_lt t (show 0 < 2 ^ 63 - n by omega)
  omega
theorem append_in {sT eT el ty : TypeId} {base : Option Addr} {n c size k : Nat} {x : Value} {arr : Array Value} {w w' : World} {f : TypeInfo} (hs : P.underlying sT = some (.slice el)) (hz : sizeO P el = some size)
    (hf : P.info? el = some f) (hb : f.bytes ≤ 1048576) (hsrc : Src P eT el size k x arr w) (hle : n + k ≤ c)
    (hst : match base with | none => w' = w | some a => (storeCells (a.add (n * size)) arr.toList).run P w = .ok () w') :
    (Builtin.append_ #[sT, eT] ty #[.slice base n c, x]).run P w = .ok (.slice base (n + k) c) w' := by
  unfold Builtin.append_
  rcases hsrc with ⟨⟨d, he, hd⟩, hn, ha⟩ | ⟨⟨i, j, he, rfl⟩, hk, zv, h0, hzs, rfl⟩
  · cases d with
    | int i => exact absurd rfl (hd i)
    | _ =>
      simp only [arg0, arg1, val0, val1, Sem.run_bind, run_under hs, run_under he, Result.andThen, run_size hz, Sem.run_pure, Bool.false_eq_true, if_false, hn, Bool.not_false, if_true, if_pos hle, ha w rfl]
      cases base with
      | none => cases hst; rfl
      | some a => simp only [Sem.run_bind, hst, Result.andThen, Sem.run_pure]
  · have hi : (asInt (.int j (k : Int))).run P w = .ok (k : Int) w := rfl
    have h7 : ¬ ((k : Int) < 0) := by omega
    simp only [arg0, arg1, val0, val1, Sem.run_bind, run_under hs, run_under he, Result.andThen, run_size hz, Sem.run_pure, if_true, hi, wrap_small hk, if_neg h7, run_info hf, if_neg (fewBytes hk hb), Int.toNat_natCast, Bool.not_true, Bool.false_eq_true, if_false, if_pos hle, zeros_run h0 hzs]
    cases base with
    | none => cases hst; rfl
    | some a => simp only [Sem.run_bind, hst, Result.andThen, Sem.run_pure]
theorem append_out {sT eT el ty : TypeId} {base : Option Addr} {n c size k : Nat} {x : Value} {old arr : Array Value} {w : World} {zv : Value} {f : TypeInfo} (hs : P.underlying sT = some (.slice el)) (hz : sizeO P el = some size)
    (hf : P.info? el = some f) (hb : f.bytes ≤ 1048576) (hsrc : Src P eT el size k x arr w) (hle : ¬ n + k ≤ c) (hk : n + k ≤ 1048576) (h0 : ∀ w' : World, (zeroValue el).run P w' = .ok zv w')
    (ho : ∀ w' : World, w'.heap = w.heap → (Builtin.firstCells size n (.slice base n c)).run P w' = .ok old w') :
    ∃ m, n + k ≤ m ∧ m ≤ 9223372036854775807 ∧ (Builtin.append_ #[sT, eT] ty #[.slice base n c, x]).run P w = .ok (.slice (some ⟨w.heap.size, 0, none⟩) (n + k) m) (({ w with drawn := w.drawn + 1 } : World).alloc (.cells (old ++ arr ++ Builtin.zeroCells zv.cells (m - (n + k))) el (0, 0))) := by
  refine ⟨(n + k) + w.tape w.drawn (.appendCap (n + k) c el) % (2 ^ 63 - (n + k)), Nat.le_add_right _ _, room_le (by omega), ?_⟩
  have h1 : ¬ ((n + k : Nat) : Int) > IntKind.i64.max := by
    have : IntKind.i64.max = 9223372036854775807 := rfl
    rw [this]
    omega
  have h2 : ¬ Builtin.nextslicecap (n + k) c * f.bytes > 2 ^ 48 := by
    have h3 := nextcap_le (n := n + k) (c := c) (by omega) hk
    have h4 := Nat.mul_le_mul h3 hb
    generalize Builtin.nextslicecap (n + k) c * f.bytes = q at h4
    omega
  have h5 : ∀ q : Prop, ¬ (((n + k : Nat) : Int) > IntKind.i64.max ∧ q) := fun _ h => h1 h.1
  have ho1 := ho { w with drawn := w.drawn + 1 } rfl
  unfold Builtin.append_
  rcases hsrc with ⟨⟨d, he, hd⟩, hn, ha⟩ | ⟨⟨i, j, he, rfl⟩, hk, zv', h0', hzs, rfl⟩
  · have ha1 := ha { w with drawn := w.drawn + 1 } rfl
    cases d with
    | int i => exact absurd rfl (hd i)
    | _ =>
      simp only [arg0, arg1, val0, val1, Sem.run_bind, run_under hs, run_under he, Result.andThen, run_size hz, Sem.run_pure, Bool.false_eq_true, if_false, hn, Bool.not_false, if_true, if_neg hle, run_info hf, if_neg (h5 _), if_neg h2, run_choose, Question.forced, Question.cut, run_askRoom, ho1, ha1, h0, run_newRow]
  · have hi : (asInt (.int j (k : Int))).run P w = .ok (k : Int) w := rfl
    have h7 : ¬ ((k : Int) < 0) := by omega
    simp only [arg0, arg1, val0, val1, Sem.run_bind, run_under hs, run_under he, Result.andThen, run_size hz, Sem.run_pure, if_true, hi, wrap_small hk, if_neg h7, run_info hf, if_neg (fewBytes hk hb), Int.toNat_natCast, Bool.not_true, Bool.false_eq_true, if_false, if_neg hle, if_neg (h5 _), if_neg h2, run_choose, Question.forced, Question.cut, run_askRoom, ho1, zeros_run h0' hzs, h0, run_newRow]
theorem append_in1 {sT eT el ty : TypeId} {a : Addr} {n c size k : Nat} {x : Value} {arr : Array Value} {w w' : World} {f : TypeInfo} (hs : P.underlying sT = some (.slice el)) (hz : sizeO P el = some size)
    (hf : P.info? el = some f) (hb : f.bytes ≤ 1048576) (hsrc : Src P eT el size k x arr w) (hle : n + k ≤ c) (hst : (storeCells (a.add (n * size)) arr.toList).run P w = .ok () w') :
    (Builtin.append_ #[sT, eT] ty #[.slice (some a) n c, x]).run P w = .ok (.slice (some a) (n + k) c) w' := append_in hs hz hf hb hsrc hle hst
theorem zeroCells_size (z : Array Value) (n : Nat) : (Builtin.zeroCells z n).size = n * z.size := by
  simp [Builtin.zeroCells]
theorem storeCells_nil (a : Addr) (w : World) : (storeCells a []).run P w = .ok () w := rfl
/-- a list that grows into a block of its own -/
theorem grown {ρ : Ren} {h : H} {w : World} {C n k m size : Nat} {o r : List AV} {l : List Value} {arr : Array Value} {zc : Array Value} {el : TypeId} (hr : Rel ρ h w) (hC : ρ C = none) (ho : VRs ρ o l) (hv : VRs ρ r arr.toList)
    (hlo : o.length = n * size) (hlr : r.length = k * size) (hz : zc.size = size) (hm : n + k ≤ m) (hM : m ≤ 9223372036854775807) :
    VR (ρ.put C (w.heap.size, (l.toArray ++ arr ++ Builtin.zeroCells zc (m - (n + k))).size)) (.slice (some (C, 0)) (n + k) (n + k) size) (.slice (some ⟨w.heap.size, 0, none⟩) (n + k) m) ∧
    Post ρ h w C (C + 1) (ρ.put C (w.heap.size, (l.toArray ++ arr ++ Builtin.zeroCells zc (m - (n + k))).size)) (h.set C (some (.row (o ++ r)))) (({ w with drawn := w.drawn + 1 } : World).alloc (.cells (l.toArray ++ arr ++ Builtin.zeroCells zc (m - (n + k))) el (0, 0))) := by
  have h1 := ho.length
  have h2 := hv.length
  rw [Array.length_toList] at h2
  refine ⟨?_, ?_⟩
  · simp only [VR]
    refine ⟨w.heap.size, _, 0, m, Ren.put_same ρ C _, rfl, hm, Nat.le_refl _, .inr rfl, ?_, hM⟩
    simp only [Array.size_append, List.size_toArray, zeroCells_size, h1, h2, hlo, hlr, hz, ← Nat.add_mul]
    rw [Nat.zero_add, show n + k + (m - (n + k)) = m by omega]
    exact Nat.le_refl _
  · exact Post.from_drawn ((hr.drew (w.drawn + 1)).newRow hC (ho.append hv) _ (rest := (Builtin.zeroCells zc (m - (n + k))).toList) (by simp) el (0, 0) (.inr rfl))
theorem app2_rel {ρ : Ren} {h h' : H} {w : World} {a : Option (Nat × Nat)} {n c z k size C c' : Nat} {r : List AV} {v : AV} {g : Log} {S : Value} {app : Sem (Array Value)} {sT eT el ty : TypeId} {x : Value} {Z : AV}
    (e : app2 size a n c z r k C h = .ok v c' h' g) (hr : Rel ρ h w) (hu : VR ρ (.slice a n c z) S) (hsrc : SrcOk P size ρ w k app r) (hZ : zeroOf P el = some Z) (hs : Z.cells.length = size) (hf : Free ρ C c')
    (hT : P.underlying sT = some (.slice el)) (hsz : sizeO P el = some size) (hX : ∀ arr, (∀ w' : World, w'.heap = w.heap → app.run P w' = .ok arr w') → Src P eT el size k x arr w) :
    ∃ base c0, S = .slice base n c0 ∧ ∃ v' ρ' w', (Builtin.append_ #[sT, eT] ty #[.slice base n c0, x]).run P w = .ok v' w' ∧ VR ρ' v v' ∧ Post ρ h w C c' ρ' h' w' := by
  obtain ⟨hlr, arr, hv, hrun⟩ := hsrc
  have hX := hX arr hrun
  obtain ⟨i, zv, z1, z2, z3, z4, z5⟩ := zeroOf_eq hZ
  have hzs : zv.cells.size = size := by
    have := (ofV_VR ρ z3).cells.length
    rw [Array.length_toList] at this
    omega
  have hz0 : ∀ w' : World, (zeroValue el).run P w' = .ok zv w' := fun w' => by simp [zeroValue, run_info z1, z2]
  have h2 := hv.length
  rw [Array.length_toList] at h2
  obtain ⟨hk, e⟩ := ifB_ok e
  have hk := Nat.le_of_ble_eq_true hk
  have hk : n + k ≤ 1048576 := hk
  cases hc : Nat.ble (Nat.add n k) c with
  | true =>
    rw [hc] at e
    have hle : n + k ≤ c := Nat.le_of_ble_eq_true hc
    cases a with
    | none =>
      obtain ⟨rfl, rfl, rfl, _⟩ := pure_ok (show M.pure (AV.slice none (n + k) c z) C h = _ from e)
      simp only [VR] at hu
      exact ⟨none, c, hu, _, ρ, w, append_in hT hsz z1 z5 hX hle rfl, by simp only [VR], Post.refl hr⟩
    | some p =>
      obtain ⟨u, e2, rfl⟩ := map_ok (show M.map (fun _ => AV.slice (some p) (n + k) c z) (storeN p.1 (p.2 + n * size) r) C h = _ from e)
      simp only [VR] at hu
      obtain ⟨b, s, o', k', g1, g2, g3, g4, g5, g6, g7⟩ := hu
      obtain ⟨rfl, w', g8, g9⟩ := hr.run_store (P := P) e2 hv g1
      refine ⟨_, k', g2, _, ρ, w', append_in1 hT hsz z1 z5 hX (Nat.le_trans hle g3) ?_, ?_, g9⟩
      · rcases g5 with g5 | g5
        · have hn : n = 0 ∧ k = 0 := by omega
          obtain ⟨rfl, rfl⟩ := hn
          have : arr.toList = [] := by
            apply List.length_eq_zero_iff.1
            rw [Array.length_toList, h2, hlr, Nat.zero_mul]
          rw [this] at g8 ⊢
          rw [storeCells_nil] at g8 ⊢
          exact g8
        · rw [g5, addr_add]
          exact g8
      · simp only [VR]
        exact ⟨b, s, o', k', g1, rfl, g3, hle, g5, g6, g7⟩
  | false =>
    rw [hc] at e
    have hnle : ¬ n + k ≤ c := fun q => by
      have := Nat.ble_eq_true_of_le q
      have hc : Nat.ble (n + k) c = false := hc
      rw [hc] at this
      cases this
    cases a with
    | none =>
      obtain ⟨hn, e⟩ := ifB_ok (show ifB (Nat.beq n 0) (grow size (n + k) (newO (.row r))) fail C h = _ from e)
      have hn := Nat.eq_of_beq_eq_true hn
      subst hn
      obtain ⟨m0, e2, rfl⟩ := map_ok e
      obtain ⟨rfl, rfl, rfl, _⟩ := newO_ok e2
      simp only [VR] at hu
      subst hu
      refine ⟨none, c, rfl, ?_⟩
      obtain ⟨m, q1, qM, q2⟩ := append_out (ty := ty) (base := none) (n := 0) (c := c) (old := #[]) hT hsz z1 z5 hX hnle hk hz0 (fun w' _ => rfl)
      obtain ⟨q3, q4⟩ := grown (k := k) (n := 0) (m := m) (size := size) (o := []) (l := []) (zc := zv.cells) (el := el) hr hf.one (VRs.nil ρ) hv (by simp) hlr hzs q1 qM
      exact ⟨_, _, _, q2, q3, q4⟩
    | some p =>
      obtain ⟨hb, e⟩ := ifB_ok (show appOut size p n z r k C h = _ from e)
      have hb3 : p.2 = 0 ∧ z = size ∧ scals r = true := by
        cases b1 : Nat.beq p.2 0 with
        | false => rw [b1] at hb; cases hb
        | true =>
          cases b2 : Nat.beq z size with
          | false => rw [b1, b2] at hb; cases hb
          | true => rw [b1, b2] at hb; exact ⟨Nat.eq_of_beq_eq_true b1, Nat.eq_of_beq_eq_true b2, hb⟩
      obtain ⟨hp0, hzz, hsc⟩ := hb3
      obtain ⟨o, c1, H1, l1, l2, e1, e2, _⟩ := bind_ok e
      obtain ⟨cs, k1, k2, rfl, rfl, _⟩ := killRow_ok e1
      obtain ⟨m0, e3, rfl⟩ := map_ok e2
      obtain ⟨rfl, rfl, rfl, _⟩ := newO_ok e3
      simp only [VR] at hu
      obtain ⟨b, s, o', k', g1, g2, g3, g4, g5, g6, g7⟩ := hu
      rw [hzz] at g6
      have hC := hf.one
      have k2 : takeN (n * size) (dropN 0 cs) = some o := k2
      obtain ⟨ho, hlen⟩ := takeN_eq _ _ _ k2
      rw [dropN_eq, List.drop_zero] at ho hlen
      refine ⟨_, k', g2, ?_⟩
      by_cases hin : n + k ≤ k'
      · have ho' : o' = 0 := by rcases g5 with g5 | g5 <;> omega
        subst ho'
        obtain ⟨b', s', f1, hpost⟩ := hr.reuse k1 hC hv hlen
        rw [g1] at f1
        cases f1
        have hroom : n * size + arr.toList.length ≤ s := by
          rw [Array.length_toList, h2, hlr, ← Nat.add_mul]
          have := Nat.mul_le_mul_right size hin
          omega
        obtain ⟨b', s', f2, _, hcell, _⟩ := hr.cells k1
        rw [g1] at f2
        cases f2
        have hst := run_storeCells_cells (P := P) b (n * size) arr.toList 0 w (fun j hj => (hcell _ (by omega)).1) (fun j hj => (hcell _ (by omega)).2) (hv.oneCell hsc)
        refine ⟨_, _, _, append_in1 hT hsz z1 z5 hX hin (by rw [addr_add, Nat.zero_add]; simpa using hst), ?_, by rw [ho]; simpa using hpost hroom⟩
        simp only [VR]
        exact ⟨b, s, 0, k', Ren.put_same ρ _ _, rfl, hin, Nat.le_refl _, .inr rfl, g6, g7⟩
      · obtain ⟨b', s', f1, l, f2, f3, f4⟩ := hr.run_loadN (P := P) k1 k2
        rw [g1] at f1
        cases f1
        have hold : ∀ w' : World, w'.heap = w.heap → (Builtin.firstCells size n S).run P w' = .ok l.toArray w' := fun w' hw => by
          rw [g2]
          show (loadCells ⟨b, o', none⟩ (n * size)).run P w' = _
          rcases g5 with g5 | g5
          · have : n = 0 := by omega
            subst this
            rw [Nat.zero_mul] at f2 ⊢
            have : l = [] := List.length_eq_zero_iff.1 f2
            subst this
            rfl
          · rw [g5, hp0]
            exact f4 w' hw
        obtain ⟨m, q1, qM, q2⟩ := append_out (ty := ty) (old := l.toArray) hT hsz z1 z5 hX hin hk hz0 (by rw [← g2]; exact hold)
        obtain ⟨q3, q4⟩ := grown (k := k) (n := n) (m := m) (size := size) (zc := zv.cells) (el := el) (hr.kill p.1) hC f3 hv (by rw [ho, List.length_take]; omega) hlr hzs q1 qM
        exact ⟨_, _, _, q2, q3, (Post.kill hr p.1 _).trans q4 (Nat.le_refl _) (Nat.le_succ _)⟩
theorem op_append {sT eT el : TypeId} {d : TypeDesc} {x y : Operand} {x' y' : Opd} {Z : AV} (ho : o.op = .call { callee := .builtin .append, args := #[x, y], argTypes := #[sT, eT] }) (kx : cOpd x = some x') (ky : cOpd y = some y')
    (hs : P.underlying sT = some (.slice el)) (he : P.underlying eT = some d) (hd : ∀ i, d ≠ .int i) (hZ : zeroOf P el = some Z) : OpOk P o (oAppend (len Z.cells) x' y') := by
  refine OpOk.of_run fun call E C h v c' h' l hk ρ w a hr hE hf => ?_
  obtain ⟨p, n, c, z, hp, hk⟩ := onSlice_ok hk
  obtain ⟨r, c1, h1, l1, l2, e1, e2, _⟩ := bind_ok hk
  have hx := cOpd_VR hE kx
  have hy := cOpd_VR hE ky
  obtain ⟨rfl, rfl, hlen, hsrc⟩ := srcOf_ok (P := P) e1 hr hy
  rw [hp] at hx
  have hsz : sizeO P el = some (len Z.cells) := by
    obtain ⟨i, zv, z1, z2, z3, z4, z5⟩ := zeroOf_eq hZ
    rw [len_eq, z4]
    unfold sizeO
    rw [z1]
    rfl
  obtain ⟨base, c0, hS, v', ρ', w', q1, q2, q3⟩ := app2_rel (x := a.eval y) (ty := o.type) e2 hr hx hsrc hZ (len_eq _).symm hf hs hsz fun arr ha => .inl ⟨⟨d, he, hd⟩, hlen, ha⟩
  refine ⟨v', ρ', w', run_builtin ho (fun _ => rfl) ?_, q2, q3⟩
  have : (#[x, y] : Array Operand).map a.eval = #[.slice base n c0, a.eval y] := by rw [← hS]; simp
  rw [this]
  exact q1
theorem op_appendZ {sT eT el : TypeId} {i : IntKind} {x y : Operand} {x' y' : Opd} {Z : AV} (ho : o.op = .call { callee := .builtin .append, args := #[x, y], argTypes := #[sT, eT] }) (kx : cOpd x = some x') (ky : cOpd y = some y')
    (hs : P.underlying sT = some (.slice el)) (he : P.underlying eT = some (.int i)) (hZ : zeroOf P el = some Z) : OpOk P o (oAppendZ (len Z.cells) Z.cells x' y') := by
  refine OpOk.of_run fun call E C h v c' h' l hk ρ w a hr hE hf => ?_
  obtain ⟨p, n, c, z, hp, hk⟩ := onSlice_ok hk
  obtain ⟨r, c1, h1, l1, l2, e1, e2, _⟩ := bind_ok hk
  have hx := cOpd_VR hE kx
  obtain ⟨k, hk1, e1⟩ := ifS_ok (show ifS fail (fun k => ifB (Nat.ble k 1048576) (M.pure (reps Z.cells k, k)) fail) (asN (ev E y')) C h = _ from e1)
  obtain ⟨hb, e1⟩ := ifB_ok e1
  obtain ⟨rfl, rfl, rfl, _⟩ := pure_ok e1
  have hb := Nat.le_of_ble_eq_true hb
  obtain ⟨j, hy⟩ := asN_VR (cOpd_VR hE ky) hk1
  rw [hp] at hx
  obtain ⟨f, zv, z1, z2, z3, z4, z5⟩ := zeroOf_eq hZ
  have hsz : sizeO P el = some (len Z.cells) := by
    rw [len_eq, z4]
    unfold sizeO
    rw [z1]
    rfl
  have hV := (ofV_VR ρ z3).cells
  have hzs : zv.cells.size = Z.cells.length := by have := hV.length; rwa [Array.length_toList] at this
  have hz0 : ∀ w' : World, (zeroValue el).run P w' = .ok zv w' := fun w' => by simp [zeroValue, run_info z1, z2]
  have hsz2 : zv.cells.size = len Z.cells := by rw [hzs, len_eq]
  have hsrc : SrcOk P (len Z.cells) ρ w k (pure (Builtin.zeroCells zv.cells k)) (reps Z.cells k) := by
    refine ⟨by rw [reps_length, len_eq], _, ?_, fun w' _ => rfl⟩
    have := reps_VR hV k
    rw [← hzs] at this
    exact this
  obtain ⟨base, c0, hS, v', ρ', w', q1, q2, q3⟩ := app2_rel (x := .int j (k : Int)) (ty := o.type) e2 hr hx hsrc hZ (len_eq _).symm hf hs hsz fun arr ha => .inr ⟨⟨i, j, he, rfl⟩, hb, zv, hz0, hsz2, by
    have := ha w rfl
    cases this
    rfl⟩
  refine ⟨v', ρ', w', run_builtin ho (fun _ => rfl) ?_, q2, q3⟩
  have : (#[x, y] : Array Operand).map a.eval = #[.slice base n c0, .int j (k : Int)] := by rw [← hS, ← hy]; simp
  rw [this]
  exact q1
end
end Go.Sx
namespace Go.Sx
open Go.RowKit

section
variable {P : Program} {o : Oper}
theorem sameNow_ok {f : FK} {d : TypeDesc} (hd : fkFits f d) {ρ : Ren} {p q : AV} {r : Bool} (h : eqCell f p q = some r) {u v : Value} (hu : VR ρ p u) (hv : VR ρ q v) : Instr.sameNow d u v = some r ∧ (r = true → Instr.sameBits 10000 v u = true) := by
  have := eqCell_ok h hu hv
  cases f with
  | int =>
    obtain ⟨i, m, n, rfl, rfl, rfl⟩ := this
    obtain ⟨j, rfl⟩ := hd
    refine ⟨by simp [Instr.sameNow], fun e => ?_⟩
    have e : m = n := by simpa using e
    subst e
    simp [Instr.sameBits]
  | str =>
    obtain ⟨a, b, rfl, rfl, rfl⟩ := this
    have hd : d = .string := hd
    subst hd
    refine ⟨by simp [Instr.sameNow, beq_toListBytes], fun e => ?_⟩
    have e : a.toList = b.toList := by simpa using e
    simp [Instr.sameBits, beq_toListBytes, e]
  | bool =>
    obtain ⟨a, b, rfl, rfl, rfl⟩ := this
    have hd : d = .bool := hd
    subst hd
    refine ⟨by simp [Instr.sameNow], fun e => ?_⟩
    have e : a = b := by simpa using e
    subst e
    simp [Instr.sameBits]
theorem findK_ok {f : FK} {d : TypeDesc} (hd : fkFits f d) {ρ : Ren} {p : AV} {u : Value} (hu : VR ρ p u) : ∀ (es : List (AV × AV × Nat)) (l : List MapEntry) (i : Nat) (r : Option AV), ERs ρ es l → findK f p es = some r →
    match r with
    | none => Instr.findNow d u l i = some none
    | some v => ∃ j y, Instr.findNow d u l i = some (some (j, y)) ∧ VR ρ v y
  | [], l, i, r, hl, hr => by
    cases hr
    have hl : l = [] := hl
    subst hl
    rfl
  | q :: es, l, i, r, hl, hr => by
    obtain ⟨e, t, rfl, h1, h2, h3, h4⟩ := hl
    obtain ⟨b, hb, hr⟩ := ifS_eq (show ifS none (fun t => ifB t (some (some q.2.1)) (findK f p es)) (eqCell f p q.1) = some r from hr)
    obtain ⟨hs, _⟩ := sameNow_ok hd hb hu h1
    cases b with
    | true =>
      cases hr
      exact ⟨i, e.val, by simp only [Instr.findNow, hs], h2⟩
    | false =>
      have := findK_ok hd hu es t (i + 1) r h4 hr
      cases r with
      | none => simp only [Instr.findNow, hs]; exact this
      | some v =>
        obtain ⟨j, y, k1, k2⟩ := this
        exact ⟨j, y, by simp only [Instr.findNow, hs]; exact k1, k2⟩
theorem setK_ok {f : FK} {d : TypeDesc} (hd : fkFits f d) {ρ : Ren} {p x : AV} {u y : Value} (hu : VR ρ p u) (hy : VR ρ x y) {clock : Nat} : ∀ (es : List (AV × AV × Nat)) (l : List MapEntry) (i : Nat) (r : List (AV × AV × Nat) × Nat), ERs ρ es l → setK f p x clock es = some r →
    (Instr.findNow d u l i = some none ∧ r.2 = clock + 1 ∧ ERs ρ r.1 (l ++ [{ key := u, val := y, born := clock }])) ∨
    (∃ j z e, Instr.findNow d u l i = some (some (i + j, z)) ∧ r.2 = clock ∧ l[j]? = some e ∧ Instr.sameBits 10000 e.key u = true ∧ ERs ρ r.1 (l.modify j fun e => { e with key := u, val := y }))
  | [], l, i, r, hl, hr => by
    cases hr
    have hl : l = [] := hl
    subst hl
    exact .inl ⟨rfl, rfl, _, _, rfl, hu, hy, rfl, rfl⟩
  | q :: es, l, i, r, hl, hr => by
    obtain ⟨e, t, rfl, h1, h2, h3, h4⟩ := hl
    obtain ⟨b, hb, hr⟩ := ifS_eq (show ifS none (fun b => ifB b (some ((p, x, q.2.2) :: es, clock)) (ifS none (fun z => some (q :: z.1, z.2)) (setK f p x clock es))) (eqCell f p q.1) = some r from hr)
    obtain ⟨hs, hbits⟩ := sameNow_ok hd hb hu h1
    cases b with
    | true =>
      cases hr
      refine .inr ⟨0, e.val, e, by simp only [Instr.findNow, hs, Nat.add_zero], rfl, rfl, hbits rfl, ?_⟩
      exact ⟨_, _, rfl, hu, hy, h3, h4⟩
    | false =>
      obtain ⟨z, hz, hr⟩ := ifS_eq hr
      cases hr
      rcases setK_ok hd hu hy es t (i + 1) z h4 hz with ⟨k1, k2, k3⟩ | ⟨j, v, e', k1, k2, k3, k4, k5⟩
      · exact .inl ⟨by simp only [Instr.findNow, hs]; exact k1, k2, e, _, rfl, h1, h2, h3, k3⟩
      · refine .inr ⟨j + 1, v, e', ?_, k2, by simpa using k3, k4, e, _, by simp, h1, h2, h3, k5⟩
        simp only [Instr.findNow, hs]
        rw [k1, show i + 1 + j = i + (j + 1) by omega]
theorem mapO_eq {t : TypeId} {q : TypeId × TypeId} (h : mapO P t = some q) : P.underlying t = some (.map q.1 q.2) := by
  unfold mapO at h
  split at h
  · rename_i hu; cases h; exact hu
  · cases h
theorem run_checkKey {k : TypeId} {f : FK} (hf : fkO P k = some f) (b : Bool) (u : Value) (w : World) : (Instr.checkKey b 10000 k u).run P w = .ok () w := by
  obtain ⟨d, hd, hfit⟩ := fkO_eq hf
  have key : ∀ n, (Instr.checkKey b (n + 1) k u).run P w = .ok () w := fun n => by
    unfold Instr.checkKey
    simp only [Sem.run_bind, run_under hd, Result.andThen]
    cases f with
    | int => obtain ⟨j, rfl⟩ := hfit; cases u <;> rfl
    | str => have h : d = .string := hfit; subst h; cases u <;> rfl
    | bool => have h : d = .bool := hfit; subst h; cases u <;> rfl
  exact key 9999
theorem run_findKey {k : TypeId} {d : TypeDesc} (hd : P.underlying k = some d) {u : Value} {l : List MapEntry} {r : Option (Nat × Value)} (h : Instr.findNow d u l 0 = some r) (w : World) : (Instr.findKey k u l).run P w = .ok r w := by
  simp [Instr.findKey, run_under hd, h]
theorem outK_VR {ρ : Ren} {z : AV} {zv : Value} (hz : VR ρ z zv) {r : Option AV} {v : Value} {b ok : Bool} (h : match r with | none => v = zv ∧ b = false | some x => VR ρ x v ∧ b = true) : VR ρ (outK z ok r) (if ok then .tuple #[v, .bool b] else v) := by
  have key : ∀ x, VR ρ x v → VR ρ (.tuple [x, .bool b]) (.tuple #[v, .bool b]) := fun x hx => by
    simp only [VR]
    exact ⟨_, rfl, VRs.cons hx (VRs.cons (VR.bool ρ b) (VRs.nil ρ))⟩
  cases r with
  | none =>
    obtain ⟨rfl, rfl⟩ := h
    cases ok
    · exact hz
    · exact key _ hz
  | some x =>
    obtain ⟨h, rfl⟩ := h
    cases ok
    · exact h
    · exact key _ h
theorem op_lookup {t : TypeId} {x i : Operand} {x' i' : Opd} {ok : Bool} {q : TypeId × TypeId} {f : FK} {z : AV} (ho : o.op = .lookup t x i ok) (kx : cOpd x = some x') (ki : cOpd i = some i') (hq : mapO P t = some q) (hf : fkO P q.1 = some f) (hz : zeroOf P q.2 = some z) : OpOk P o (oLookup f z x' i' ok) := by
  refine OpOk.of_run fun call E c h v c' h' l he ρ w a hr hE hfree => ?_
  have hx := cOpd_VR hE kx
  have hi := cOpd_VR hE ki
  have hu := mapO_eq hq
  obtain ⟨d, hd, hfit⟩ := fkO_eq hf
  obtain ⟨zv, hzrun, hzV, _⟩ := run_zero (w := w) hz ρ
  obtain ⟨m, hm, he⟩ := onMap_ok he
  rw [hm] at hx
  cases m with
  | none =>
    obtain ⟨rfl, rfl, rfl, _⟩ := pure_ok (show M.pure (outK z ok none) c h = _ from he)
    simp only [VR] at hx
    refine ⟨if ok then .tuple #[zv, .bool false] else zv, ρ, w, ?_, outK_VR hzV ⟨rfl, rfl⟩, Post.refl hr⟩
    simp only [execOp, ho]
    refine run_val ?_
    have hk := run_findKey (P := P) hd (u := a.eval i) (l := []) (r := none) rfl w
    simp only [Instr.lookup, Sem.run_bind, run_under hu, Result.andThen, hx, Sem.run_pure, run_checkKey hf, hk, hzrun]
  | some n =>
    simp only [VR] at hx
    obtain ⟨b, s, h1, h2⟩ := hx
    obtain ⟨r, c1, H1, l1, l2, e1, e2, _⟩ := bind_ok (show M.bind (getMap n) _ c h = _ from he)
    obtain ⟨g1, rfl, rfl, _⟩ := getMap_ok e1
    obtain ⟨res, hres, e2⟩ := ifS_ok e2
    obtain ⟨rfl, rfl, rfl, _⟩ := pure_ok e2
    obtain ⟨b', s', m, g2, g3, g4⟩ := getMap_rel hr g1
    rw [h1] at g2
    cases g2
    have hg2 : (getObj b).run P w = .ok (.map m r.2) w := by simp [getObj, Sem.run, g3]
    have hk := findK_ok hfit hi r.1 m.toList 0 res g4 hres
    cases res with
    | none =>
      refine ⟨if ok then .tuple #[zv, .bool false] else zv, ρ, w, ?_, outK_VR hzV ⟨rfl, rfl⟩, Post.refl hr⟩
      simp only [execOp, ho]
      refine run_val ?_
      simp only [Instr.lookup, Sem.run_bind, run_under hu, Result.andThen, h2, hg2, Sem.run_pure, run_checkKey hf, run_findKey hd hk, hzrun]
    | some y =>
      obtain ⟨j, yv, k1, k2⟩ := hk
      refine ⟨if ok then .tuple #[yv, .bool true] else yv, ρ, w, ?_, outK_VR hzV ⟨k2, rfl⟩, Post.refl hr⟩
      simp only [execOp, ho]
      refine run_val ?_
      simp only [Instr.lookup, Sem.run_bind, run_under hu, Result.andThen, h2, hg2, Sem.run_pure, run_checkKey hf, run_findKey hd k1]
theorem op_mapUpdate {t : TypeId} {x i y : Operand} {x' i' y' : Opd} {q : TypeId × TypeId} {f : FK} (ho : o.op = .mapUpdate t x i y ∨ o.op = .insert t x i y) (kx : cOpd x = some x') (ki : cOpd i = some i') (ky : cOpd y = some y') (hq : mapO P t = some q) (hf : fkO P q.1 = some f) : OpOk P o (oMapUpdate f x' i' y') := by
  refine OpOk.of_skip fun call E c h v c' h' l he => ?_
  obtain ⟨m, hm, he⟩ := onMap_ok he
  obtain ⟨n, rfl, he⟩ := ifS_ok he
  obtain ⟨r, c1, H1, l1, l2, e1, e2, _⟩ := bind_ok he
  obtain ⟨g1, rfl, rfl, _⟩ := getMap_ok e1
  obtain ⟨res, hres, e2⟩ := ifS_ok e2
  obtain ⟨u, e3, rfl⟩ := map_ok e2
  obtain ⟨rfl, rfl, _, _⟩ := setMap_ok e3
  refine ⟨rfl, fun ρ w a hr hE hfree => ?_⟩
  have hx := cOpd_VR hE kx
  have hi := cOpd_VR hE ki
  have hy := cOpd_VR hE ky
  have hu := mapO_eq hq
  obtain ⟨d, hd, hfit⟩ := fkO_eq hf
  rw [hm] at hx
  simp only [VR] at hx
  obtain ⟨b, s, h1, h2⟩ := hx
  obtain ⟨b', s', m, g2, g3, g4⟩ := getMap_rel hr g1
  rw [h1] at g2
  cases g2
  have hg2 : (getObj b).run P w = .ok (.map m r.2) w := by simp [getObj, Sem.run, g3]
  have hset : ∀ ob : Obj, (setObj b ob).run P w = .ok () { w with heap := w.heap.setIfInBounds b ob } := fun ob => by simp [setObj, Sem.run, g3]
  have hex : (execOp a.eval o) = (do Instr.mapUpdate t (a.eval x) (a.eval i) (a.eval y); pure .skip) := by
    rcases ho with ho | ho <;> simp only [execOp, ho]
  have hrun : ∀ a' k', (Instr.mapUpdate t (a.eval x) (a.eval i) (a.eval y)).run P w = .ok () { w with heap := w.heap.setIfInBounds b (.map a' k') } → (execOp a.eval o).run P w = .ok .skip { w with heap := w.heap.setIfInBounds b (.map a' k') } := fun a' k' hh => by
    rw [hex]
    simp only [Sem.run_bind, hh, Result.andThen, Sem.run_pure]
  rcases setK_ok hfit hi hy r.1 m.toList 0 res g4 hres with ⟨k1, k2, k3⟩ | ⟨j, z, e, k1, k2, k3, k4, k5⟩
  · obtain ⟨b2, s2, a2, f1, f2, f3, f4⟩ := hr.setMap (c := c') (k' := res.2) (a' := m.push { key := a.eval i, val := a.eval y, born := r.2 }) g1 (by simpa using k3)
    rw [h1] at f1
    cases f1
    refine ⟨ρ, _, hrun _ _ ?_, f4⟩
    simp only [Instr.mapUpdate, Sem.run_bind, run_under hu, Result.andThen, h2, hg2, run_checkKey hf, run_findKey hd k1, hset, k2]
  · obtain ⟨b2, s2, a2, f1, f2, f3, f4⟩ := hr.setMap (c := c') (k' := res.2) (a' := m.modify j fun e => { e with key := a.eval i, val := a.eval y }) g1 (by simpa using k5)
    rw [h1] at f1
    cases f1
    refine ⟨ρ, _, hrun _ _ ?_, f4⟩
    rw [Nat.zero_add] at k1
    rw [Array.getElem?_toList] at k3
    have hkey : (Instr.keyThatStays (((m[j]?).map (·.key)).getD (a.eval i)) (a.eval i)).run P w = .ok (a.eval i) w := by
      rw [k3]
      simp [Instr.keyThatStays, k4]
    simp only [Instr.mapUpdate, Sem.run_bind, run_under hu, Result.andThen, h2, hg2, run_checkKey hf, run_findKey hd k1, hkey, hset, k2]
theorem push_modify (h : Array Obj) (ob : Obj) (f : Obj → Obj) : (h.push ob).modify h.size f = h.push (f ob) := by
  apply Array.ext
  · simp
  · intro i h1 h2
    simp only [Array.size_push] at h2
    rw [Array.getElem_modify]
    by_cases e : h.size = i
    · subst e; simp
    · rw [if_neg e, Array.getElem_push_lt (by omega), Array.getElem_push_lt (by omega)]
theorem run_mark_new (W : World) (arr : Array Value) (el : TypeId) : (markStringish ⟨W.heap.size, 0, none⟩).run P (W.alloc (.cells arr el (0, 0))) = .ok () (W.alloc (.cells arr el (arr.size, arr.size + 1))) := by
  have hs : (W.alloc (.cells arr el (0, 0))).shape? W.heap.size = some (el, arr.size) := by
    have : (W.heap.push (Obj.cells arr el (0, 0)))[W.heap.size]? = some (.cells arr el (0, 0)) := by simp
    show (match (W.heap.push (Obj.cells arr el (0, 0)))[W.heap.size]? with | some (.cells c e _) => some (e, c.size) | _ => none) = _
    rw [this]
  have hf : (W.alloc (.cells arr el (0, 0))).freeze { block := W.heap.size, off := arr.size } 1 = W.alloc (.cells arr el (arr.size, arr.size + 1)) := by
    unfold World.freeze
    rw [if_neg (by decide)]
    show ({ W with heap := (W.heap.push (Obj.cells arr el (0, 0))).modify W.heap.size _ } : World) = { W with heap := W.heap.push _ }
    rw [push_modify]
    rfl
  simp only [markStringish, Sem.run_bind, run_shape, hs, Result.andThen, run_freeze, hf]
theorem op_strBytes {s d el : TypeId} {x : Operand} {y : Opd} (ho : o.op = .convert s d x) (k : cOpd x = some y) (hs : P.underlying s = some .string) (hd : P.underlying d = some (.slice el)) (he : P.underlying el = some (.int .u8)) : OpOk P o (oStrBytes y) := by
  refine OpOk.of_run fun call E c h v c' h' l hk ρ w a hr hE hf => ?_
  obtain ⟨st, hst, hk⟩ := onStr_ok hk
  obtain ⟨hfew, hk⟩ := ifB_ok hk
  have hfew := Nat.le_of_ble_eq_true hfew
  rw [len_eq] at hfew
  obtain ⟨m, hk2, rfl⟩ := map_ok hk
  obtain ⟨rfl, rfl, rfl, _⟩ := newO_ok hk2
  have hx := cOpd_VR hE k
  rw [hst] at hx
  simp only [VR] at hx
  obtain ⟨b, hb, hx⟩ := hx
  have hlen := str_len hx
  have hV := u8s_VR ρ hx
  obtain ⟨cap, arr, hcap, hcap2, harr, hrun⟩ : ∃ cap arr, b.size ≤ cap ∧ cap ≤ 9223372036854775807 ∧ arr.toList = (b.data.toList.map fun x => Value.int .u8 x.toNat) ++ List.replicate (cap - b.size) (Value.int .u8 0) ∧ (Conv.stringToBytes el b).run P w = .ok (.slice (some ⟨w.heap.size, 0, none⟩) b.size cap)
      (({ w with drawn := w.drawn + 1 } : World).alloc (.cells arr el (arr.size, arr.size + 1))) := by
    refine ⟨b.size + w.tape w.drawn (.appendCap b.size 0 el) % (2 ^ 63 - b.size), (b.data.map fun b => Value.int .u8 b.toNat) ++ Array.replicate ((b.size + w.tape w.drawn (.appendCap b.size 0 el) % (2 ^ 63 - b.size)) - b.size) (.int .u8 0), Nat.le_add_right _ _, room_le (by omega), by simp, ?_⟩
    have hm := run_mark_new (P := P) { w with drawn := w.drawn + 1 } ((b.data.map fun b => Value.int .u8 b.toNat) ++ Array.replicate ((b.size + w.tape w.drawn (.appendCap b.size 0 el) % (2 ^ 63 - b.size)) - b.size) (.int .u8 0)) el
    simp only [Conv.stringToBytes, Sem.run_bind, run_choose, Question.forced, Bool.false_eq_true, if_false, Question.cut, Result.andThen, run_newRow, hm, Sem.run_pure]
  have hsz : arr.size = cap := by
    rw [← Array.length_toList, harr]
    simp only [List.length_append, List.length_map, List.length_replicate, Array.length_toList]
    have : b.data.size = b.size := rfl
    omega
  refine ⟨.slice (some ⟨w.heap.size, 0, none⟩) b.size cap, _, _, ?_, ?_, Post.from_drawn ((hr.drew (w.drawn + 1)).newRow hf.one hV arr harr el (arr.size, arr.size + 1) (.inl (Nat.le_refl _)))⟩
  · simp only [execOp, ho]
    refine run_val ?_
    simp only [convert, Sem.run_bind, run_under hs, run_under hd, run_under he, Result.andThen, hb, hrun]
  · simp only [VR]
    exact ⟨w.heap.size, arr.size, 0, cap, Ren.put_same ρ m _, by rw [hlen, len_eq], by rw [len_eq, ← hlen]; exact hcap, by rw [len_eq]; exact Nat.le_refl _, .inr rfl, by omega, hcap2⟩
theorem op_call {f : Operand} {args : Array Operand} {ts : Array TypeId} {f' : Opd} {l' : List Opd} (ho : o.op = .call { callee := .value f, args, argTypes := ts }) (kf : cOpd f = some f') (kl : cOps args.toList = some l') : OpOk P o (oCall f' l') := by
  intro call hcall e c h v c' h' l he ρ w a hr hE hf next Q hn
  obtain ⟨g, x, y, hg, he⟩ := onFn_ok he
  have hx := cOpd_VR hE kf
  rw [hg] at hx
  simp only [VR] at hx
  obtain ⟨x', y', hv, h1, h2⟩ := hx
  have hargs := cOps_VR hE kl
  obtain ⟨hent, hc⟩ := hcall g _ c h v c' h' l he
  have hc := hc ρ w (x' ++ (args.map a.eval) ++ y') hr (by
    simp only [Array.toList_append, Array.toList_map, List.append_assoc]
    exact h1.append (hargs.append h2)) hf
  have hrun : (execOp a.eval o).run P w = .ok (.enter g (x' ++ (args.map a.eval) ++ y')) w := by
    simp only [execOp, ho, resolve, Deferred.ofValue, hv, Sem.run_bind, Sem.run_pure, Result.andThen, invoke, hent]
  unfold Oper.wp
  rw [hrun, Oper.upon_enter]
  refine Calls.mono hc fun e' w' hR => ?_
  obtain ⟨v', ρ', rfl, hV, hp⟩ := hR
  exact hn v' ρ' w' hV hp
theorem fieldCell_eq {f : Field} {k : Nat} (h : fieldCell P f = some k) : k = f.offset ∧ (∀ e, P.underlying f.type ≠ some (.pointer e)) ∧ aggO P f.type = some false ∧ ∃ n, sizeO P f.type = some n ∧ n ≠ 0 := by
  obtain ⟨hp, h⟩ := ifB_eq h
  obtain ⟨b, hb, h⟩ := ifS_eq h
  cases b with
  | true => cases h
  | false =>
    obtain ⟨n, hn, h⟩ := ifS_eq (show ifS none (fun n => ifB (Nat.beq n 0) none (some f.offset)) (sizeO P f.type) = some k from h)
    obtain ⟨h0, h⟩ := ifN_eq h
    cases h
    refine ⟨rfl, fun e he => ?_, hb, n, hn, fun e => by subst e; cases h0⟩
    rw [he] at hp
    cases hp
/-- the method of a dynamic type, found -/
theorem run_method {name : String} {t : TypeId} {q : Nat × Option Nat} (hm : methO P name t = some q) {ρ : Ren} {h h' : H} {w : World} (r : Rel ρ h w) {v x : AV} {u : Value} (hu : VR ρ v u) {c c' : Nat} {l : Log} (e : recvA q.2 v c h = .ok x c' h' l) :
    c' = c ∧ h' = h ∧ ∃ y, VR ρ x y ∧ ∀ k, (method (k + 1) t u name).run P w = .ok (q.1, y) w := by
  obtain ⟨i, hi, hm⟩ := ifS_eq hm
  obtain ⟨m, hf, hm⟩ := ifS_eq hm
  unfold methP at hm
  split at hm
  · rename_i f hpath hfunc
    split at hm
    · rename_i el hel
      cases hm
      obtain ⟨rfl, rfl, rfl, _⟩ := pure_ok (show M.pure v c h = .ok x c' h' l from e)
      refine ⟨rfl, rfl, u, hu, fun k => ?_⟩
      simp [method, run_info hi, hf, hpath, hfunc, follow, receiverAt, run_under hel, Place.get, Result.andThen]
    · cases hm
  · rename_i s f hpath hfunc
    obtain ⟨hd, hm⟩ := ifB_eq hm
    obtain ⟨fd, hfd, hm⟩ := ifS_eq hm
    obtain ⟨off, hoff, hm⟩ := ifS_eq hm
    cases hm
    obtain ⟨fs, hs1, hs2⟩ := fieldO_eq hfd
    obtain ⟨rfl, hnp, ha, n, hn, hn0⟩ := fieldCell_eq hoff
    obtain ⟨p, hp, e⟩ := onPtr_ok (show onPtr fail (ifS fail fun a => load1 a.1 (a.2 + fd.offset)) v c h = .ok x c' h' l from e)
    obtain ⟨p, rfl, e⟩ := ifS_ok e
    subst hp
    obtain ⟨a1, a2⟩ := p
    obtain ⟨d, hd1, hd2⟩ := ifS_eq ha
    simp only [VR] at hu
    obtain ⟨b, z, hb, rfl⟩ := hu
    obtain ⟨rfl, rfl, b', i', y, h1, h2, h3⟩ := load1At_ok (v := .ptr (some (a1, a2 + fd.offset))) r e (u := .pointer (some ⟨b, a2 + fd.offset, none⟩)) (by simp only [VR]; exact ⟨b, z, hb, rfl⟩)
    cases h1
    refine ⟨rfl, rfl, y, h3, fun k => ?_⟩
    have hadd : (⟨b, a2, none⟩ : Addr).add fd.offset = ⟨b, a2 + fd.offset, none⟩ := addr_add b a2 fd.offset
    have hload : (loadVar fd.type ⟨b, a2 + fd.offset, none⟩).run P w = .ok y w := by simp [loadVar, run_isAgg ha, h2]
    have hplace : (fieldPlace ⟨b, a2, none⟩ fd).run P w = .ok ⟨b, a2 + fd.offset, none⟩ w := by simp [fieldPlace, run_size hn, hn0, hadd]
    have hrecv : ∀ o : Option String, (receiverAt fd.type (.var ⟨b, a2 + fd.offset, none⟩) false o).run P w = .ok y w := fun o => by
      unfold receiverAt
      simp only [Sem.run_bind, run_under hd1, Result.andThen]
      cases d <;> first | exact absurd hd1 (hnp _) | exact hload
    simp [method, run_info hi, hf, hpath, hfunc, follow, hd, run_under hs1, hs2, Place.get, asAddr, hplace, hrecv, Result.andThen]
  · cases hm
theorem op_invoke {f : Operand} {args : Array Operand} {ts : Array TypeId} {name : String} {f' : Opd} {l' : List Opd} (ho : o.op = .call { callee := .invoke f name, args, argTypes := ts }) (kf : cOpd f = some f') (kl : cOps args.toList = some l') : OpOk P o (oInvoke (methO P name) f' l') := by
  intro call hcall e c h v c' h' l he ρ w a hr hE hf next Q hn
  obtain ⟨t, x, hg, he⟩ := onIface_ok he
  obtain ⟨q, hq, he⟩ := ifS_ok he
  obtain ⟨r, c1, h1, l1, l2, e1, e2, rfl⟩ := bind_ok he
  have hx := cOpd_VR hE kf
  rw [hg] at hx
  simp only [VR] at hx
  obtain ⟨u, hv, hu⟩ := hx
  obtain ⟨rfl, rfl, y, hy, hrm⟩ := run_method hq hr hu e1
  have hargs := cOps_VR hE kl
  obtain ⟨hent, hc⟩ := hcall q.1 _ _ _ v c' h' l2 e2
  have hc := hc ρ w (#[y] ++ args.map a.eval) hr (by
    simp only [Array.toList_append, Array.toList_map]
    exact VRs.cons hy hargs) hf
  obtain ⟨k, hk⟩ : ∃ k, P.types.size + Made.depth = k + 1 := ⟨P.types.size + (Made.depth - 1), by unfold Made.depth; omega⟩
  have hcm : (callMethod (.iface t u) name (args.map a.eval)).run P w = .ok (.enter q.1 (#[y] ++ args.map a.eval)) w := by
    simp only [callMethod, Sem.run_bind, run_program, Result.andThen, hk, hrm, hent]
  have h0 : (#[Value.iface t u] ++ args.map a.eval)[0]? = some (.iface t u) := by rw [Array.getElem?_append_left (by simp)]; rfl
  have h1 : (#[Value.iface t u] ++ args.map a.eval).extract 1 (#[Value.iface t u] ++ args.map a.eval).size = args.map a.eval := by
    apply Array.ext'
    rw [Array.toList_extract]
    simp [List.extract]
    exact List.take_of_length_le (by simp)
  have hrun : (execOp a.eval o).run P w = .ok (.enter q.1 (#[y] ++ args.map a.eval)) w := by
    simp only [execOp, ho, resolve, Sem.run_bind, Sem.run_pure, Result.andThen, hv, invoke, h0, h1, hcm]
  unfold Oper.wp
  rw [hrun, Oper.upon_enter]
  refine Calls.mono hc fun e' w' hR => ?_
  obtain ⟨v', ρ', rfl, hV, hp⟩ := hR
  exact hn v' ρ' w' hV hp
theorem op_assert {x : Operand} {y : Opd} {s t : TypeId} {z : Option AV} {ok : Bool} (hop : o.op = .typeAssert x s t ok) (kx : cOpd x = some y) (hp : plainT P t = true) (hz : (ok = false ∧ z = none) ∨ ok = true ∧ ∃ z', z = some z' ∧ zeroOf P t = some z') : OpOk P o (oAssert t z y) := by
  have hd : ∃ d, P.underlying t = some d ∧ ∀ m, d ≠ .interface m := by
    unfold plainT at hp
    split at hp
    · cases hp
    · rename_i d hn hd; exact ⟨d, hd, fun m e => hn m e⟩
    · cases hp
  obtain ⟨d, hd, hni⟩ := hd
  have hoff : ∀ (c c' : Nat) (h h' : H) (l : Log) (v : AV), offA z c h = .ok v c' h' l → c' = c ∧ h' = h ∧ ok = true ∧ ∃ z', zeroOf P t = some z' ∧ v = .tuple [z', .bool false] := by
    intro c c' h h' l v he
    obtain ⟨z1, rfl, he⟩ := ifS_ok (show ifS fail (fun z => M.pure (.tuple [z, .bool false])) z c h = .ok v c' h' l from he)
    obtain ⟨rfl, rfl, rfl, _⟩ := pure_ok he
    rcases hz with ⟨_, h2⟩ | ⟨h1, z', h2, h3⟩
    · cases h2
    · cases h2; exact ⟨rfl, rfl, h1, z1, h3, rfl⟩
  refine OpOk.of_val fun call e c h v c' h' l he => ?_
  have he : onIface fail (offA z) (fun u v => ifB (Nat.beq u t) (M.pure (ifS v (fun _ => .tuple [v, .bool true]) z)) (offA z)) (ev e y) c h = .ok v c' h' l := he
  have two : ∀ {ρ : Ren} {a b : AV} {u : Value} {q : Bool}, VR ρ a u → b = .bool q → VR ρ (.tuple [a, b]) (.tuple #[u, .bool q]) := fun h1 h2 => by
    subst h2
    simp only [VR]
    exact ⟨_, rfl, VRs.cons h1 (VRs.cons (by simp only [VR]) (VRs.nil _))⟩
  cases hy : ev e y with
  | iface u q =>
    rw [hy] at he
    have he : ifB (Nat.beq u t) (M.pure (ifS q (fun _ => .tuple [q, .bool true]) z)) (offA z) c h = .ok v c' h' l := he
    cases hb : Nat.beq u t with
    | true =>
      rw [hb] at he
      obtain ⟨rfl, rfl, rfl, _⟩ := pure_ok (show M.pure (ifS q (fun _ => .tuple [q, .bool true]) z) c h = .ok v c' h' l from he)
      refine ⟨rfl, rfl, fun ρ w a hr hE => ?_⟩
      have hx := cOpd_VR hE kx
      rw [hy] at hx
      simp only [VR] at hx
      obtain ⟨w', hv, hu⟩ := hx
      obtain rfl := Nat.eq_of_beq_eq_true hb
      rcases hz with ⟨rfl, rfl⟩ | ⟨rfl, z', rfl, _⟩
      · refine ⟨w', ?_, hu⟩
        simp only [execOp, hop]
        refine run_val ?_
        simp only [Instr.typeAssert, Sem.run_bind, run_under hd, Result.andThen, hv]
        cases d <;> first | exact absurd rfl (hni _) | simp
      · refine ⟨.tuple #[w', .bool true], ?_, two hu rfl⟩
        simp only [execOp, hop]
        refine run_val ?_
        simp only [Instr.typeAssert, Sem.run_bind, run_under hd, Result.andThen, hv]
        cases d <;> first | exact absurd rfl (hni _) | simp
    | false =>
      rw [hb] at he
      obtain ⟨rfl, rfl, rfl, z', hz', rfl⟩ := hoff c c' h h' l v he
      refine ⟨rfl, rfl, fun ρ w a hr hE => ?_⟩
      have hx := cOpd_VR hE kx
      rw [hy] at hx
      simp only [VR] at hx
      obtain ⟨w', hv, hu⟩ := hx
      obtain ⟨q', h1, h2, _⟩ := run_zero (w := w) hz' ρ
      have hne : ¬ u = t := fun e => by subst e; simp at hb
      refine ⟨.tuple #[q', .bool false], ?_, two h2 rfl⟩
      simp only [execOp, hop]
      refine run_val ?_
      simp only [Instr.typeAssert, Sem.run_bind, run_under hd, Result.andThen, hv]
      cases d <;> first | exact absurd rfl (hni _) | simp [hne, h1, Result.andThen]
  | nilIface =>
    rw [hy] at he
    obtain ⟨rfl, rfl, rfl, z', hz', rfl⟩ := hoff c c' h h' l v he
    refine ⟨rfl, rfl, fun ρ w a hr hE => ?_⟩
    have hx := cOpd_VR hE kx
    rw [hy] at hx
    simp only [VR] at hx
    obtain ⟨q', h1, h2, _⟩ := run_zero (w := w) hz' ρ
    refine ⟨.tuple #[q', .bool false], ?_, two h2 rfl⟩
    simp only [execOp, hop]
    refine run_val ?_
    simp only [Instr.typeAssert, Sem.run_bind, run_under hd, Result.andThen, hx]
    cases d <;> first | exact absurd rfl (hni _) | simp [h1, Result.andThen]
  | _ => rw [hy] at he; cases he
end
end Go.Sx
namespace Go.Sx
open Go.RowKit

section
variable {P : Program} {o : Oper}
theorem op_copy {sT eT el : TypeId} {n : Nat} {x y : Operand} {x' y' : Opd} (ho : o.op = .call { callee := .builtin .copy, args := #[x, y], argTypes := #[sT, eT] }) (kx : cOpd x = some x') (ky : cOpd y = some y')
    (hs : P.underlying sT = some (.slice el)) (hn : sizeO P el = some n) : OpOk P o (oCopy n x' y') := by
  refine OpOk.of_run fun call E C h v c' h' l hk ρ w a hr hE _ => ?_
  obtain ⟨p, m, c, z, hp, hk⟩ := onSlice_ok hk
  obtain ⟨hz, hk⟩ := ifB_ok hk
  obtain ⟨r, c1, h1, l1, l2, e1, e2, _⟩ := bind_ok hk
  obtain ⟨hle, e2⟩ := ifB_ok e2
  have hle := Nat.le_of_ble_eq_true hle
  obtain ⟨u, e3, rfl⟩ := map_ok e2
  have hx := cOpd_VR hE kx
  have hy := cOpd_VR hE ky
  obtain ⟨rfl, rfl, hlen, hlr, arr, hv, hrun⟩ := srcOf_ok (P := P) e1 hr hy
  rw [hp] at hx
  have hmin : Nat.min r.2 m = r.2 := Nat.min_eq_left hle
  cases p with
  | none =>
    obtain ⟨_, rfl, rfl, _⟩ := pure_ok (show M.pure () c1 h1 = _ from e3)
    simp only [VR] at hx
    refine ⟨goInt r.2, ρ, w, run_builtin ho (fun _ => rfl) ?_, VR.int64 ρ _, Post.refl hr⟩
    simp [Builtin.copy_, run_under hs, hx, hlen, hmin, run_size hn, hrun w rfl]
  | some p =>
    simp only [VR] at hx
    obtain ⟨b, s, o', k', g1, g2, g3, g4, g5, g6, _⟩ := hx
    obtain ⟨rfl, w', g8, g9⟩ := hr.run_store (P := P) (show storeN p.1 p.2 r.1 c1 h1 = _ from e3) hv g1
    refine ⟨goInt r.2, ρ, w', run_builtin ho (fun _ => rfl) ?_, VR.int64 ρ _, g9⟩
    have hst : (storeCells ⟨b, o', none⟩ arr.toList).run P w = .ok () w' := by
      rcases g5 with g5 | g5
      · have h0 : r.2 = 0 := by omega
        have : arr.toList = [] := by
          apply List.length_eq_zero_iff.1
          rw [hv.length, hlr, h0, Nat.zero_mul]
        rw [this] at g8 ⊢
        rw [storeCells_nil] at g8 ⊢
        exact g8
      · rw [g5]; exact g8
    simp [Builtin.copy_, run_under hs, g2, hlen, hmin, run_size hn, hrun w rfl, hst]
theorem entK_ok {f : FK} {d : TypeDesc} (hd : fkFits f d) {ρ : Ren} {p z : AV} {u zv : Value} (hu : VR ρ p u) (hz : VR ρ z zv) {clock : Nat} : ∀ (es : List (AV × AV × Nat)) (l : List MapEntry) (i : Nat) (r : (List (AV × AV × Nat) × Nat) × AV × Nat), ERs ρ es l → entK f p z clock es = some r →
    (Instr.findNow d u l i = some none ∧ r.1.2 = clock + 1 ∧ r.2 = (z, clock) ∧ ERs ρ r.1.1 (l ++ [{ key := u, val := zv, born := clock }])) ∨
    (∃ j v e, Instr.findNow d u l i = some (some (i + j, v)) ∧ r.1.2 = clock ∧ l[j]? = some e ∧ Instr.sameBits 10000 e.key u = true ∧ VR ρ r.2.1 v ∧ r.2.2 = e.born ∧ ERs ρ r.1.1 (l.modify j fun e => { e with key := u }))
  | [], l, i, r, hl, hr => by
    cases hr
    have hl : l = [] := hl
    subst hl
    exact .inl ⟨rfl, rfl, rfl, _, _, rfl, hu, hz, rfl, rfl⟩
  | q :: es, l, i, r, hl, hr => by
    obtain ⟨e, t, rfl, h1, h2, h3, h4⟩ := hl
    obtain ⟨b, hb, hr⟩ := ifS_eq (show ifS none (fun b => ifB b (some (((p, q.2.1, q.2.2) :: es, clock), q.2.1, q.2.2)) (ifS none (fun y => some ((q :: y.1.1, y.1.2), y.2)) (entK f p z clock es))) (eqCell f p q.1) = some r from hr)
    obtain ⟨hs, hbits⟩ := sameNow_ok hd hb hu h1
    cases b with
    | true =>
      cases hr
      exact .inr ⟨0, e.val, e, by simp only [Instr.findNow, hs, Nat.add_zero], rfl, rfl, hbits rfl, h2, h3.symm, _, _, rfl, hu, h2, h3, h4⟩
    | false =>
      obtain ⟨y, hy, hr⟩ := ifS_eq hr
      cases hr
      rcases entK_ok hd hu hz es t (i + 1) y h4 hy with ⟨k1, k2, k3, k4⟩ | ⟨j, v, e', k1, k2, k3, k4, k5, k6, k7⟩
      · exact .inl ⟨by simp only [Instr.findNow, hs]; exact k1, k2, k3, e, _, rfl, h1, h2, h3, k4⟩
      · refine .inr ⟨j + 1, v, e', ?_, k2, by simpa using k3, k4, k5, k6, e, _, by simp, h1, h2, h3, k7⟩
        simp only [Instr.findNow, hs]
        rw [k1, show i + 1 + j = i + (j + 1) by omega]
theorem op_mapEntry {t : TypeId} {x i : Operand} {x' i' : Opd} {q : TypeId × TypeId} {f : FK} {z : AV} (ho : o.op = .mapEntry t x i) (kx : cOpd x = some x') (ki : cOpd i = some i') (hq : mapO P t = some q) (hf : fkO P q.1 = some f) (hz : zeroOf P q.2 = some z) : OpOk P o (oMapEntry f z x' i') := by
  refine OpOk.of_run fun call E c h v c' h' l he ρ w a hr hE _ => ?_
  obtain ⟨m, hm, he⟩ := onMap_ok he
  obtain ⟨n, rfl, he⟩ := ifS_ok he
  obtain ⟨r, c1, H1, l1, l2, e1, e2, _⟩ := bind_ok he
  obtain ⟨g1, rfl, rfl, _⟩ := getMap_ok e1
  obtain ⟨res, hres, e2⟩ := ifS_ok e2
  obtain ⟨u, e3, rfl⟩ := map_ok e2
  obtain ⟨rfl, rfl, _, _⟩ := setMap_ok e3
  have hx := cOpd_VR hE kx
  have hi := cOpd_VR hE ki
  have hu := mapO_eq hq
  obtain ⟨d, hd, hfit⟩ := fkO_eq hf
  obtain ⟨zv, hzrun, hzV, _⟩ := run_zero (w := w) hz ρ
  rw [hm] at hx
  simp only [VR] at hx
  obtain ⟨b, s, h1, h2⟩ := hx
  obtain ⟨b', s', m, g2, g3, g4⟩ := getMap_rel hr g1
  rw [h1] at g2
  cases g2
  have hg2 : (getObj b).run P w = .ok (.map m r.2) w := by simp [getObj, Sem.run, g3]
  have hset : ∀ ob : Obj, (setObj b ob).run P w = .ok () { w with heap := w.heap.setIfInBounds b ob } := fun ob => by simp [setObj, Sem.run, g3]
  rcases entK_ok hfit hi hzV r.1 m.toList 0 res g4 hres with ⟨k1, k2, k3, k4⟩ | ⟨j, y, e, k1, k2, k3, k4, k5, k6, k7⟩
  · obtain ⟨b2, s2, a2, f1, f2, f3, f4⟩ := hr.setMap (c := c') (k' := res.1.2) (a' := m.push { key := a.eval i, val := zv, born := r.2 }) g1 (by simpa using k4)
    rw [h1] at f1
    cases f1
    refine ⟨.tuple #[zv, goInt r.2], ρ, _, ?_, ?_, f4⟩
    · simp only [execOp, ho]
      refine run_val ?_
      simp only [Instr.mapEntry, Sem.run_bind, run_under hu, Result.andThen, h2, hg2, run_checkKey hf, run_findKey hd k1, hzrun, hset, k2, Sem.run_pure]
    · rw [k3]
      simp only [VR]
      exact ⟨_, rfl, VRs.cons hzV (VRs.cons (VR.int64 ρ _) (VRs.nil ρ))⟩
  · obtain ⟨b2, s2, a2, f1, f2, f3, f4⟩ := hr.setMap (c := c') (k' := res.1.2) (a' := m.modify j fun e => { e with key := a.eval i }) g1 (by simpa using k7)
    rw [h1] at f1
    cases f1
    rw [Nat.zero_add] at k1
    rw [Array.getElem?_toList] at k3
    have hkey2 : (Instr.keyThatStays e.key (a.eval i)).run P w = .ok (a.eval i) w := by simp [Instr.keyThatStays, k4]
    refine ⟨.tuple #[y, goInt e.born], ρ, _, ?_, ?_, f4⟩
    · simp only [execOp, ho]
      refine run_val ?_
      simp only [Instr.mapEntry, Sem.run_bind, run_under hu, Result.andThen, h2, hg2, run_checkKey hf, run_findKey hd k1, hset, k2, Sem.run_pure, k3, Option.map_some, Option.getD_some, hkey2]
    · simp only [VR]
      exact ⟨_, rfl, VRs.cons k5 (VRs.cons (by rw [k6]; exact VR.int64 ρ _) (VRs.nil ρ))⟩
theorem putB_ok {ρ : Ren} {b : Nat} {x : AV} {y : Value} (hy : VR ρ x y) : ∀ (es : List (AV × AV × Nat)) (l : List MapEntry) (q : List (AV × AV × Nat)), ERs ρ es l → putB b x es = some q →
    ∃ i, l.findIdx? (fun e => (e.born : Int) == (b : Int)) = some i ∧ ERs ρ q (l.modify i fun e => { e with val := y })
  | [], _, _, _, h => by cases h
  | a :: es, l, q, hl, h => by
    obtain ⟨e, t, rfl, h1, h2, h3, h4⟩ := hl
    have h : ifB (Nat.beq a.2.2 b) (some ((a.1, x, a.2.2) :: es)) (ifS none (fun q => some (a :: q)) (putB b x es)) = some q := h
    cases hb : Nat.beq a.2.2 b with
    | true =>
      rw [hb] at h
      cases h
      have hb := Nat.eq_of_beq_eq_true hb
      exact ⟨0, by rw [List.findIdx?_cons]; simp [h3, hb], _, _, rfl, h1, hy, h3, h4⟩
    | false =>
      rw [hb, ifB_false] at h
      obtain ⟨q', h5, h⟩ := ifS_eq h
      cases h
      obtain ⟨i, h6, h7⟩ := putB_ok hy es t q' h4 h5
      have hne : a.2.2 ≠ b := fun e => by rw [e] at hb; simp at hb
      exact ⟨i + 1, by rw [List.findIdx?_cons, h6]; simp [h3]; omega, e, _, by simp, h1, h2, h3, h7⟩
theorem op_entryStore {t : TypeId} {x i y : Operand} {x' i' y' : Opd} (ho : o.op = .entryStore t x i y) (kx : cOpd x = some x') (ki : cOpd i = some i') (ky : cOpd y = some y') : OpOk P o (oEntryStore x' i' y') := by
  refine OpOk.of_skip fun call E c h v c' h' l he => ?_
  obtain ⟨m, hm, he⟩ := onMap_ok he
  obtain ⟨n, rfl, he⟩ := ifS_ok he
  obtain ⟨bn, hbn, he⟩ := ifS_ok (show ifS fail (fun b => M.bind (getMap n) fun r => ifS fail (fun q => M.map (fun _ => undefA) (setMap n (q, r.2))) (putB b (ev E y') r.1)) (asN (ev E i')) c h = _ from he)
  obtain ⟨r, c1, H1, l1, l2, e1, e2, _⟩ := bind_ok he
  obtain ⟨g1, rfl, rfl, _⟩ := getMap_ok e1
  obtain ⟨res, hres, e2⟩ := ifS_ok e2
  obtain ⟨u, e3, rfl⟩ := map_ok e2
  obtain ⟨rfl, rfl, _, _⟩ := setMap_ok e3
  refine ⟨rfl, fun ρ w a hr hE _ => ?_⟩
  have hx := cOpd_VR hE kx
  obtain ⟨j1, hi⟩ := asN_VR (cOpd_VR hE ki) hbn
  have hy := cOpd_VR hE ky
  rw [hm] at hx
  simp only [VR] at hx
  obtain ⟨b, s, h1, h2⟩ := hx
  obtain ⟨b', s', m, g2, g3, g4⟩ := getMap_rel hr g1
  rw [h1] at g2
  cases g2
  obtain ⟨k, k1, k2⟩ := putB_ok hy r.1 m.toList res g4 hres
  obtain ⟨b2, s2, a2, f1, f2, f3, f4⟩ := hr.setMap (c := c') (k' := r.2) (a' := m.modify k fun e => { e with val := a.eval y }) g1 (by simpa using k2)
  rw [h1] at f1
  cases f1
  refine ⟨ρ, _, ?_, f4⟩
  have hg2 : (getObj b).run P w = .ok (.map m r.2) w := by simp [getObj, Sem.run, g3]
  have hset : ∀ ob : Obj, (setObj b ob).run P w = .ok () { w with heap := w.heap.setIfInBounds b ob } := fun ob => by simp [setObj, Sem.run, g3]
  have hix : m.findIdx? (fun e => (e.born : Int) == (bn : Int)) = some k := by rw [← k1]; exact (show ∀ (m : Array MapEntry) (p : MapEntry → Bool), m.findIdx? p = m.toList.findIdx? p from fun ⟨l⟩ p => by simp) m _
  have hin : (asInt (a.eval i)).run P w = .ok (bn : Int) w := by rw [hi]; rfl
  simp only [execOp, ho, Instr.entryStore, Sem.run_bind, h2, hg2, hin, Result.andThen, hix, hset, Sem.run_pure]
end
end Go.Sx
namespace Go.Sx
open Go.RowKit

section
variable {P : Program} {o : Oper} {f : Ev}
theorem toArray_eq {α : Type} {a : Array α} {l : List α} (h : a.toList = l) : a = l.toArray := by
  subst h
  simp
theorem cOps_one {l : List Operand} {a : Opd} (h : cOps l = some [a]) : ∃ x, l = [x] ∧ cOpd x = some a := by
  cases l with
  | nil => cases h
  | cons x l =>
    obtain ⟨b, h1, h⟩ := ifS_eq (show ifS none (fun b => ifS none (fun r => some (b :: r)) (cOps l)) (cOpd x) = some [a] from h)
    obtain ⟨r, h2, h⟩ := ifS_eq h
    cases h
    cases l with
    | nil => exact ⟨x, rfl, h1⟩
    | cons y l =>
      obtain ⟨b, _, h2⟩ := ifS_eq (show ifS none (fun b => ifS none (fun r => some (b :: r)) (cOps l)) (cOpd y) = some [] from h2)
      obtain ⟨r, _, h2⟩ := ifS_eq h2
      cases h2
theorem cOps_two {l : List Operand} {a b : Opd} (h : cOps l = some [a, b]) : ∃ x y, l = [x, y] ∧ cOpd x = some a ∧ cOpd y = some b := by
  cases l with
  | nil => cases h
  | cons x l =>
    obtain ⟨q, h1, h⟩ := ifS_eq (show ifS none (fun b => ifS none (fun r => some (b :: r)) (cOps l)) (cOpd x) = some [a, b] from h)
    obtain ⟨r, h2, h⟩ := ifS_eq h
    cases h
    obtain ⟨y, rfl, h3⟩ := cOps_one h2
    exact ⟨x, y, rfl, h1, h3⟩
theorem cBuiltin0_ok {b : Builtin} {args : Array Operand} {ts : Array TypeId} {l : List Opd} (ho : o.op = .call { callee := .builtin b, args, argTypes := ts }) (kl : cOps args.toList = some l) (h : cBuiltin0 P b l ts.toList = some f) : OpOk P o f := by
  unfold cBuiltin0 at h
  split at h
  · rename_i x' y' sT eT hts
    obtain ⟨x, y, hl, kx, ky⟩ := cOps_two kl
    have hl := toArray_eq hl
    have hts := toArray_eq hts
    subst hl
    subst hts
    obtain ⟨el, he, h⟩ := ifS_eq h
    obtain ⟨Z, hZ, h⟩ := ifS_eq h
    obtain ⟨d, hd, h⟩ := ifS_eq h
    split at h
    · cases h; exact op_appendZ ho kx ky (elemS_eq he) hd hZ
    · rename_i hn; cases h; exact op_append ho kx ky (elemS_eq he) hd (fun i e => hn i e) hZ
  · rename_i x' t hts
    obtain ⟨x, hl, kx⟩ := cOps_one kl
    have hl := toArray_eq hl
    have hts := toArray_eq hts
    subst hl
    subst hts
    unfold cLen at h
    split at h
    · rename_i n e hu; cases h; exact op_lenArr ho (.inl ⟨_, hu⟩)
    · rename_i p hu
      split at h
      · rename_i n e hp; cases h; exact op_lenArr ho (.inr ⟨_, _, hu, hp⟩)
      · cases h
    · rename_i hu; cases h; exact op_len ho kx _ hu _ (.inl ⟨rfl, rfl⟩)
    · rename_i e hu; cases h; exact op_len ho kx _ hu _ (.inr (.inl ⟨_, rfl, rfl⟩))
    · rename_i i e hu; cases h; exact op_len ho kx _ hu _ (.inr (.inr ⟨_, _, rfl, rfl⟩))
    · cases h
  · rename_i x' t hts
    obtain ⟨x, hl, kx⟩ := cOps_one kl
    have hl := toArray_eq hl
    have hts := toArray_eq hts
    subst hl
    subst hts
    obtain ⟨el, he, h⟩ := ifS_eq h
    cases h
    exact op_cap ho kx (elemS_eq he)
  · obtain ⟨x, y, hl, kx, ky⟩ := cOps_two kl
    have hl := toArray_eq hl
    subst hl
    cases h
    exact op_minmax (b := false) ho kx ky
  · obtain ⟨x, y, hl, kx, ky⟩ := cOps_two kl
    have hl := toArray_eq hl
    subst hl
    cases h
    exact op_minmax (b := true) ho kx ky
  · cases h
theorem cBuiltin_ok {b : Builtin} {args : Array Operand} {ts : Array TypeId} {l : List Opd} (ho : o.op = .call { callee := .builtin b, args, argTypes := ts }) (kl : cOps args.toList = some l) (h : cBuiltin P b l ts.toList = some f) : OpOk P o f := by
  unfold cBuiltin at h
  split at h
  · unfold cCopy at h
    split at h
    · rename_i x' y' sT eT hts
      obtain ⟨x, y, hl, kx, ky⟩ := cOps_two kl
      have hl := toArray_eq hl
      have hts := toArray_eq hts
      subst hl
      subst hts
      obtain ⟨el, he, h⟩ := ifS_eq h
      obtain ⟨n, hn, h⟩ := ifS_eq h
      cases h
      exact op_copy ho kx ky (elemS_eq he) hn
    · cases h
  · exact cBuiltin0_ok ho kl h
theorem cOp_ok (h : cOp P o.op = some f) : OpOk P o f := by
  generalize hop : o.op = op at h
  unfold cOp at h
  split at h
  · obtain ⟨x', kx, h⟩ := ifS_eq h; cases h; exact op_move (.inl hop) kx
  · obtain ⟨x', kx, h⟩ := ifS_eq h; cases h; exact op_move (.inr hop) kx
  · obtain ⟨c', kc, h⟩ := ifS_eq h
    obtain ⟨a', ka, h⟩ := ifS_eq h
    obtain ⟨b', kb, h⟩ := ifS_eq h
    cases h
    exact op_pick hop kc ka kb
  · obtain ⟨z, hz, h⟩ := ifS_eq h; cases h; exact op_alloc hop hz
  · obtain ⟨x', kx, h⟩ := ifS_eq h; cases h; exact op_box hop kx
  · obtain ⟨z, hz, h⟩ := ifS_eq h; exact op_build hop hz h
  · obtain ⟨el, he, h⟩ := ifS_eq h
    obtain ⟨z, hz, h⟩ := ifS_eq h
    obtain ⟨hn, h⟩ := ifB_eq h
    obtain ⟨l, hl, h⟩ := ifS_eq h
    cases h
    exact op_buildSlice hop he hz (Nat.le_of_ble_eq_true hn) hl
  · obtain ⟨a', ka, h⟩ := ifS_eq h
    obtain ⟨b, hb, h⟩ := ifS_eq h
    cases b with
    | true =>
      obtain ⟨n, hn, h⟩ := ifS_eq (show ifS none (fun n => some (oLoadN n a')) _ = some f from h)
      cases h
      exact op_loadN hop ka hb hn
    | false => cases h; exact op_load1 hop ka hb
  · obtain ⟨a', ka, h⟩ := ifS_eq h
    obtain ⟨x', kx, h⟩ := ifS_eq h
    obtain ⟨n, hn, h⟩ := ifS_eq h
    cases h
    exact op_store hop ka kx hn
  · obtain ⟨x', kx, h⟩ := ifS_eq h; cases h; exact op_nilCheck hop kx
  · obtain ⟨a', ka, h⟩ := ifS_eq h
    obtain ⟨b', kb, h⟩ := ifS_eq h
    exact op_cBin hop ka kb h
  · obtain ⟨x', kx, h⟩ := ifS_eq h; cases h; exact op_not hop kx
  · obtain ⟨x', kx, h⟩ := ifS_eq h; cases h; exact op_neg hop kx
  · obtain ⟨x', kx, h⟩ := ifS_eq h
    obtain ⟨d1, h1, h⟩ := ifS_eq h
    obtain ⟨d2, h2, h⟩ := ifS_eq h
    unfold cConvB at h
    split at h
    · rename_i e
      split at h
      · rename_i hu; cases h; exact op_strBytes hop kx h1 h2 hu
      · cases h
    · unfold cConv at h
      split at h
      · cases h; exact op_conv hop kx h1 h2
      · cases h; exact op_chr hop kx h1 h2
      · cases h; exact op_convS hop kx h1 h2
      · cases h
  · obtain ⟨x', kx, h⟩ := ifS_eq h
    obtain ⟨hp, h⟩ := ifB_eq h
    cases h
    exact op_iface hop kx hp
  · obtain ⟨a', ka, h⟩ := ifS_eq h
    obtain ⟨b', kb, h⟩ := ifS_eq h
    cases h
    exact op_func hop ka kb
  · cases h; exact op_makeMap hop
  · obtain ⟨el, he, h⟩ := ifS_eq h
    obtain ⟨z, hz, h⟩ := ifS_eq h
    obtain ⟨l', kl, h⟩ := ifS_eq h
    obtain ⟨c', kc, h⟩ := ifS_eq h
    cases h
    exact op_makeSlice hop he hz kl kc
  · obtain ⟨x', kx, h⟩ := ifS_eq h
    obtain ⟨lo', kl, h⟩ := ifS_eq h
    obtain ⟨hi', kh, h⟩ := ifS_eq h
    unfold cSlice at h
    split at h
    · rename_i hu; cases h; exact op_sliceStr hop kx kl kh hu
    · rename_i el hu
      obtain ⟨n, hn, h⟩ := ifS_eq h
      cases h
      exact op_sliceSl hop kx kl kh hu hn
    · cases h
  · obtain ⟨x', kx, h⟩ := ifS_eq h
    obtain ⟨fd, hf, h⟩ := ifS_eq h
    obtain ⟨n, hn, h⟩ := ifS_eq h
    obtain ⟨h0, h⟩ := ifN_eq h
    cases h
    exact op_fieldAddr hop kx hf hn fun e => by subst e; cases h0
  · obtain ⟨x', kx, h⟩ := ifS_eq h
    obtain ⟨fd, hf, h⟩ := ifS_eq h
    obtain ⟨b, hb, h⟩ := ifS_eq h
    cases b with
    | true =>
      obtain ⟨n, hn, h⟩ := ifS_eq (show ifS none (fun n => some (oFieldN fd.offset n x')) _ = some f from h)
      cases h
      exact op_fieldN hop kx hf hb hn
    | false => cases h; exact op_field1 hop kx hf hb
  · obtain ⟨x', kx, h⟩ := ifS_eq h
    obtain ⟨i', ki, h⟩ := ifS_eq h
    unfold cIndexAddr at h
    split at h
    · rename_i n el hu
      obtain ⟨z, hz, h⟩ := ifS_eq h
      cases h
      exact op_indexAr hop kx ki hu hz
    · rename_i el hu
      obtain ⟨z, hz, h⟩ := ifS_eq h
      cases h
      exact op_indexSl hop kx ki hu hz
    · cases h
  · obtain ⟨x', kx, h⟩ := ifS_eq h
    obtain ⟨i', ki, h⟩ := ifS_eq h
    unfold cIndex at h
    split at h
    · rename_i n el hu
      obtain ⟨z, hz, h⟩ := ifS_eq h
      obtain ⟨b, hb, h⟩ := ifS_eq h
      cases h
      exact op_indexVal hop kx ki hu hz hb
    · rename_i hu; cases h; exact op_indexStr hop kx ki hu
    · cases h
  · obtain ⟨m', km, h⟩ := ifS_eq h
    obtain ⟨k', kk, h⟩ := ifS_eq h
    obtain ⟨q, hq, h⟩ := ifS_eq h
    obtain ⟨fk, hf, h⟩ := ifS_eq h
    obtain ⟨z, hz, h⟩ := ifS_eq h
    cases h
    exact op_lookup hop km kk hq hf hz
  · obtain ⟨m', km, h⟩ := ifS_eq h
    obtain ⟨k', kk, h⟩ := ifS_eq h
    obtain ⟨x', kx, h⟩ := ifS_eq h
    obtain ⟨q, hq, h⟩ := ifS_eq h
    obtain ⟨fk, hf, h⟩ := ifS_eq h
    cases h
    exact op_mapUpdate (.inl hop) km kk kx hq hf
  · obtain ⟨m', km, h⟩ := ifS_eq h
    obtain ⟨k', kk, h⟩ := ifS_eq h
    obtain ⟨x', kx, h⟩ := ifS_eq h
    obtain ⟨q, hq, h⟩ := ifS_eq h
    obtain ⟨fk, hf, h⟩ := ifS_eq h
    cases h
    exact op_mapUpdate (.inr hop) km kk kx hq hf
  · obtain ⟨m', km, h⟩ := ifS_eq h
    obtain ⟨k', kk, h⟩ := ifS_eq h
    obtain ⟨q, hq, h⟩ := ifS_eq h
    obtain ⟨g, hg, h⟩ := ifS_eq h
    obtain ⟨z, hz, h⟩ := ifS_eq h
    cases h
    exact op_mapEntry hop km kk hq hg hz
  · obtain ⟨m', km, h⟩ := ifS_eq h
    obtain ⟨s', ks, h⟩ := ifS_eq h
    obtain ⟨x', kx, h⟩ := ifS_eq h
    cases h
    exact op_entryStore hop km ks kx
  · obtain ⟨x', kx, h⟩ := ifS_eq h; cases h; exact op_extract hop kx
  · rename_i c
    obtain ⟨l, kl, h⟩ := ifS_eq h
    obtain ⟨callee, args, ts⟩ := c
    unfold cCall at h
    split at h
    · rename_i g hc
      obtain ⟨g', kg, h⟩ := ifS_eq h
      cases h
      cases hc
      exact op_call hop kg kl
    · rename_i b hc
      cases hc
      exact cBuiltin_ok hop kl h
    · rename_i x name hc
      obtain ⟨x', kx, h⟩ := ifS_eq h
      cases h
      cases hc
      exact op_invoke hop kx kl
  · rename_i t ok
    obtain ⟨x', kx, h⟩ := ifS_eq h
    obtain ⟨hp, h⟩ := ifB_eq h
    cases ok with
    | true =>
      obtain ⟨z, hz, h⟩ := ifS_eq (show ifS none (fun z => some (oAssert t (some z) x')) (zeroOf P t) = some f from h)
      cases h
      exact op_assert hop kx hp (.inr ⟨rfl, z, rfl, hz⟩)
    | false =>
      cases h
      exact op_assert hop kx hp (.inl ⟨rfl, rfl⟩)
  · cases h
end
end Go.Sx
namespace Go.Sx
open Go.RowKit

def DR (ρ : Ren) : List (Nat × List AV) → List Deferred → Prop
  | [], l => l = []
  | q :: x, l => ∃ d r c, l = d :: r ∧ d.target = .fn (.func q.1) c ∧ VRs ρ q.2 (d.args.toList ++ c.toList) ∧ DR ρ x r
theorem DR.mono {ρ σ : Ren} (h : Ren.le ρ σ) : ∀ (x : List (Nat × List AV)) (l : List Deferred), DR ρ x l → DR σ x l
  | [], _, e => e
  | _ :: x, _, ⟨d, r, c, h1, h2, h3, h4⟩ => ⟨d, r, c, h1, h2, VRs.mono h _ _ h3, DR.mono h x r h4⟩
/-- the state of a frame of at least n temporaries -/
structure StR (ρ : Ren) (n : Nat) (s : St) (a : Act) : Prop where
  env : ER ρ s.env a.tmps
  room : n ≤ a.tmps.size
  defers : DR ρ s.defers a.defers
theorem StR.mono {ρ σ : Ren} (h : Ren.le ρ σ) {n : Nat} {s : St} {a : Act} (k : StR ρ n s a) : StR σ n s a := ⟨k.env.mono h, k.room, DR.mono h _ _ k.defers⟩
theorem env_put (u : Nat) (v : AV) (e : Env) (t : Nat) : (Env.put u v e).get t = if t = u then v else e.get t := by
  show Bool.rec (motive := fun _ => AV) (e.get t) v (Nat.beq u t) = _
  cases h : Nat.beq u t with
  | true => rw [if_pos (Nat.eq_of_beq_eq_true h).symm]
  | false => rw [if_neg fun q => by subst q; simp at h]
theorem StR.put {ρ : Ren} {n : Nat} {s : St} {a : Act} (k : StR ρ n s a) {d : Option Nat} (hd : dstOk n d = true) {v : AV} {u : Value} (hv : VR ρ v u) : StR ρ n (putE d v s) (a.put d u) := by
  cases d with
  | none => exact k
  | some d =>
    have hlt : d < n := by
      have : Nat.blt d n = true := hd
      rw [blt_dec] at this
      exact of_decide_eq_true this
    have hr := k.room
    refine ⟨fun t => ?_, by simpa [Act.put] using k.room, k.defers⟩
    show VR ρ ((Env.put d v s.env).get t) _
    rw [env_put]
    by_cases ht : t = d
    · rw [if_pos ht]
      subst ht
      have : (a.put (some t) u).tmps.getD t undef = u := by
        simp only [Act.put, Array.getD_eq_getD_getElem?, Array.getElem?_setIfInBounds_self]
        rw [if_pos (by omega)]
        rfl
      rw [this]
      exact hv
    · rw [if_neg ht]
      have : (a.put (some d) u).tmps.getD t undef = a.tmps.getD t undef := by
        simp only [Act.put, Array.getD_eq_getD_getElem?, Array.getElem?_setIfInBounds_ne (Ne.symm ht)]
      rw [this]
      exact k.env t
theorem VR.bool_iff {ρ : Ren} {v : AV} {u : Value} (h : VR ρ v u) (b : Bool) : u = .bool b ↔ v = .bool b := by
  cases v with
  | bool c => simp only [VR] at h; subst h; simp
  | int k n => simp only [VR] at h; subst h; simp
  | str s => simp only [VR] at h; obtain ⟨_, rfl, _⟩ := h; simp
  | ptr a => cases a <;> simp only [VR] at h <;> (first | subst h | obtain ⟨_, _, _, rfl⟩ := h) <;> simp
  | slice a n c z => cases a <;> simp only [VR] at h <;> (first | subst h | obtain ⟨_, _, _, _, _, rfl, _⟩ := h) <;> simp
  | map a => cases a <;> simp only [VR] at h <;> (first | subst h | obtain ⟨_, _, _, rfl⟩ := h) <;> simp
  | fn f a c => simp only [VR] at h; obtain ⟨_, _, rfl, _⟩ := h; simp
  | nilFn => simp only [VR] at h; subst h; simp
  | iface t x => simp only [VR] at h; obtain ⟨_, rfl, _⟩ := h; simp
  | nilIface => simp only [VR] at h; subst h; simp
  | agg l => simp only [VR] at h; obtain ⟨_, rfl, _⟩ := h; simp
  | tuple l => simp only [VR] at h; obtain ⟨_, rfl, _⟩ := h; simp
section
variable {P : Program} {ops : Array Oper}
theorem guardO_ok {g : Option (Nat × Bool)} {q : Option (Nat × Bool)} (h : guardO ops g = some q) : (g = none ∧ q = none) ∨ ∃ j w o t, g = some (j, w) ∧ ops[j]? = some o ∧ o.dst = some t ∧ q = some (t, w) := by
  cases g with
  | none => cases h; exact .inl ⟨rfl, rfl⟩
  | some g =>
    obtain ⟨o, ho, h⟩ := ifS_eq (show ifS none (fun o => ifS none (fun t => some (some (t, g.2))) o.dst) ops[g.1]? = some q from h)
    obtain ⟨t, ht, h⟩ := ifS_eq h
    cases h
    exact .inr ⟨g.1, g.2, o, t, rfl, ho, ht, rfl⟩
/-- is an operation wanted? -/
noncomputable def gOn (q : Option (Nat × Bool)) (e : Env) : Bool := match q with
  | none => true
  | some q => isB q.2 (e.get q.1)
theorem wanted_eq {ρ : Ren} {e : Env} {tmps : Array Value} (hE : ER ρ e tmps) {o : Oper} {q : Option (Nat × Bool)} (h : guardO ops o.guard = some q) :
    Region.wanted o (yielded ops tmps) = gOn q e := by
  rcases guardO_ok h with ⟨h1, rfl⟩ | ⟨j, w, o', t, h1, h2, h3, rfl⟩
  · simp [Region.wanted, h1, gOn]
  · simp only [Region.wanted, h1, gOn]
    have hy : yielded ops tmps j = match tmps[t]? with | some (.bool b) => some b | _ => none := by
      simp [yielded, h2, h3]
      rfl
    rw [hy]
    have hV := hE t
    cases hg : tmps[t]? with
    | none =>
      have hu : tmps.getD t undef = undef := by simp [Array.getD_eq_getD_getElem?, hg]
      rw [hu] at hV
      have : ∀ b, e.get t ≠ .bool b := fun b hb => by
        have := (hV.bool_iff b).2 hb
        cases this
      cases hv : e.get t <;> first | rfl | exact absurd hv (this _)
    | some u =>
      have hu : tmps.getD t undef = u := by simp [Array.getD_eq_getD_getElem?, hg]
      rw [hu] at hV
      cases hv : e.get t with
      | bool b =>
        rw [(hV.bool_iff b).2 hv]
        cases b <;> cases w <;> rfl
      | _ =>
        have : ∀ b, u ≠ .bool b := fun b hb => by
          have := (hV.bool_iff b).1 hb
          rw [hv] at this
          cases this
        cases u <;> first | rfl | exact absurd rfl (this _)
theorem cDefer_ok {op : Op} {q : Opd × List Opd} (h : cDefer op = some q) : ∃ f args ts, op = .defer { callee := .value f, args, argTypes := ts } ∧ cOpd f = some q.1 ∧ cOps args.toList = some q.2 := by
  unfold cDefer at h
  split at h
  · rename_i c
    obtain ⟨callee, args, ts⟩ := c
    cases callee with
    | value f =>
      obtain ⟨f', kf, h⟩ := ifS_eq (show ifS none (fun f => ifS none (fun l => some (f, l)) (cOps args.toList)) (cOpd f) = some q from h)
      obtain ⟨l, kl, h⟩ := ifS_eq h
      cases h
      exact ⟨f, args, ts, rfl, kf, kl⟩
    | _ => cases h
  · cases h
theorem stepV_ok {d : Option Nat} {g : Option (Nat × Bool)} {f : Ev} {call : Ctx} {s s' : St} {c c' : Nat} {h h' : H} {l : Log} (e : stepV d g f call s c h = .ok s' c' h' l) :
    (gOn g s.env = true ∧ ∃ v, f call s.env c h = .ok v c' h' l ∧ s' = putE d v s) ∨
    (gOn g s.env = false ∧ s' = putE d undefA s ∧ c' = c ∧ h' = h ∧ l = []) := by
  cases g with
  | none =>
    obtain ⟨v, h1, h2⟩ := map_ok (show M.map (fun v => putE d v s) (f call s.env) c h = _ from e)
    exact .inl ⟨rfl, v, h1, h2⟩
  | some q =>
    have e : ifB (isB q.2 (s.env.get q.1)) (M.map (fun v => putE d v s) (f call s.env)) (M.pure (putE d undefA s)) c h = Rs.ok s' c' h' l := e
    cases k : isB q.2 (s.env.get q.1) with
    | true =>
      rw [k] at e
      obtain ⟨v, h1, h2⟩ := map_ok (show M.map (fun v => putE d v s) (f call s.env) c h = _ from e)
      exact .inl ⟨k, v, h1, h2⟩
    | false =>
      rw [k] at e
      obtain ⟨h1, h2, h3, h4⟩ := pure_ok (show M.pure (putE d undefA s) c h = _ from e)
      exact .inr ⟨k, h1, h2, h3, h4⟩
/-- one operation -/
theorem step1_ok {n i : Nat} {o : Oper} (hi : ops[i]? = some o) {call : Ctx} (hcall : CallOk P call) {s s' : St} {c c' : Nat} {h h' : H} {l : Log} (e : step1 call s (cIt P n ops o) c h = .ok s' c' h' l) {ρ : Ren} {w : World} {a : Act} (hr : Rel ρ h w) (hS : StR ρ n s a) (hf : Free ρ c c')
    {K : Act → World → Prop} {Q : Exit → Act → World → Prop} (hk : ∀ a' w' ρ', StR ρ' n s' a' → Post ρ h w c c' ρ' h' w' → K a' w') : wpOp P ops Q i K a w := by
  unfold wpOp
  simp only [hi]
  unfold cIt at e
  cases hd : dstOk n o.dst with
  | false => rw [hd] at e; cases e
  | true =>
    rw [hd, ifB_true] at e
    cases hq : cDefer o.op with
    | some q =>
      rw [hq, ifS_some] at e
      cases hg : o.guard with
      | some g => rw [hg] at e; cases e
      | none =>
        rw [hg] at e
        obtain ⟨g, x, y, hv, e⟩ := onFn_ok (show stepD o.dst q.1 q.2 s c h = _ from e)
        obtain ⟨rfl, rfl, rfl, _⟩ := pure_ok e
        obtain ⟨f, args, ts, hop, kf, kl⟩ := cDefer_ok hq
        have hx := cOpd_VR hS.env kf
        rw [hv] at hx
        simp only [VR] at hx
        obtain ⟨x', y', hx, h1, h2⟩ := hx
        have hw : Region.wanted o (yielded ops a.tmps) = true := by simp [Region.wanted, hg]
        rw [if_pos hw]
        left
        have hrun : (execOp a.eval o).run P w = .ok (.defer { target := .fn (.func g) y', args := x' ++ args.map a.eval }) w := by
          simp only [execOp, hop, resolve, Deferred.ofValue, hx, Sem.run_bind, Sem.run_pure, Result.andThen]
        unfold Oper.wp
        rw [hrun, Oper.upon_defer]
        refine hk _ _ ρ ?_ (Post.refl hr)
        have base : StR ρ n ⟨s.env, (g, x ++ (evs s.env q.2 ++ y)) :: s.defers⟩ { a with defers := { target := .fn (.func g) y', args := x' ++ args.map a.eval } :: a.defers } := by
          refine ⟨hS.env, hS.room, _, _, y', rfl, rfl, ?_, hS.defers⟩
          simp only [Array.toList_append, Array.toList_map, List.append_assoc]
          exact h1.append ((cOps_VR hS.env kl).append h2)
        exact base.put hd (VR.undefA ρ)
    | none =>
      rw [hq, ifS_none] at e
      cases hg : guardO ops o.guard with
      | none => rw [hg] at e; cases e
      | some g =>
        rw [hg, ifS_some] at e
        have hw := wanted_eq hS.env hg
        rcases stepV_ok (show stepV o.dst g (ifS oFail (fun f => f) (cOp P o.op)) call s c h = _ from e) with ⟨h1, v, h2, rfl⟩ | ⟨h1, rfl, rfl, rfl, _⟩
        · rw [h1] at hw
          rw [if_pos hw]
          left
          cases hc : cOp P o.op with
          | none => rw [hc] at h2; cases h2
          | some f =>
            rw [hc] at h2
            exact cOp_ok hc call hcall _ _ _ _ _ _ _ h2 ρ w a hr hS.env hf _ _ fun v' ρ' w' hV hp => hk _ _ ρ' ((hS.mono (hp.le hf)).put hd hV) hp
        · rw [h1] at hw
          rw [if_neg (by rw [hw]; exact Bool.false_ne_true)]
          exact hk _ _ ρ (hS.put hd (VR.undefA ρ)) (Post.refl hr)
end
end Go.Sx
namespace Go.Sx

/-- what lies at a place: a cell of a row; or at no offset: which kind of object; a map lies at each of its places -/
noncomputable def vw (h : H) (n : Nat) (x : Option Nat) : Option (AO ⊕ AV) :=
  match h.get n, x with
  | none, _ => none
  | some (.row _), none => some (.inl (.row []))
  | some (.row cs), some i => (cs[i]?).map .inr
  | some (.mp es k), _ => some (.inl (.mp es k))
theorem vw_none {h : H} {n : Nat} (e : h.get n = none) (x : Option Nat) : vw h n x = none := by unfold vw; rw [e]
theorem vw_congr {g h : H} {n : Nat} (e : g.get n = h.get n) (x : Option Nat) : vw g n x = vw h n x := by unfold vw; rw [e]
theorem vw_row {h : H} {n : Nat} {cs : List AV} (e : h.get n = some (.row cs)) (i : Nat) : vw h n (some i) = (cs[i]?).map .inr := by unfold vw; rw [e]
theorem vw_tag {h : H} {n : Nat} {cs : List AV} (e : h.get n = some (.row cs)) : vw h n none = some (.inl (.row [])) := by unfold vw; rw [e]
theorem vw_map {h : H} {n : Nat} {es : List (AV × AV × Nat)} {k : Nat} (e : h.get n = some (.mp es k)) (x : Option Nat) : vw h n x = some (.inl (.mp es k)) := by unfold vw; rw [e]
theorem vw_ext {g h : H} {n : Nat} (e : ∀ x, vw g n x = vw h n x) : g.get n = h.get n := by
  have e0 := e none
  cases hh : h.get n with
  | none =>
    rw [vw_none hh] at e0
    cases hg : g.get n with
    | none => rfl
    | some o => cases o with
      | row cs => rw [vw_tag hg] at e0; cases e0
      | mp es k => rw [vw_map hg] at e0; cases e0
  | some o =>
    cases o with
    | mp es k =>
      rw [vw_map hh] at e0
      cases hg : g.get n with
      | none => rw [vw_none hg] at e0; cases e0
      | some o => cases o with
        | row cs => rw [vw_tag hg] at e0; cases e0
        | mp es k => rw [vw_map hg] at e0; cases e0; rfl
    | row cs =>
      rw [vw_tag hh] at e0
      cases hg : g.get n with
      | none => rw [vw_none hg] at e0; cases e0
      | some o => cases o with
        | mp es k => rw [vw_map hg] at e0; cases e0
        | row ds =>
          have : ds = cs := by
            apply List.ext_getElem?
            intro i
            have := e (some i)
            rw [vw_row hg, vw_row hh] at this
            cases h1 : ds[i]? <;> cases h2 : cs[i]? <;> rw [h1, h2] at this <;> first | rfl | (cases this; rfl) | cases this
          rw [this]
theorem vw_cell {g : H} {n i : Nat} {v : AV} (e : vw g n (some i) = some (.inr v)) : ∃ cs, g.get n = some (.row cs) ∧ cs[i]? = some v := by
  cases hg : g.get n with
  | none => rw [vw_none hg] at e; cases e
  | some o => cases o with
    | mp es k => rw [vw_map hg] at e; cases e
    | row cs =>
      rw [vw_row hg] at e
      cases h1 : cs[i]? with
      | none => rw [h1] at e; cases e
      | some u => rw [h1] at e; cases e; exact ⟨cs, rfl, h1⟩
theorem vw_whole {g h : H} {n : Nat} {es : List (AV × AV × Nat)} {k : Nat} (hh : h.get n = some (.mp es k)) (e : vw g n none = vw h n none) : g.get n = some (.mp es k) := by
  rw [vw_map hh] at e
  cases hg : g.get n with
  | none => rw [vw_none hg] at e; cases e
  | some o => cases o with
    | row cs => rw [vw_tag hg] at e; cases e
    | mp es' k' => rw [vw_map hg] at e; cases e; rfl
/-- the places that a log touches; those that it writes -/
def Tou (l : Log) (n : Nat) (x : Option Nat) : Prop := ∃ b, (n, none, b) ∈ l ∨ ∃ i, x = some i ∧ (n, some i, b) ∈ l
def Wri (l : Log) (n : Nat) (x : Option Nat) : Prop := (n, none, true) ∈ l ∨ ∃ i, x = some i ∧ (n, some i, true) ∈ l
theorem Wri.tou {l : Log} {n : Nat} {x : Option Nat} (h : Wri l n x) : Tou l n x := by
  rcases h with h | ⟨i, h1, h2⟩
  · exact ⟨true, .inl h⟩
  · exact ⟨true, .inr ⟨i, h1, h2⟩⟩
theorem Tou.left {l k : Log} {n : Nat} {x : Option Nat} (h : Tou l n x) : Tou (l ++ k) n x := by
  obtain ⟨b, h⟩ := h
  rcases h with h | ⟨i, h1, h2⟩
  · exact ⟨b, .inl (List.mem_append_left _ h)⟩
  · exact ⟨b, .inr ⟨i, h1, List.mem_append_left _ h2⟩⟩
theorem Tou.right {l k : Log} {n : Nat} {x : Option Nat} (h : Tou k n x) : Tou (l ++ k) n x := by
  obtain ⟨b, h⟩ := h
  rcases h with h | ⟨i, h1, h2⟩
  · exact ⟨b, .inl (List.mem_append_right _ h)⟩
  · exact ⟨b, .inr ⟨i, h1, List.mem_append_right _ h2⟩⟩
theorem Wri.append {l k : Log} {n : Nat} {x : Option Nat} : Wri (l ++ k) n x ↔ Wri l n x ∨ Wri k n x := by
  unfold Wri
  constructor
  · rintro (h | ⟨i, h1, h2⟩)
    · rcases List.mem_append.1 h with h | h
      · exact .inl (.inl h)
      · exact .inr (.inl h)
    · rcases List.mem_append.1 h2 with h | h
      · exact .inl (.inr ⟨i, h1, h⟩)
      · exact .inr (.inr ⟨i, h1, h⟩)
  · rintro ((h | ⟨i, h1, h2⟩) | (h | ⟨i, h1, h2⟩))
    · exact .inl (List.mem_append_left _ h)
    · exact .inr ⟨i, h1, List.mem_append_left _ h2⟩
    · exact .inl (List.mem_append_right _ h)
    · exact .inr ⟨i, h1, List.mem_append_right _ h2⟩
def TouC (l : Log) (c c' n : Nat) (x : Option Nat) : Prop := (c ≤ n ∧ n < c') ∨ Tou l n x
def WriC (l : Log) (c c' n : Nat) (x : Option Nat) : Prop := (c ≤ n ∧ n < c') ∨ Wri l n x
theorem WriC.tou {l : Log} {c c' n : Nat} {x : Option Nat} (h : WriC l c c' n x) : TouC l c c' n x := h.imp id Wri.tou
theorem blt_true {n c : Nat} (h : n < c) : Nat.blt n c = true := by rw [blt_dec]; exact decide_eq_true h
structure LoAt {α : Type} (m : M α) (c : Nat) (h : H) (a : α) (c' : Nat) (h' : H) (l : Log) : Prop where
  le : c ≤ c'
  low : ∀ q ∈ l, q.1 < c'
  stay : ∀ n x, ¬ WriC l c c' n x → vw h' n x = vw h n x
  carry : ∀ g, (∀ n x, TouC l c c' n x → vw g n x = vw h n x) → ∃ g', m c g = .ok a c' g' l ∧ (∀ n x, WriC l c c' n x → vw g' n x = vw h' n x) ∧ ∀ n x, ¬ WriC l c c' n x → vw g' n x = vw g n x
def Lo {α : Type} (m : M α) : Prop := ∀ c h a c' h' l, m c h = .ok a c' h' l → LoAt m c h a c' h' l
section
variable {α β : Type}
theorem Lo.pure (a : α) : Lo (M.pure a) := by
  intro c h b c' h' l e
  obtain ⟨rfl, rfl, rfl, rfl⟩ := pure_ok e
  refine ⟨Nat.le_refl _, fun q hq => (by cases hq), fun n x _ => rfl, fun g _ => ⟨g, rfl, fun n x hw => ?_, fun n x _ => rfl⟩⟩
  rcases hw with ⟨h1, h2⟩ | h | ⟨i, _, h⟩
  · omega
  · cases h
  · cases h
theorem Lo.fail : Lo (fail : M α) := fun _ _ _ _ _ _ e => by cases e
theorem map_run {f : α → β} {m : M α} {c c' : Nat} {h h' : H} {a : α} {l : Log} (e : m c h = .ok a c' h' l) : M.map f m c h = .ok (f a) c' h' l := by
  show Rs.rec (motive := fun _ => Rs β) .fail (fun a c h l => .ok (f a) c h l) (m c h) = _
  rw [e]
theorem bind_run {m : M α} {k : α → M β} {c c1 c2 : Nat} {h h1 h2 : H} {a : α} {b : β} {l1 l2 : Log} (e : m c h = .ok a c1 h1 l1) (f : k a c1 h1 = .ok b c2 h2 l2) : M.bind m k c h = .ok b c2 h2 (l1 ++ l2) := by
  show Rs.andThen k (m c h) = _
  rw [e]
  show Rs.rec (motive := fun _ => Rs β) .fail (fun b c h l2 => .ok b c h (List.append l1 l2)) (k a c1 h1) = _
  rw [f]
  rfl
theorem Lo.map {f : α → β} {m : M α} (hm : Lo m) : Lo (M.map f m) := by
  intro c h b c' h' l e
  obtain ⟨a, e2, rfl⟩ := map_ok e
  obtain ⟨h1, h3, h4, h5⟩ := hm c h a c' h' l e2
  refine ⟨h1, h3, h4, fun g hg => ?_⟩
  obtain ⟨g', k1, k2⟩ := h5 g hg
  exact ⟨g', map_run k1, k2⟩
theorem Lo.bind {m : M α} {k : α → M β} (hm : Lo m) (hk : ∀ a, Lo (k a)) : Lo (M.bind m k) := by
  intro c h b c2 h2 l e
  obtain ⟨a, c1, h1, l1, l2, e1, e2, rfl⟩ := bind_ok e
  obtain ⟨p1, p3, p4, p5⟩ := hm c h a c1 h1 l1 e1
  obtain ⟨q1, q3, q4, q5⟩ := hk a c1 h1 b c2 h2 l2 e2
  have hW : ∀ n x, WriC (l1 ++ l2) c c2 n x ↔ WriC l1 c c1 n x ∨ WriC l2 c1 c2 n x := fun n x => by
    unfold WriC
    rw [Wri.append]
    constructor
    · rintro (⟨h1, h2⟩ | h | h)
      · rcases Nat.lt_or_ge n c1 with hh | hh
        · exact .inl (.inl ⟨h1, hh⟩)
        · exact .inr (.inl ⟨hh, h2⟩)
      · exact .inl (.inr h)
      · exact .inr (.inr h)
    · rintro ((⟨h1, h2⟩ | h) | (⟨h1, h2⟩ | h))
      · exact .inl ⟨h1, by omega⟩
      · exact .inr (.inl h)
      · exact .inl ⟨by omega, h2⟩
      · exact .inr (.inr h)
  have hT1 : ∀ n x, TouC l1 c c1 n x → TouC (l1 ++ l2) c c2 n x := fun n x h => by
    rcases h with ⟨h1, h2⟩ | h
    · exact .inl ⟨h1, by omega⟩
    · exact .inr h.left
  have hT2 : ∀ n x, TouC l2 c1 c2 n x → TouC (l1 ++ l2) c c2 n x := fun n x h => by
    rcases h with ⟨h1, h2⟩ | h
    · exact .inl ⟨by omega, h2⟩
    · exact .inr h.right
  refine ⟨Nat.le_trans p1 q1, fun q hq => ?_, fun n x hn => ?_, fun g hg => ?_⟩
  · rcases List.mem_append.1 hq with hq | hq
    · exact Nat.lt_of_lt_of_le (p3 q hq) q1
    · exact q3 q hq
  · rw [q4 n x fun h => hn ((hW n x).2 (.inr h)), p4 n x fun h => hn ((hW n x).2 (.inl h))]
  · obtain ⟨g1, k1, k2, k3⟩ := p5 g fun n x h => hg n x (hT1 n x h)
    have hg1 : ∀ n x, TouC l2 c1 c2 n x → vw g1 n x = vw h1 n x := fun n x h => by
      by_cases hw : WriC l1 c c1 n x
      · exact k2 n x hw
      · rw [k3 n x hw, p4 n x hw]
        exact hg n x (hT2 n x h)
    obtain ⟨g2, m1, m2, m3⟩ := q5 g1 hg1
    refine ⟨g2, bind_run k1 m1, fun n x hw => ?_, fun n x hw => ?_⟩
    · by_cases hw2 : WriC l2 c1 c2 n x
      · exact m2 n x hw2
      · rw [m3 n x hw2, q4 n x hw2]
        rcases (hW n x).1 hw with h | h
        · exact k2 n x h
        · exact absurd h hw2
    · rw [m3 n x fun h => hw ((hW n x).2 (.inr h)), k3 n x fun h => hw ((hW n x).2 (.inl h))]
theorem Lo.ifB {b : Bool} {m k : M α} (h1 : Lo m) (h2 : Lo k) : Lo (ifB b m k) := by cases b <;> assumption
theorem Lo.ifS {o : Option β} {d : M α} {k : β → M α} (h1 : Lo d) (h2 : ∀ a, Lo (k a)) : Lo (ifS d k o) := by
  cases o
  · exact h1
  · exact h2 _
theorem Lo.ifC {o : List β} {d : M α} {k : β → List β → M α} (h1 : Lo d) (h2 : ∀ a t, Lo (k a t)) : Lo (ifC d k o) := by
  cases o
  · exact h1
  · exact h2 _ _
theorem Lo.onBool {v : AV} {d : M α} {k : Bool → M α} (h1 : Lo d) (h2 : ∀ a, Lo (k a)) : Lo (onBool d k v) := by cases v <;> first | exact h2 _ | exact h1
theorem Lo.onInt {v : AV} {d : M α} {k : IntKind → Int → M α} (h1 : Lo d) (h2 : ∀ a b, Lo (k a b)) : Lo (onInt d k v) := by cases v <;> first | exact h2 _ _ | exact h1
theorem Lo.onStr {v : AV} {d : M α} {k : List Nat → M α} (h1 : Lo d) (h2 : ∀ a, Lo (k a)) : Lo (onStr d k v) := by cases v <;> first | exact h2 _ | exact h1
theorem Lo.onPtr {v : AV} {d : M α} {k : Option (Nat × Nat) → M α} (h1 : Lo d) (h2 : ∀ a, Lo (k a)) : Lo (onPtr d k v) := by cases v <;> first | exact h2 _ | exact h1
theorem Lo.onSlice {v : AV} {d : M α} {k : Option (Nat × Nat) → Nat → Nat → Nat → M α} (h1 : Lo d) (h2 : ∀ a n m z, Lo (k a n m z)) : Lo (onSlice d k v) := by cases v <;> first | exact h2 _ _ _ _ | exact h1
theorem Lo.onMap {v : AV} {d : M α} {k : Option Nat → M α} (h1 : Lo d) (h2 : ∀ a, Lo (k a)) : Lo (onMap d k v) := by cases v <;> first | exact h2 _ | exact h1
theorem Lo.onFn {v : AV} {d : M α} {k : Nat → List AV → List AV → M α} (h1 : Lo d) (h2 : ∀ a b c, Lo (k a b c)) : Lo (onFn d k v) := by cases v <;> first | exact h2 _ _ _ | exact h1
theorem Lo.onAgg {v : AV} {d : M α} {k : List AV → M α} (h1 : Lo d) (h2 : ∀ a, Lo (k a)) : Lo (onAgg d k v) := by cases v <;> first | exact h2 _ | exact h1
theorem Lo.onTuple {v : AV} {d : M α} {k : List AV → M α} (h1 : Lo d) (h2 : ∀ a, Lo (k a)) : Lo (onTuple d k v) := by cases v <;> first | exact h2 _ | exact h1
theorem Lo.onNat {v : Int} {d : M α} {k : Nat → M α} (h1 : Lo d) (h2 : ∀ a, Lo (k a)) : Lo (onNat d k v) := by cases v <;> first | exact h2 _ | exact h1
end
theorem Lo.newO (o : AO) : Lo (newO o) := by
  intro c h n c' h' l e
  obtain ⟨rfl, rfl, rfl, rfl⟩ := newO_ok e
  have hW : ∀ m x, WriC [] n (n + 1) m x ↔ m = n := fun m x => by
    constructor
    · rintro (⟨h1, h2⟩ | h | ⟨i, _, h⟩)
      · omega
      · cases h
      · cases h
    · intro h; exact .inl (by omega)
  refine ⟨Nat.le_succ _, fun q hq => (by cases hq), fun m x hn => ?_, fun g _ => ⟨g.set n (some o), rfl, fun m x hw => ?_, fun m x hn => ?_⟩⟩
  · exact vw_congr (by rw [T.get_set, if_neg fun e => hn ((hW m x).2 e)]) x
  · have := (hW m x).1 hw
    subst this
    exact vw_congr (by rw [T.get_set, T.get_set, if_pos rfl, if_pos rfl]) x
  · exact vw_congr (by rw [T.get_set, if_neg fun e => hn ((hW m x).2 e)]) x
theorem Lo.getMap (n : Nat) : Lo (getMap n) := by
  intro c h r c' h' l e
  obtain ⟨h1, rfl, rfl, rfl, hlt⟩ := getMap_ok e
  have hW : ∀ m x, ¬ WriC [(n, none, false)] c' c' m x := fun m x hw => by
    rcases hw with ⟨h1, h2⟩ | h | ⟨i, _, h⟩
    · omega
    · simp at h
    · simp at h
  refine ⟨Nat.le_refl _, fun q hq => ?_, fun m x _ => rfl, fun g hg => ⟨g, ?_, fun m x hw => absurd hw (hW m x), fun m x _ => rfl⟩⟩
  · simp only [List.mem_singleton] at hq
    subst hq
    exact hlt
  · have hg1 := vw_whole h1 (hg n none (.inr ⟨false, .inl (List.mem_singleton.2 rfl)⟩))
    unfold Sx.getMap
    rw [blt_true hlt, hg1]
    rfl
theorem wri_one {n c m : Nat} {x : Option Nat} : WriC [(n, none, true)] c c m x ↔ m = n := by
  constructor
  · rintro (⟨h1, h2⟩ | h | ⟨i, _, h⟩)
    · omega
    · simpa using h
    · simp at h
  · intro h; exact .inr (.inl (by simp [h]))
theorem LoAt.set_one {α : Type} {m : M α} {n c : Nat} {h : H} {a : α} {o : Option AO} (hn : n < c) (hm : ∀ g, (∀ x, vw g n x = vw h n x) → m c g = .ok a c (g.set n o) [(n, none, true)]) : LoAt m c h a c (h.set n o) [(n, none, true)] := by
  refine ⟨Nat.le_refl _, fun q hq => ?_, fun m x hn => ?_, fun g hg => ⟨g.set n o, hm g fun x => hg n x (.inr ⟨true, .inl (List.mem_singleton.2 rfl)⟩), fun m x hw => ?_, fun m x hn => ?_⟩⟩
  · simp only [List.mem_singleton] at hq
    subst hq
    exact hn
  · exact vw_congr (by rw [T.get_set, if_neg fun e => hn (wri_one.2 e)]) x
  · have := wri_one.1 hw
    subst this
    exact vw_congr (by rw [T.get_set, T.get_set, if_pos rfl, if_pos rfl]) x
  · exact vw_congr (by rw [T.get_set, if_neg fun e => hn (wri_one.2 e)]) x
theorem Lo.setMap (n : Nat) (r : List (AV × AV × Nat) × Nat) : Lo (setMap n r) := by
  intro c h u c' h' l e
  obtain ⟨rfl, rfl, rfl, hlt, o, ho⟩ := setMap_ok e
  refine LoAt.set_one hlt fun g hg => ?_
  unfold Sx.setMap
  rw [blt_true hlt, vw_ext hg, ho]
  rfl
theorem Lo.killRow (n off k : Nat) : Lo (killRow n off k) := by
  intro c h v c' h' l e
  obtain ⟨cs, h1, h2, rfl, rfl, rfl, hlt⟩ := killRow_ok e
  refine LoAt.set_one hlt fun g hg => ?_
  unfold Sx.killRow rowOf
  rw [blt_true hlt, vw_ext hg, h1]
  show Sx.ifS Rs.fail (fun l => Rs.ok l c' (g.set n none) [(n, none, true)]) (takeN k (dropN off cs)) = _
  rw [h2]
  rfl
/-- what reads alone -/
theorem LoAt.reads {α : Type} {m : M α} {c : Nat} {h : H} {a : α} {l : Log} (hl : ∀ q ∈ l, q.1 < c ∧ q.2.2 = false) (hm : ∀ g, (∀ n x, Tou l n x → vw g n x = vw h n x) → m c g = .ok a c g l) : LoAt m c h a c h l := by
  have hW : ∀ m x, ¬ WriC l c c m x := fun m x hw => by
    rcases hw with ⟨h1, h2⟩ | h | ⟨i, _, h⟩
    · omega
    · have := (hl _ h).2; cases this
    · have := (hl _ h).2; cases this
  exact ⟨Nat.le_refl _, fun q hq => (hl q hq).1, fun n x _ => rfl, fun g hg => ⟨g, hm g fun n x h => hg n x (.inr h), fun n x hw => absurd hw (hW n x), fun n x _ => rfl⟩⟩
theorem Lo.load1 (n off : Nat) : Lo (load1 n off) := by
  intro c h v c' h' l e
  obtain ⟨cs, t, h1, h2, rfl, rfl, rfl, hlt⟩ := load1_ok e
  refine LoAt.reads (fun q hq => ?_) fun g hg => ?_
  · simp only [List.mem_singleton] at hq
    subst hq
    exact ⟨hlt, rfl⟩
  · have hv : cs[off]? = some v := by
      rw [dropN_eq] at h2
      simpa [List.head?_drop] using congrArg List.head? h2
    have := hg n (some off) ⟨false, .inr ⟨off, rfl, List.mem_singleton.2 rfl⟩⟩
    rw [vw_row h1, hv] at this
    obtain ⟨ds, g1, g2⟩ := vw_cell this
    unfold Sx.load1 rowOf
    rw [blt_true hlt, g1]
    show Sx.ifC Rs.fail (fun v _ => Rs.ok v c' g [(n, some off, false)]) (dropN off ds) = _
    have hd : ∃ t', dropN off ds = v :: t' := by
      rw [dropN_eq]
      have hlt : off < ds.length := by
        rcases Nat.lt_or_ge off ds.length with hh | hh
        · exact hh
        · rw [List.getElem?_eq_none hh] at g2; cases g2
      rw [List.drop_eq_getElem_cons hlt]
      rw [List.getElem?_eq_getElem hlt] at g2
      cases g2
      exact ⟨_, rfl⟩
    obtain ⟨t', hd⟩ := hd
    rw [hd]
    rfl
theorem locs_mem {b : Bool} {n : Nat} : ∀ {k off : Nat} {q : Nat × Option Nat × Bool}, q ∈ locs b n k off ↔ ∃ i, i < k ∧ q = (n, some (off + i), b)
  | 0, off, q => by
    constructor
    · intro h; cases h
    · rintro ⟨i, h, _⟩; omega
  | k + 1, off, q => by
    show q ∈ (n, some off, b) :: locs b n k (off + 1) ↔ _
    rw [List.mem_cons, locs_mem]
    constructor
    · rintro (rfl | ⟨i, h, rfl⟩)
      · exact ⟨0, by omega, rfl⟩
      · exact ⟨i + 1, by omega, by rw [show off + 1 + i = off + (i + 1) by omega]⟩
    · rintro ⟨i, h, rfl⟩
      cases i with
      | zero => exact .inl rfl
      | succ i => exact .inr ⟨i, by omega, by rw [show off + 1 + i = off + (i + 1) by omega]⟩
/-- cells that are alike -/
theorem row_alike {g h : H} {n off k : Nat} {b : Bool} {cs : List AV} (h1 : h.get n = some (.row cs)) (hk : off + k ≤ cs.length) (h0 : k ≠ 0) (hg : ∀ m x, Tou (locs b n k off) m x → vw g m x = vw h m x) :
    ∃ ds, g.get n = some (.row ds) ∧ ∀ i, i < k → ds[off + i]? = cs[off + i]? := by
  have key : ∀ i, i < k → ∃ ds, g.get n = some (.row ds) ∧ ds[off + i]? = cs[off + i]? := fun i hi => by
    have := hg n (some (off + i)) ⟨b, .inr ⟨off + i, rfl, locs_mem.2 ⟨i, hi, rfl⟩⟩⟩
    rw [vw_row h1, List.getElem?_eq_getElem (by omega)] at this
    obtain ⟨ds, g1, g2⟩ := vw_cell this
    exact ⟨ds, g1, by rw [g2, List.getElem?_eq_getElem (by omega)]⟩
  obtain ⟨ds, g1, _⟩ := key 0 (by omega)
  refine ⟨ds, g1, fun i hi => ?_⟩
  obtain ⟨ds', g1', g2⟩ := key i hi
  rw [g1] at g1'
  cases g1'
  exact g2
theorem takeN_some : ∀ (k : Nat) (l : List AV), k ≤ l.length → takeN k l = some (l.take k)
  | 0, _, _ => rfl
  | k + 1, [], h => by simp at h
  | k + 1, a :: l, h => by
    show ifS none (fun r => some (a :: r)) (takeN k l) = _
    rw [takeN_some k l (by simpa using h)]
    rfl
theorem putL_some : ∀ (vs cs : List AV), vs.length ≤ cs.length → ∃ r, putL vs cs = some r
  | [], cs, _ => ⟨cs, rfl⟩
  | _ :: _, [], h => by simp at h
  | v :: vs, c :: cs, h => by
    obtain ⟨r, hr⟩ := putL_some vs cs (by simpa using h)
    exact ⟨v :: r, by show ifS none (fun r => some (v :: r)) (putL vs cs) = _; rw [hr]; rfl⟩
theorem putAt_some (vs : List AV) : ∀ (n : Nat) (cs : List AV), n + vs.length ≤ cs.length → ∃ r, putAt vs n cs = some r
  | 0, cs, h => putL_some vs cs (by simpa using h)
  | n + 1, [], h => by simp at h
  | n + 1, c :: cs, h => by
    obtain ⟨r, hr⟩ := putAt_some vs n cs (by simp only [List.length_cons] at h; omega)
    exact ⟨c :: r, by show ifS none (fun r => some (c :: r)) (putAt vs n cs) = _; rw [hr]; rfl⟩
theorem Lo.loadN (n off k : Nat) : Lo (loadN n off k) := by
  unfold Sx.loadN
  cases hk0 : Nat.beq k 0 with
  | true => exact Lo.pure _
  | false =>
    have h0 : k ≠ 0 := fun e => by subst e; cases hk0
    intro c h v c' h' l e
    obtain ⟨cs, h1, h2, rfl, rfl, rfl, hlt⟩ := loadR_ok (show loadR n off k c h = _ from e)
    obtain ⟨rfl, hk⟩ := takeN_eq _ _ _ h2
    rw [dropN_eq, List.length_drop] at hk
    refine LoAt.reads (fun q hq => ?_) fun g hg => ?_
    · obtain ⟨i, _, rfl⟩ := locs_mem.1 hq
      exact ⟨hlt, rfl⟩
    · obtain ⟨ds, g1, g2⟩ := row_alike h1 (by omega) h0 hg
      show loadR n off k c' g = _
      unfold loadR rowOf
      rw [blt_true hlt, g1]
      show Sx.ifS Rs.fail (fun l => Rs.ok l c' g (locs false n k off)) (takeN k (dropN off ds)) = _
      have hlen : off + k ≤ ds.length := by
        have := g2 (k - 1) (by omega)
        rw [List.getElem?_eq_getElem (by omega : off + (k - 1) < cs.length)] at this
        have hh := (List.getElem?_eq_some_iff.1 this).1
        omega
      have : takeN k (dropN off ds) = some ((dropN off cs).take k) := by
        rw [dropN_eq, dropN_eq, takeN_some k _ (by rw [List.length_drop]; omega)]
        congr 1
        apply List.ext_getElem?
        intro i
        rw [List.getElem?_take, List.getElem?_take]
        split
        · rename_i hi
          rw [List.getElem?_drop, List.getElem?_drop]
          exact g2 i hi
        · rfl
      rw [this]
      rfl
theorem Lo.storeN (n off : Nat) (vs : List AV) : Lo (storeN n off vs) := by
  cases vs with
  | nil => exact Lo.pure _
  | cons v vs =>
    intro c h u c' h' l e
    obtain ⟨cs, r, h1, h2, h3, rfl, rfl, rfl, hlt⟩ := storeR_ok (show storeR n off (v :: vs) c h = _ from e)
    generalize hvs : v :: vs = us at *
    have h0 : us.length ≠ 0 := by rw [← hvs]; simp
    obtain ⟨hr, hk⟩ := putAt_eq _ _ _ _ h2
    have hW : ∀ m x, WriC (locs true n (len us) off) c' c' m x ↔ m = n ∧ ∃ i, i < us.length ∧ x = some (off + i) := fun m x => by
      rw [len_eq]
      constructor
      · rintro (⟨h1, h2⟩ | h | ⟨i, rfl, h⟩)
        · omega
        · obtain ⟨i, _, hh⟩ := locs_mem.1 h; cases hh
        · obtain ⟨j, hj, hh⟩ := locs_mem.1 h; cases hh; exact ⟨rfl, j, hj, rfl⟩
      · rintro ⟨rfl, i, hi, rfl⟩
        exact .inr (.inr ⟨_, rfl, locs_mem.2 ⟨i, hi, rfl⟩⟩)
    have hcell : ∀ (es q : List AV), q = es.take off ++ (us ++ es.drop (off + us.length)) → off + us.length ≤ es.length → ∀ i, q[i]? = if off ≤ i ∧ i < off + us.length then us[i - off]? else es[i]? := fun es q hq hl i => by
      subst hq
      have ht : (es.take off).length = off := by rw [List.length_take]; omega
      by_cases ha : i < off
      · rw [List.getElem?_append_left (by omega), List.getElem?_take, if_pos ha, if_neg (by omega)]
      · rw [List.getElem?_append_right (by omega), ht]
        by_cases hb : i < off + us.length
        · rw [List.getElem?_append_left (by omega), if_pos ⟨by omega, hb⟩]
        · rw [List.getElem?_append_right (by omega), List.getElem?_drop, if_neg (by omega)]
          congr 1
          omega
    have hset : ∀ (g : H) (es q : List AV), g.get n = some (.row es) → q = es.take off ++ (us ++ es.drop (off + us.length)) → off + us.length ≤ es.length →
        (∀ m x, ¬ WriC (locs true n (len us) off) c' c' m x → vw (g.set n (some (.row q))) m x = vw g m x) ∧ ∀ i, i < us.length → vw (g.set n (some (.row q))) n (some (off + i)) = (us[i]?).map .inr := fun g es q hg hq hl => by
      have hn : (g.set n (some (.row q))).get n = some (.row q) := by rw [T.get_set, if_pos rfl]
      refine ⟨fun m x hw => ?_, fun i hi => ?_⟩
      · by_cases hm : m = n
        · subst hm
          cases x with
          | none => rw [vw_tag hn, vw_tag hg]
          | some i =>
            rw [vw_row hn, vw_row hg, hcell es q hq hl i, if_neg fun hh => hw ((hW m _).2 ⟨rfl, i - off, by omega, by rw [show off + (i - off) = i by omega]⟩)]
        · exact vw_congr (by rw [T.get_set, if_neg hm]) x
      · rw [vw_row hn, hcell es q hq hl, if_pos ⟨by omega, by omega⟩, Nat.add_sub_cancel_left]
    obtain ⟨s1, s2⟩ := hset h cs r h1 hr hk
    refine ⟨Nat.le_refl _, fun q hq => ?_, s1, fun g hg => ?_⟩
    · obtain ⟨i, _, rfl⟩ := locs_mem.1 hq
      exact hlt
    · rw [len_eq] at hg
      obtain ⟨ds, g1, g2⟩ := row_alike h1 hk h0 (fun m x ht => hg m x (.inr ht))
      have hlen : off + us.length ≤ ds.length := by
        have := g2 (us.length - 1) (by omega)
        rw [List.getElem?_eq_getElem (by omega : off + (us.length - 1) < cs.length)] at this
        have hh := (List.getElem?_eq_some_iff.1 this).1
        omega
      obtain ⟨q, hq⟩ := putAt_some us off ds hlen
      obtain ⟨hq', _⟩ := putAt_eq _ _ _ _ hq
      obtain ⟨t1, t2⟩ := hset g ds q g1 hq' hlen
      refine ⟨g.set n (some (.row q)), ?_, fun m x hw => ?_, t1⟩
      · have : Sx.storeN n off us c' g = storeR n off us c' g := by rw [← hvs]; rfl
        rw [this]
        unfold storeR rowOf
        rw [blt_true hlt, g1]
        show Sx.ifS Rs.fail (fun r => Sx.ifB (scals us) (Rs.ok () c' (g.set n (some (.row r))) (locs true n (len us) off)) Rs.fail) (putAt us off ds) = _
        rw [hq]
        show Sx.ifB (scals us) (Rs.ok () c' (g.set n (some (.row q))) (locs true n (len us) off)) Rs.fail = _
        rw [h3]
        rfl
      · obtain ⟨rfl, i, hi, rfl⟩ := (hW m x).1 hw
        rw [t2 i hi, s2 i hi]
end Go.Sx
namespace Go.Sx

def CtxLo (call : Ctx) : Prop := ∀ f args, Lo (call f args)
class LoF (f : Ev) : Prop where
  lo : ∀ call, CtxLo call → ∀ e, Lo (f call e)
section
theorem Lo.boolRec {α : Type} {b : Bool} {m k : M α} (h1 : Lo m) (h2 : Lo k) : Lo (Bool.rec m k b : M α) := by cases b <;> assumption
instance (x : Opd) : LoF (oMove x) := ⟨fun _ _ _ => Lo.pure _⟩
instance (c a b : Opd) : LoF (oPick c a b) := ⟨fun _ _ _ => Lo.onBool Lo.fail fun _ => Lo.pure _⟩
instance (z : List AV) : LoF (oAlloc z) := ⟨fun _ _ _ => Lo.map (Lo.newO _)⟩
instance (x : Opd) : LoF (oBox x) := ⟨fun _ _ _ => Lo.map (Lo.newO _)⟩
instance (z : List AV) (ps : List (Nat × Nat × Opd)) : LoF (oBuild z ps) := ⟨fun _ _ _ => Lo.ifS Lo.fail fun _ => Lo.pure _⟩
instance (k : Nat) (z : List AV) (n : Nat) (ps : List (Nat × Nat × Opd)) : LoF (oBuildSlice k z n ps) := ⟨fun _ _ _ => Lo.ifS Lo.fail fun _ => Lo.map (Lo.newO _)⟩
theorem load1At_lo (v : AV) : Lo (load1At v) := Lo.onPtr Lo.fail fun _ => Lo.ifS Lo.fail fun _ => Lo.load1 _ _
theorem loadNAt_lo (n : Nat) (v : AV) : Lo (loadNAt n v) := Lo.onPtr Lo.fail fun _ => Lo.ifS Lo.fail fun _ => Lo.map (Lo.loadN _ _ _)
instance (x : Opd) : LoF (oLoad1 x) := ⟨fun _ _ _ => load1At_lo _⟩
instance (n : Nat) (x : Opd) : LoF (oLoadN n x) := ⟨fun _ _ _ => loadNAt_lo _ _⟩
instance (n : Nat) (a x : Opd) : LoF (oStore n a x) := ⟨fun _ _ _ => Lo.ifB (Lo.onPtr Lo.fail fun _ => Lo.ifS Lo.fail fun _ => Lo.map (Lo.storeN _ _ _)) Lo.fail⟩
instance (x : Opd) : LoF (oNilCheck x) := ⟨fun _ _ _ => Lo.onPtr Lo.fail fun _ => Lo.ifS Lo.fail fun _ => Lo.pure _⟩
instance (op : BinOp) (x y : Opd) : LoF (oBin op x y) := ⟨fun _ _ _ => Lo.ifS Lo.fail fun _ => Lo.pure _⟩
instance (f : AV → AV → Option Bool) (b : Bool) (x y : Opd) : LoF (oEq f b x y) := ⟨fun _ _ _ => Lo.ifS Lo.fail fun _ => Lo.pure _⟩
instance (x : Opd) : LoF (oNot x) := ⟨fun _ _ _ => Lo.onBool Lo.fail fun _ => Lo.pure _⟩
instance (x : Opd) : LoF (oNeg x) := ⟨fun _ _ _ => Lo.onInt Lo.fail fun _ _ => Lo.pure _⟩
instance (k : IntKind) (x : Opd) : LoF (oConv k x) := ⟨fun _ _ _ => Lo.onInt Lo.fail fun _ _ => Lo.pure _⟩
instance (x : Opd) : LoF (oChr x) := ⟨fun _ _ _ => Lo.onInt Lo.fail fun _ _ => Lo.onNat Lo.fail fun _ => Lo.ifB (Lo.pure _) Lo.fail⟩
instance (x : Opd) : LoF (oSame x) := ⟨fun _ _ _ => Lo.onStr Lo.fail fun _ => Lo.pure _⟩
instance (x : Opd) : LoF (oStrBytes x) := ⟨fun _ _ _ => Lo.onStr Lo.fail fun _ => Lo.ifB (Lo.map (Lo.newO _)) Lo.fail⟩
instance (t : Nat) (x : Opd) : LoF (oIface t x) := ⟨fun _ _ _ => Lo.pure _⟩
instance (f : Nat) (a b : List Opd) : LoF (oFunc f a b) := ⟨fun _ _ _ => Lo.pure _⟩
instance : LoF oMakeMap := ⟨fun _ _ _ => Lo.map (Lo.newO _)⟩
instance (z : List AV) (l c : Opd) : LoF (oMakeSlice z l c) := ⟨fun _ _ _ => Lo.ifS Lo.fail fun _ => Lo.ifS Lo.fail fun _ => Lo.ifB (Lo.map (Lo.newO _)) Lo.fail⟩
instance (x : Opd) (lo hi : Option Opd) : LoF (oSliceStr x lo hi) := ⟨fun _ _ _ => Lo.onStr Lo.fail fun _ => Lo.ifS Lo.fail fun _ => Lo.ifS Lo.fail fun _ => Lo.ifB (Lo.pure _) Lo.fail⟩
instance (z : Nat) (x : Opd) (lo hi : Option Opd) : LoF (oSliceSl z x lo hi) := ⟨fun _ _ _ => Lo.onSlice Lo.fail fun _ _ _ _ => Lo.ifB (Lo.ifS Lo.fail fun _ => Lo.ifS Lo.fail fun _ => Lo.ifB (Lo.pure _) Lo.fail) Lo.fail⟩
instance (n : Nat) (x : Opd) : LoF (oFieldAddr n x) := ⟨fun _ _ _ => Lo.onPtr Lo.fail fun _ => Lo.ifS Lo.fail fun _ => Lo.pure _⟩
theorem part1_lo (n : Nat) (v : AV) : Lo (part1 n v) := Lo.onAgg Lo.fail fun _ => Lo.ifC Lo.fail fun _ _ => Lo.pure _
theorem partN_lo (n m : Nat) (v : AV) : Lo (partN n m v) := Lo.onAgg Lo.fail fun _ => Lo.ifS Lo.fail fun _ => Lo.pure _
instance (n : Nat) (x : Opd) : LoF (oField1 n x) := ⟨fun _ _ _ => part1_lo _ _⟩
instance (n m : Nat) (x : Opd) : LoF (oFieldN n m x) := ⟨fun _ _ _ => partN_lo _ _ _⟩
theorem ixA_lo (z n : Nat) (a : Nat × Nat) (i : Option Nat) : Lo (ixA z n a i) := Lo.ifS Lo.fail fun _ => Lo.ifB (Lo.pure _) Lo.fail
instance (z : Nat) (x i : Opd) : LoF (oIndexSl z x i) := ⟨fun _ _ _ => Lo.onSlice Lo.fail fun _ _ _ _ => Lo.ifS Lo.fail fun _ => ixA_lo _ _ _ _⟩
instance (n z : Nat) (x i : Opd) : LoF (oIndexAr n z x i) := ⟨fun _ _ _ => Lo.onPtr Lo.fail fun _ => Lo.ifS Lo.fail fun _ => ixA_lo _ _ _ _⟩
instance (x i : Opd) : LoF (oIndexStr x i) := ⟨fun _ _ _ => Lo.onStr Lo.fail fun _ => Lo.ifS Lo.fail fun _ => Lo.ifC Lo.fail fun _ _ => Lo.pure _⟩
instance (n z : Nat) (b : Bool) (x i : Opd) : LoF (oIndexVal n z b x i) := ⟨fun _ _ _ => Lo.ifS Lo.fail fun _ => Lo.ifB (Lo.ifB (partN_lo _ _ _) (part1_lo _ _)) Lo.fail⟩
instance (f : FK) (z : AV) (m k : Opd) (ok : Bool) : LoF (oLookup f z m k ok) := ⟨fun _ _ _ => Lo.onMap Lo.fail fun _ => Lo.ifS (Lo.pure _) fun _ => Lo.bind (Lo.getMap _) fun _ => Lo.ifS Lo.fail fun _ => Lo.pure _⟩
instance (n : Nat) (x y : Opd) : LoF (oCopy n x y) := ⟨fun _ _ _ => Lo.onSlice Lo.fail fun _ _ _ _ => Lo.ifB (Lo.bind (Lo.onSlice (Lo.onStr Lo.fail fun _ => Lo.ifB (Lo.pure _) Lo.fail) fun _ _ _ _ => Lo.ifS (Lo.ifB (Lo.pure _) Lo.fail) fun _ => Lo.map (Lo.loadN _ _ _)) fun _ => Lo.ifB (Lo.map (Lo.ifS (Lo.pure _) fun _ => Lo.storeN _ _ _)) Lo.fail) Lo.fail⟩
instance (f : FK) (z : AV) (m k : Opd) : LoF (oMapEntry f z m k) := ⟨fun _ _ _ => Lo.onMap Lo.fail fun _ => Lo.ifS Lo.fail fun _ => Lo.bind (Lo.getMap _) fun _ => Lo.ifS Lo.fail fun _ => Lo.map (Lo.setMap _ _)⟩
instance (m s x : Opd) : LoF (oEntryStore m s x) := ⟨fun _ _ _ => Lo.onMap Lo.fail fun _ => Lo.ifS Lo.fail fun _ => Lo.ifS Lo.fail fun _ => Lo.bind (Lo.getMap _) fun _ => Lo.ifS Lo.fail fun _ => Lo.map (Lo.setMap _ _)⟩
instance (f : FK) (m k x : Opd) : LoF (oMapUpdate f m k x) := ⟨fun _ _ _ => Lo.onMap Lo.fail fun _ => Lo.ifS Lo.fail fun _ => Lo.bind (Lo.getMap _) fun _ => Lo.ifS Lo.fail fun _ => Lo.map (Lo.setMap _ _)⟩
instance (x : Opd) (i : Nat) : LoF (oExtract x i) := ⟨fun _ _ _ => Lo.onTuple Lo.fail fun _ => Lo.ifC Lo.fail fun _ _ => Lo.pure _⟩
instance (f : Opd) (l : List Opd) : LoF (oCall f l) := ⟨fun _ hc _ => Lo.onFn Lo.fail fun _ _ _ => hc _ _⟩
theorem recvA_lo (q : Option Nat) (v : AV) : Lo (recvA q v) := Lo.ifS (Lo.pure _) fun _ => Lo.onPtr Lo.fail fun _ => Lo.ifS Lo.fail fun _ => Lo.load1 _ _
theorem Lo.onIface {α : Type} {v : AV} {m n : M α} {k : Nat → AV → M α} (hm : Lo m) (hn : Lo n) (hk : ∀ t u, Lo (k t u)) : Lo (onIface m n k v) := by cases v <;> first | exact hk _ _ | exact hm | exact hn
instance (mt : Nat → Option (Nat × Option Nat)) (x : Opd) (l : List Opd) : LoF (oInvoke mt x l) := ⟨fun _ hc _ => Lo.onIface Lo.fail Lo.fail fun _ _ => Lo.ifS Lo.fail fun _ => Lo.bind (recvA_lo _ _) fun _ => hc _ _⟩
theorem offA_lo (z : Option AV) : Lo (offA z) := Lo.ifS Lo.fail fun _ => Lo.pure _
instance (t : Nat) (z : Option AV) (x : Opd) : LoF (oAssert t z x) := ⟨fun _ _ _ => Lo.onIface Lo.fail (offA_lo _) fun _ _ => Lo.ifB (Lo.pure _) (offA_lo _)⟩
theorem grow_lo (z n : Nat) {m : M Nat} (h : Lo m) : Lo (grow z n m) := Lo.map h
theorem app1_lo (z : Nat) {m : M (List AV × Nat)} (h : Lo m) (v : AV) : Lo (app1 z m v) := Lo.onSlice Lo.fail fun _ _ _ _ => Lo.bind h fun _ =>
  Lo.ifB (Lo.boolRec (Lo.ifS (Lo.ifB (grow_lo _ _ (Lo.newO _)) Lo.fail) fun _ => Lo.ifB (Lo.bind (Lo.killRow _ _ _) fun _ => grow_lo _ _ (Lo.newO _)) Lo.fail) (Lo.ifS (Lo.pure _) fun _ => Lo.map (Lo.storeN _ _ _))) Lo.fail
instance (z : Nat) (x y : Opd) : LoF (oAppend z x y) := ⟨fun _ _ _ => app1_lo _ (Lo.onSlice (Lo.onStr Lo.fail fun _ => Lo.ifB (Lo.pure _) Lo.fail) fun _ _ _ _ => Lo.ifS (Lo.ifB (Lo.pure _) Lo.fail) fun _ => Lo.map (Lo.loadN _ _ _)) _⟩
instance (z : Nat) (l : List AV) (x y : Opd) : LoF (oAppendZ z l x y) := ⟨fun _ _ _ => app1_lo _ (Lo.ifS Lo.fail fun _ => Lo.ifB (Lo.pure _) Lo.fail) _⟩
instance (n : Nat) : LoF (oLenArr n) := ⟨fun _ _ _ => Lo.pure _⟩
instance (x : Opd) : LoF (oLenStr x) := ⟨fun _ _ _ => Lo.onStr Lo.fail fun _ => Lo.pure _⟩
instance (x : Opd) : LoF (oLenSl x) := ⟨fun _ _ _ => Lo.onSlice Lo.fail fun _ _ _ _ => Lo.pure _⟩
instance (x : Opd) : LoF (oLenMap x) := ⟨fun _ _ _ => Lo.onMap Lo.fail fun _ => Lo.ifS (Lo.pure _) fun _ => Lo.map (Lo.getMap _)⟩
instance (x : Opd) : LoF (oCap x) := ⟨fun _ _ _ => Lo.onSlice Lo.fail fun _ _ _ _ => Lo.ifS (Lo.pure _) fun _ => Lo.fail⟩
instance (b : Bool) (x y : Opd) : LoF (oMinMax b x y) := ⟨fun _ _ _ => Lo.onInt Lo.fail fun _ _ => Lo.onInt Lo.fail fun _ _ => Lo.pure _⟩
variable {P : Program} {f : Ev}
theorem cBuiltin0_lo {b : Builtin} {ts : List TypeId} {l : List Opd} (h : cBuiltin0 P b l ts = some f) : LoF f := by
  unfold cBuiltin0 at h
  split at h
  · rename_i x' y' sT eT hts
    obtain ⟨el, he, h⟩ := ifS_eq h
    obtain ⟨Z, hZ, h⟩ := ifS_eq h
    obtain ⟨d, hd, h⟩ := ifS_eq h
    split at h
    · cases h; exact inferInstance
    · rename_i hn; cases h; exact inferInstance
  · rename_i x' t hts
    unfold cLen at h
    split at h
    · rename_i n e hu; cases h; exact inferInstance
    · rename_i p hu
      split at h
      · rename_i n e hp; cases h; exact inferInstance
      · cases h
    · rename_i hu; cases h; exact inferInstance
    · rename_i e hu; cases h; exact inferInstance
    · rename_i i e hu; cases h; exact inferInstance
    · cases h
  · rename_i x' t hts
    obtain ⟨el, he, h⟩ := ifS_eq h
    cases h
    exact inferInstance
  · skip
    cases h
    exact inferInstance
  · skip
    cases h
    exact inferInstance
  · cases h
theorem cBuiltin_lo {b : Builtin} {l : List Opd} {ts : List TypeId} (h : cBuiltin P b l ts = some f) : LoF f := by
  unfold cBuiltin at h
  split at h
  · unfold cCopy at h
    split at h
    · obtain ⟨el, he, h⟩ := ifS_eq h
      obtain ⟨n, hn, h⟩ := ifS_eq h
      cases h
      exact inferInstance
    · cases h
  · exact cBuiltin0_lo h
theorem cOp_lo {op : Op} (h : cOp P op = some f) : LoF f := by
  unfold cOp at h
  split at h
  · obtain ⟨x', kx, h⟩ := ifS_eq h; cases h; exact inferInstance
  · obtain ⟨x', kx, h⟩ := ifS_eq h; cases h; exact inferInstance
  · obtain ⟨c', kc, h⟩ := ifS_eq h
    obtain ⟨a', ka, h⟩ := ifS_eq h
    obtain ⟨b', kb, h⟩ := ifS_eq h
    cases h
    exact inferInstance
  · obtain ⟨z, hz, h⟩ := ifS_eq h; cases h; exact inferInstance
  · obtain ⟨x', kx, h⟩ := ifS_eq h; cases h; exact inferInstance
  · obtain ⟨z, hz, h⟩ := ifS_eq h
    unfold cBuild at h
    split at h
    · obtain ⟨pl, hpl, h⟩ := ifS_eq h
      obtain ⟨l, hl, h⟩ := ifS_eq h
      cases h
      exact inferInstance
    · obtain ⟨s, hs, h⟩ := ifS_eq h
      obtain ⟨l, hl, h⟩ := ifS_eq h
      cases h
      exact inferInstance
    · cases h
  · obtain ⟨el, he, h⟩ := ifS_eq h
    obtain ⟨z, hz, h⟩ := ifS_eq h
    obtain ⟨hn, h⟩ := ifB_eq h
    obtain ⟨l, hl, h⟩ := ifS_eq h
    cases h
    exact inferInstance
  · obtain ⟨a', ka, h⟩ := ifS_eq h
    obtain ⟨b, hb, h⟩ := ifS_eq h
    cases b with
    | true =>
      obtain ⟨n, hn, h⟩ := ifS_eq (show ifS none (fun n => some (oLoadN n a')) _ = some f from h)
      cases h
      exact inferInstance
    | false => cases h; exact inferInstance
  · obtain ⟨a', ka, h⟩ := ifS_eq h
    obtain ⟨x', kx, h⟩ := ifS_eq h
    obtain ⟨n, hn, h⟩ := ifS_eq h
    cases h
    exact inferInstance
  · obtain ⟨x', kx, h⟩ := ifS_eq h; cases h; exact inferInstance
  · obtain ⟨a', ka, h⟩ := ifS_eq h
    obtain ⟨b', kb, h⟩ := ifS_eq h
    unfold cBin at h
    cases hs : isScal P _ with
    | true => rw [hs] at h; cases h; exact inferInstance
    | false =>
      rw [hs, ifB_false] at h
      split at h
      · obtain ⟨g, hg, h⟩ := ifS_eq h; cases h; exact inferInstance
      · obtain ⟨g, hg, h⟩ := ifS_eq h; cases h; exact inferInstance
      · cases h
  · obtain ⟨x', kx, h⟩ := ifS_eq h; cases h; exact inferInstance
  · obtain ⟨x', kx, h⟩ := ifS_eq h; cases h; exact inferInstance
  · obtain ⟨x', kx, h⟩ := ifS_eq h
    obtain ⟨d1, h1, h⟩ := ifS_eq h
    obtain ⟨d2, h2, h⟩ := ifS_eq h
    unfold cConvB at h
    split at h
    · rename_i e
      split at h
      · rename_i hu; cases h; exact inferInstance
      · cases h
    · unfold cConv at h
      split at h
      · cases h; exact inferInstance
      · cases h; exact inferInstance
      · cases h; exact inferInstance
      · cases h
  · obtain ⟨x', kx, h⟩ := ifS_eq h
    obtain ⟨hp, h⟩ := ifB_eq h
    cases h
    exact inferInstance
  · obtain ⟨a', ka, h⟩ := ifS_eq h
    obtain ⟨b', kb, h⟩ := ifS_eq h
    cases h
    exact inferInstance
  · cases h; exact inferInstance
  · obtain ⟨el, he, h⟩ := ifS_eq h
    obtain ⟨z, hz, h⟩ := ifS_eq h
    obtain ⟨l', kl, h⟩ := ifS_eq h
    obtain ⟨c', kc, h⟩ := ifS_eq h
    cases h
    exact inferInstance
  · obtain ⟨x', kx, h⟩ := ifS_eq h
    obtain ⟨lo', kl, h⟩ := ifS_eq h
    obtain ⟨hi', kh, h⟩ := ifS_eq h
    unfold cSlice at h
    split at h
    · rename_i hu; cases h; exact inferInstance
    · rename_i el hu
      obtain ⟨n, hn, h⟩ := ifS_eq h
      cases h
      exact inferInstance
    · cases h
  · obtain ⟨x', kx, h⟩ := ifS_eq h
    obtain ⟨fd, hf, h⟩ := ifS_eq h
    obtain ⟨n, hn, h⟩ := ifS_eq h
    obtain ⟨h0, h⟩ := ifN_eq h
    cases h
    exact inferInstance
  · obtain ⟨x', kx, h⟩ := ifS_eq h
    obtain ⟨fd, hf, h⟩ := ifS_eq h
    obtain ⟨b, hb, h⟩ := ifS_eq h
    cases b with
    | true =>
      obtain ⟨n, hn, h⟩ := ifS_eq (show ifS none (fun n => some (oFieldN fd.offset n x')) _ = some f from h)
      cases h
      exact inferInstance
    | false => cases h; exact inferInstance
  · obtain ⟨x', kx, h⟩ := ifS_eq h
    obtain ⟨i', ki, h⟩ := ifS_eq h
    unfold cIndexAddr at h
    split at h
    · rename_i n el hu
      obtain ⟨z, hz, h⟩ := ifS_eq h
      cases h
      exact inferInstance
    · rename_i el hu
      obtain ⟨z, hz, h⟩ := ifS_eq h
      cases h
      exact inferInstance
    · cases h
  · obtain ⟨x', kx, h⟩ := ifS_eq h
    obtain ⟨i', ki, h⟩ := ifS_eq h
    unfold cIndex at h
    split at h
    · rename_i n el hu
      obtain ⟨z, hz, h⟩ := ifS_eq h
      obtain ⟨b, hb, h⟩ := ifS_eq h
      cases h
      exact inferInstance
    · rename_i hu; cases h; exact inferInstance
    · cases h
  · obtain ⟨m', km, h⟩ := ifS_eq h
    obtain ⟨k', kk, h⟩ := ifS_eq h
    obtain ⟨q, hq, h⟩ := ifS_eq h
    obtain ⟨fk, hf, h⟩ := ifS_eq h
    obtain ⟨z, hz, h⟩ := ifS_eq h
    cases h
    exact inferInstance
  · obtain ⟨m', km, h⟩ := ifS_eq h
    obtain ⟨k', kk, h⟩ := ifS_eq h
    obtain ⟨x', kx, h⟩ := ifS_eq h
    obtain ⟨q, hq, h⟩ := ifS_eq h
    obtain ⟨fk, hf, h⟩ := ifS_eq h
    cases h
    exact inferInstance
  · obtain ⟨m', km, h⟩ := ifS_eq h
    obtain ⟨k', kk, h⟩ := ifS_eq h
    obtain ⟨x', kx, h⟩ := ifS_eq h
    obtain ⟨q, hq, h⟩ := ifS_eq h
    obtain ⟨fk, hf, h⟩ := ifS_eq h
    cases h
    exact inferInstance
  · obtain ⟨m', km, h⟩ := ifS_eq h
    obtain ⟨k', kk, h⟩ := ifS_eq h
    obtain ⟨q, hq, h⟩ := ifS_eq h
    obtain ⟨fk, hf, h⟩ := ifS_eq h
    obtain ⟨z, hz, h⟩ := ifS_eq h
    cases h
    exact inferInstance
  · obtain ⟨m', km, h⟩ := ifS_eq h
    obtain ⟨s', ks, h⟩ := ifS_eq h
    obtain ⟨x', kx, h⟩ := ifS_eq h
    cases h
    exact inferInstance
  · obtain ⟨x', kx, h⟩ := ifS_eq h; cases h; exact inferInstance
  · rename_i c
    obtain ⟨l, kl, h⟩ := ifS_eq h
    obtain ⟨callee, args, ts⟩ := c
    unfold cCall at h
    split at h
    · rename_i g hc
      obtain ⟨g', kg, h⟩ := ifS_eq h
      cases h
      cases hc
      exact inferInstance
    · rename_i b hc
      cases hc
      exact cBuiltin_lo h
    · obtain ⟨x', kx, h⟩ := ifS_eq h
      cases h
      exact inferInstance
  · rename_i t ok
    obtain ⟨x', kx, h⟩ := ifS_eq h
    obtain ⟨hp, h⟩ := ifB_eq h
    cases ok with
    | true =>
      obtain ⟨z, hz, h⟩ := ifS_eq (show ifS none (fun z => some (oAssert t (some z) x')) (zeroOf P t) = some f from h)
      cases h
      exact inferInstance
    | false =>
      cases h
      exact inferInstance
  · cases h
end
end Go.Sx
