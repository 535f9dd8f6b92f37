import Derived.Laws.Tables
import Derived.Test.YtkfacdofkfabnaaGreatDoorKm01
noncomputable section
namespace Go.Sx
open Go.RowKit
theorem VRs.of_get {ρ : Ren} : ∀ {a : List AV} {l : List Value}, a.length = l.length -> (∀ (i : Nat) (x : AV), a[i]? = some x -> ∃ v, l[i]? = some v /\ VR ρ x v) -> VRs ρ a l
 | [], [], _, _ => VRs.nil ρ
 | [], _ :: _, h, _ => by cases h
 | _ :: _, [], h, _ => by cases h
 | a :: x, v :: l, h, k => by
   obtain ⟨u, hu, hV⟩ := k 0 a rfl
   cases hu
   exact VRs.cons hV (VRs.of_get (by simpa using h) λ i y hy => k (i + 1) y hy)
theorem gy {o : AO} {c c' n : Nat} {h h' : H} {l : Log} (e : newO o c h = .ok n c' h' l) : n = c /\ c' = c + 1 /\ h' = h.set c (some o) /\ l = [] := by cases e; exact ⟨rfl, rfl, rfl, rfl⟩
theorem lV.one {ρ : Ren} {c : Nat} (h : lV ρ c (c + 1)) : ρ c = none := h c (Nat.le_refl c) (Nat.lt_succ_self c)
theorem Rel.newRow {ρ : Ren} {h : H} {w : World} (r : Rel ρ h w) {c : Nat} (hc : ρ c = none) {cs : List AV} {l rest : List Value} (hv : VRs ρ cs l) (arr : Array Value) (ha : arr.toList = l ++ rest) (t : TypeId) (f : Nat × Nat) (hf : arr.size <= f.1 ∨ f.2 = 0) :
  Post ρ h w c (c + 1) (ρ.put c (w.heap.size, arr.size)) (h.set c (some (.row cs))) (w.alloc (.cells arr t f)) := by
 refine r.new hc ⟨arr, t, f.1, f.2, l, rest, ?_, rfl, ha, VRs.mono (Ren.le_put _ hc) _ _ hv, λ i hi => by omega⟩; show (w.heap.push _)[w.heap.size]? = _; simp
section
variable {P : Program} {o : Oper}
theorem dK (t : TypeId) (cells : Array Value) (w : World) : (newRow t cells).run P w = .ok ⟨w.heap.size, 0, none⟩ (w.alloc (.cells cells t (0, 0))) := by
 rfl
theorem VR.newPtr (ρ : Ren) (c b s : Nat) : VR (ρ.put c (b, s)) (Aw c) (.pointer (some ⟨b, 0, none⟩)) := by
 simp only [Aw, VR]; exact ⟨b, s, Ren.put_same ρ c _, rfl⟩
theorem DK {e : TypeId} {z : AV} (ho : o.op = .alloc e) (hz : cX P e = some z) : bd P o (yl z.cells) := by
 refine bd.of_run λ call E c h v c' h' l he ρ w a hr _ hf => ?_; obtain ⟨n, he2, rfl⟩ := cS he; obtain ⟨rfl, rfl, rfl, _⟩ := gy he2; obtain ⟨zv, hrun, _, hV⟩ := jQ (w := w) hz ρ; refine ⟨_, _, _, ?_, VR.newPtr ρ n w.heap.size zv.cells.size, hr.newRow hf.one hV zv.cells (rest := []) (by simp) e (0, 0) (.inr rfl)⟩; simp only [execOp, ho]; refine bF ?_; simp [Instr.alloc, hrun, newVar, dK]
theorem I7 {t : TypeId} {x : Operand} {y : Opd} (ho : o.op = .box t x) (k : aW x = some y) : bd P o (Gv y) := by
 refine bd.of_run λ call E c h v c' h' l he ρ w a hr hE hf => ?_; obtain ⟨n, he2, rfl⟩ := cS he; obtain ⟨rfl, rfl, rfl, _⟩ := gy he2; have hV := (aO hE k).cells; refine ⟨_, _, _, ?_, VR.newPtr ρ n w.heap.size (a.eval x).cells.size, hr.newRow hf.one hV (a.eval x).cells (rest := []) (by simp) t (0, 0) (.inr rfl)⟩; simp only [execOp, ho]; refine bF ?_; simp [Instr.box, newVar, dK]
theorem vZ (off : Nat) : ∀ (vs : List Value) (k : Nat) (arr : Array Value), off + k + vs.length <= arr.size ->
  ((vs.zipIdx k).foldl (λ cs (p : Value × Nat) => cs.setIfInBounds (off + p.2) p.1) arr).toList = arr.toList.take (off + k) ++ (vs ++ arr.toList.drop (off + k + vs.length)) /\
  ((vs.zipIdx k).foldl (λ cs (p : Value × Nat) => cs.setIfInBounds (off + p.2) p.1) arr).size = arr.size
 | [], k, arr, h => by simp
 | v :: vs, k, arr, h => by
   simp only [List.length_cons] at h
   obtain ⟨h1, h2⟩ := vZ off vs (k + 1) (arr.setIfInBounds (off + k) v) (by simp; omega)
   simp only [List.zipIdx_cons, List.foldl_cons]
   refine ⟨?_, by simpa using h2⟩
   rw [h1]
   have ho : off + k < arr.toList.length := (by rw [Array.length_toList]; omega)
   simp only [Array.toList_setIfInBounds, List.length_cons]
   rw [show off + k + (vs.length + 1) = off + (k + 1) + vs.length by omega]
   rw [List.drop_set_of_lt zO, List.set_eq_take_append_cons_drop, if_pos ho, List.take_append, List.take_take]
   simp only [List.length_take, List.cons_append]
   rw [show min (off + (k + 1)) (off + k) = off + k by omega, show off + (k + 1) - min (off + k) arr.toList.length = 1 by omega]
   simp
theorem pg {ρ : Ren} {e : Env} {a : Act} (hE : ER ρ e a.tmps) (place : Nat -> Option (Nat × Nat)) (part : Nat × Operand -> Option (Nat × Nat × Opd)) (hp : ∀ q p, part q = some p -> place q.1 = some (p.1, p.2.1) /\ aW q.2 = some p.2.2) :
  ∀ (ps : List (Nat × Operand)) (l : List (Nat × Nat × Opd)), iF part ps = some l -> ∀ (cs r : List AV) (arr : Array Value), VRs ρ cs arr.toList -> j9 e l cs = some r ->
  ∃ arr', Instr.fill place arr (ps.map λ q => (q.1, a.eval q.2)) = some arr' /\ VRs ρ r arr'.toList /\ arr'.size = arr.size
 | [], l, hl, cs, r, arr, hv, hf => by
   cases hl
   cases hf
   exact ⟨arr, rfl, hv, rfl⟩
 | q :: ps, l, hl, cs, r, arr, hv, hf => by
   obtain ⟨p, h1, hl⟩ := ah (show ifS none (λ b => ifS none (λ r => some (b :: r)) (iF part ps)) (part q) = some l from hl)
   obtain ⟨l', h2, hl⟩ := ah hl
   cases hl
   obtain ⟨g1, g2⟩ := hp q p h1
   obtain ⟨hn, hf⟩ := dP (show ifB (Nat.beq (ev e p.2.2).cells.length p.2.1) (ifS none (j9 e l') (gq (ev e p.2.2).cells p.1 cs)) none = some r from hf)
   obtain ⟨cs', hc, hf⟩ := ah hf
   obtain ⟨rfl, hlen⟩ := jT _ _ _ _ hc
   have hV := (aO hE g2).cells
   have hn := Nat.eq_of_beq_eq_true hn
   have hVL := hV.length
   have hVl := hV.length
   have hcl := hv.length
   rw [Array.length_toList] at hVl hcl
   obtain ⟨f1, f2⟩ := vZ p.1 (a.eval q.2).cells.toList 0 arr (by rw [Array.length_toList]; omega)
   obtain ⟨arr', h3, h4, h5⟩ := pg hE place part hp ps l' h2 _ r (((a.eval q.2).cells.toList.zipIdx 0).foldl (λ cs (p' : Value × Nat) => cs.setIfInBounds (p.1 + p'.2) p'.1) arr) (by
    rw [f1]
    simp only [Nat.add_zero]
    refine (VRs.take _ hv).append (hV.append ?_)
    rw [hVL]
    exact VRs.drop _ hv) hf
   refine ⟨arr', ?_, h4, h5.trans f2⟩
   simp only [List.map_cons, Instr.fill, g1]
   rw [if_neg (by simp; omega)]
   rw [<- Array.foldl_toList, Array.toList_zipIdx]
   exact h3
theorem vJ (a : Act) (ps : Array (Nat × Operand)) : (ps.map λ (i, x) => (i, a.eval x)).toList = ps.toList.map λ q => (q.1, a.eval q.2) := by
 rw [Array.toList_map]
theorem DJ {t : TypeId} {ps : Array (Nat × Operand)} {z : AV} {f : Ev} (ho : o.op = .build t ps) (hz : cX P t = some z) (h : qR P t ps.toList z = some f) : bd P o f := by
 obtain ⟨i, zv, h1, h2, h3, _, _⟩ := fF hz; have key : ∃ l, f = nI z.cells l /\ ∀ (ρ : Ren) (e : Env) (a : Act) r, ER ρ e a.tmps -> j9 e l z.cells = some r -> ∃ arr, P.built t (ps.map λ (i, x) => (i, a.eval x)).toList = some arr /\ VRs ρ r arr.toList := by
  unfold qR at h; split at h
  . rename_i fs hu; obtain ⟨pl, hpl, h⟩ := ah h; obtain ⟨l, hl, h⟩ := ah h; cases h; refine ⟨l, rfl, λ ρ e a r hE hr => ?_⟩
    obtain ⟨arr, g1, g2, _⟩ := pg hE (pl.toArray[·]?) (DB pl) (λ q p hq => by
     obtain ⟨b, k1, hq⟩ := ah hq; obtain ⟨y, k2, hq⟩ := ah hq; cases hq; exact ⟨by simpa using k1, k2⟩) ps.toList l hl z.cells r zv.cells (jb ρ h3).cells hr
    refine ⟨arr, ?_, g2⟩; unfold Program.built; simp only [h1, hu, h2, show fs.toList.mapM (λ f => (P.info? f.type).map λ i => (f.offset, i.size)) = some pl from hpl, vJ]; exact g1
  . rename_i n el hu; obtain ⟨s, hs, h⟩ := ah h; obtain ⟨l, hl, h⟩ := ah h; cases h; obtain ⟨ie, hie, hs⟩ := ah hs; cases hs; refine ⟨l, rfl, λ ρ e a r hE hr => ?_⟩
    obtain ⟨arr, g1, g2, _⟩ := pg hE (λ i => some (i * ie.size, ie.size)) (rY ie.size) (λ q p hq => by
     obtain ⟨y, k2, hq⟩ := ah hq; cases hq; exact ⟨rfl, k2⟩) ps.toList l hl z.cells r zv.cells (jb ρ h3).cells hr
    refine ⟨arr, ?_, g2⟩; unfold Program.built; simp only [h1, hu, h2, hie, vJ]; exact g1
  . cases h
 obtain ⟨l, rfl, key⟩ := key; refine bd.of_val λ call e c h v c' h' g he => ?_; obtain ⟨r, hr, he⟩ := bW he; obtain ⟨rfl, rfl, rfl, _⟩ := aS he; refine ⟨rfl, rfl, λ ρ w a _ hE => ?_⟩; obtain ⟨arr, k1, k2⟩ := key ρ e a r hE hr; refine ⟨.agg arr, ?_, by simp only [VR]; exact ⟨_, rfl, k2⟩⟩; simp only [execOp, ho]; refine bF ?_; exact run_build w t _ arr k1
theorem uU (z : List AV) : ∀ (n i : Nat), i < n * z.length -> (oN z n)[i]? = z[i % z.length]?
 | 0, i, h => by omega
 | n + 1, i, h => by
   show (z ++ oN z n)[i]? = _
   by_cases hi : i < z.length
   . rw [List.getElem?_append_left hi, Nat.mod_eq_of_lt hi]
   . rw [List.getElem?_append_right zO, uU z n (i - z.length) (by rw [Nat.add_mul] at h; omega), <- Nat.mod_eq_sub_mod zO]
theorem hH (z : List AV) : ∀ n, (oN z n).length = n * z.length
 | 0 => by rw [Nat.zero_mul]; rfl
 | n + 1 => by
   show (z ++ oN z n).length = _
   rw [List.length_append, hH z n, Nat.add_mul]
   omega
theorem tl {ρ : Ren} {z : List AV} {zero : Array Value} (h : VRs ρ z zero.toList) (n : Nat) : VRs ρ (oN z n) ((Array.range (n * z.length)).map λ i => zero[i % zero.size]!).toList := by
 have hlen := h.length; rw [Array.length_toList] at hlen; refine VRs.of_get (by rw [hH]; simp) λ i x hx => ?_; have hi : i < n * z.length := by
  rcases Nat.lt_or_ge i (n * z.length) with hh | hh
  . exact hh
  . rw [List.getElem?_eq_none (by rw [hH]; exact hh)] at hx; cases hx
 rw [uU z n i hi] at hx; obtain ⟨v, hv, hV⟩ := h.get hx; refine ⟨v, ?_, hV⟩; rw [Array.getElem?_toList] at hv; rw [Array.getElem?_toList, Array.getElem?_map]; simp only [hlen, getElem!_def]; simp [hi]; rw [hv]
theorem iT {t e : TypeId} (h : mS P t = some e) : P.underlying t = some (.slice e) := by
 unfold mS at h; split at h
 . rename_i hu; cases h; exact hu
 . cases h
theorem ri {t el : TypeId} {n : Nat} {ps : Array (Nat × Operand)} {z : AV} {l : List (Nat × Nat × Opd)} (ho : o.op = .buildSlice t n ps) (he : mS P t = some el) (hz : cX P el = some z) (hn : n * Nat.succ (len z.cells) <= 16777216) (hl : iF (rY (len z.cells)) ps.toList = some l) :
  bd P o (ib (len z.cells) (oN z.cells n) n l) := by
 refine bd.of_run λ call E c h v c' h' g hk ρ w a hr hE hf => ?_; obtain ⟨r, hr1, hk⟩ := bW hk; obtain ⟨m, hk2, rfl⟩ := cS hk; obtain ⟨rfl, rfl, rfl, _⟩ := gy hk2; obtain ⟨i, zv, h1, h2, h3, h4, h5⟩ := fF hz; have hV := (jb ρ h3).cells; have hu := iT he; have hsz : zv.cells.size = z.cells.length := (by have := hV.length; rwa [Array.length_toList] at this); rw [len_eq] at hn hl; rw [Nat.mul_succ] at hn
 obtain ⟨arr, g1, g2, g3⟩ := pg hE (λ i => some (i * z.cells.length, z.cells.length)) (rY z.cells.length) (λ q p hq => by
    obtain ⟨y, k2, hq⟩ := ah hq; cases hq; exact ⟨rfl, k2⟩) ps.toList l hl (oN z.cells n) r _ (tl hV n) hr1
 have hs : arr.size = n * z.cells.length := (by rw [g3]; simp); refine ⟨.slice (some ⟨w.heap.size, 0, none⟩) n n, _, _, ?_, ?_, hr.newRow hf.one g2 arr (rest := []) (by simp) el (0, 0) (.inr rfl)⟩
 . simp only [execOp, ho]; refine bF ?_; have hzero : (if n * i.size = 0 then (Pure.pure #[] : Sem (Array Value)) else do pure (<- zeroValue el).cells).run P w = .ok (if n * i.size = 0 then #[] else zv.cells) w := by
    split
    . rfl
    . simp [zeroValue, da h1, h2]
   have hfill : Instr.fill (λ j => some (j * i.size, i.size)) ((Array.range (n * i.size)).map ((if n * i.size = 0 then #[] else zv.cells)[· % (if n * i.size = 0 then (#[] : Array Value) else zv.cells).size]!)) (ps.map λ q => (q.1, a.eval q.2)).toList = some arr := by
    rw [Array.toList_map, <- h4]; by_cases h0 : n * z.cells.length = 0
    . rw [<- g1, h0]; have e0 : ∀ f : Nat -> Value, (Array.range 0).map f = #[] := λ f => by rw [show Array.range 0 = #[] from rfl]; simp
      rw [e0, e0]
    . rw [if_neg h0]; exact g1
   simp only [Instr.buildSlice, Sem.run_bind, aB hu, Result.andThen, sizeOf, da h1, Sem.run_pure]; rw [if_neg (by rw [<- h4]; omega)]; by_cases h0 : n * i.size = 0
   . rw [if_pos h0]; simp only [if_pos h0] at hfill; simp only [Sem.run_bind, Sem.run_pure, Result.andThen, hfill, dK]
   . rw [if_neg h0]; simp only [if_neg h0] at hfill hzero; simp only [Sem.run_bind, Sem.run_pure, Result.andThen] at hzero; have hz0 : (zeroValue el).run P w = .ok zv w := (by simp [zeroValue, da h1, h2]); simp only [Sem.run_bind, Sem.run_pure, Result.andThen, hz0, hfill, dK]
 . simp only [VR]; refine ⟨w.heap.size, arr.size, 0, n, Ren.put_same ρ m _, rfl, Nat.le_refl n, Nat.le_refl n, .inr rfl, ?_, by omega⟩; rw [hs, len_eq]; omega
end
section
variable {α β : Type} {c c' : Nat} {h h' : H} {l : Log}
theorem nM {n : Nat} {r : Rs α} {x : α} (e : ifB (Nat.blt n c) r .fail = .ok x c' h' l) : n < c /\ r = .ok x c' h' l := by
 cases k : Nat.blt n c with
 | false => rw [k] at e; cases e
 | true =>
   rw [k] at e; rw [eD] at k; exact ⟨of_decide_eq_true k, e⟩
theorem vP {n off : Nat} {v : AV} (e : load1 n off c h = .ok v c' h' l) : ∃ cs t, h.get n = some (.row cs) /\ dropN off cs = v :: t /\ c' = c /\ h' = h /\ l = [(n, some off, false)] /\ n < c := by
 obtain ⟨hlow, e⟩ := nM (show ifB (Nat.blt n c) _ .fail = Rs.ok v c' h' l from e); have e : ifS .fail (λ cs => ifC .fail (λ v _ => .ok v c h [(n, some off, false)]) (dropN off cs)) (rowOf h n) = Rs.ok v c' h' l := e; cases k : rowOf h n with
 | none => rw [k] at e; cases e
 | some cs =>
   rw [k] at e; have e : ifC .fail (λ v _ => .ok v c h [(n, some off, false)]) (dropN off cs) = Rs.ok v c' h' l := e; cases q : dropN off cs with
   | nil => rw [q] at e; cases e
   | cons a t => rw [q] at e; cases e; exact ⟨cs, t, rowOf_some k, q, rfl, rfl, rfl, hlow⟩
theorem vN {n off k : Nat} {v : List AV} (e : sf n off k c h = .ok v c' h' l) : ∃ cs, h.get n = some (.row cs) /\ takeN k (dropN off cs) = some v /\ c' = c /\ h' = h /\ l = j5 false n k off /\ n < c := by
 obtain ⟨hlow, e⟩ := nM (show ifB (Nat.blt n c) _ .fail = Rs.ok v c' h' l from e); have e : ifS .fail (λ cs => ifS .fail (λ l => .ok l c h (j5 false n k off)) (takeN k (dropN off cs))) (rowOf h n) = Rs.ok v c' h' l := e; cases q : rowOf h n with
 | none => rw [q] at e; cases e
 | some cs =>
   rw [q] at e; have e : ifS .fail (λ l => .ok l c h (j5 false n k off)) (takeN k (dropN off cs)) = Rs.ok v c' h' l := e; cases t : takeN k (dropN off cs) with
   | none => rw [t] at e; cases e
   | some r => rw [t] at e; cases e; exact ⟨cs, rowOf_some q, t, rfl, rfl, rfl, hlow⟩
theorem vO {n off k : Nat} {v : List AV} (e : loadN n off k c h = .ok v c' h' l) : c' = c /\ h' = h /\ ((k = 0 /\ v = []) ∨ ∃ cs, h.get n = some (.row cs) /\ takeN k (dropN off cs) = some v) := by
 unfold loadN at e; cases hk : Nat.beq k 0 with
 | true =>
   rw [hk] at e; obtain ⟨rfl, rfl, rfl, _⟩ := aS (show M.pure [] c h = _ from e); exact ⟨rfl, rfl, .inl ⟨Nat.eq_of_beq_eq_true hk, rfl⟩⟩
 | false =>
   rw [hk] at e; obtain ⟨cs, h1, h2, rfl, rfl, _⟩ := vN (show sf n off k c h = _ from e); exact ⟨rfl, rfl, .inr ⟨cs, h1, h2⟩⟩
theorem rH {n off : Nat} {vs : List AV} {u : Unit} (e : nx n off vs c h = .ok u c' h' l) : ∃ cs r, h.get n = some (.row cs) /\ gq vs off cs = some r /\ iN vs = true /\ c' = c /\ h' = h.set n (some (.row r)) /\ l = j5 true n (len vs) off /\ n < c := by
 obtain ⟨hlow, e⟩ := nM (show ifB (Nat.blt n c) _ .fail = Rs.ok u c' h' l from e); have e : ifS .fail (λ cs => ifS .fail (λ r => ifB (iN vs) (.ok () c (h.set n (some (.row r))) (j5 true n (len vs) off)) .fail) (gq vs off cs)) (rowOf h n) = Rs.ok u c' h' l := e; cases q : rowOf h n with
 | none => rw [q] at e; cases e
 | some cs =>
   rw [q] at e; have e : ifS .fail (λ r => ifB (iN vs) (.ok () c (h.set n (some (.row r))) (j5 true n (len vs) off)) .fail) (gq vs off cs) = Rs.ok u c' h' l := e; cases t : gq vs off cs with
   | none => rw [t] at e; cases e
   | some r =>
     rw [t] at e; have e : ifB (iN vs) (.ok () c (h.set n (some (.row r))) (j5 true n (len vs) off)) .fail = Rs.ok u c' h' l := e; cases s : iN vs with
     | false => rw [s] at e; cases e
     | true => rw [s] at e; cases e; exact ⟨cs, r, rowOf_some q, t, rfl, rfl, rfl, rfl, hlow⟩
theorem Bk {n off : Nat} {vs : List AV} {u : Unit} (e : storeN n off vs c h = .ok u c' h' l) : c' = c /\ ((vs = [] /\ h' = h) ∨ ∃ cs r, h.get n = some (.row cs) /\ gq vs off cs = some r /\ iN vs = true /\ h' = h.set n (some (.row r))) := by
 cases vs with
 | nil =>
   obtain ⟨rfl, rfl, rfl, _⟩ := aS (show M.pure () c h = _ from e); exact ⟨rfl, .inl ⟨rfl, rfl⟩⟩
 | cons v vs =>
   obtain ⟨cs, r, h1, h2, h3, rfl, rfl, _⟩ := rH (show nx n off (v :: vs) c h = _ from e); exact ⟨rfl, .inr ⟨cs, r, h1, h2, h3, rfl⟩⟩
theorem ql {n off k : Nat} {v : List AV} (e : killRow n off k c h = .ok v c' h' l) : ∃ cs, h.get n = some (.row cs) /\ takeN k (dropN off cs) = some v /\ c' = c /\ h' = h.set n none /\ l = [(n, none, true)] /\ n < c := by
 obtain ⟨hlow, e⟩ := nM (show ifB (Nat.blt n c) _ .fail = Rs.ok v c' h' l from e); have e : ifS .fail (λ cs => ifS .fail (λ l => .ok l c (h.set n none) [(n, none, true)]) (takeN k (dropN off cs))) (rowOf h n) = Rs.ok v c' h' l := e; cases q : rowOf h n with
 | none => rw [q] at e; cases e
 | some cs =>
   rw [q] at e; have e : ifS .fail (λ l => .ok l c (h.set n none) [(n, none, true)]) (takeN k (dropN off cs)) = Rs.ok v c' h' l := e; cases t : takeN k (dropN off cs) with
   | none => rw [t] at e; cases e
   | some r => rw [t] at e; cases e; exact ⟨cs, rowOf_some q, t, rfl, rfl, rfl, hlow⟩
theorem gH {n : Nat} {r : List (AV × AV × Nat) × Nat} (e : getMap n c h = .ok r c' h' l) : h.get n = some (.mp r.1 r.2) /\ c' = c /\ h' = h /\ l = [(n, none, false)] /\ n < c := by
 obtain ⟨hlow, e⟩ := nM (show ifB (Nat.blt n c) _ .fail = Rs.ok r c' h' l from e); have e : ifS .fail (λ r => .ok r c h [(n, none, false)]) (ifS none AO.map? (h.get n)) = Rs.ok r c' h' l := e; cases q : h.get n with
 | none => rw [q] at e; cases e
 | some o =>
   rw [q] at e; cases o with
   | row cs => cases e
   | mp es k => cases e; exact ⟨rfl, rfl, rfl, rfl, hlow⟩
theorem kK {n : Nat} {r : List (AV × AV × Nat) × Nat} {u : Unit} (e : setMap n r c h = .ok u c' h' l) : c' = c /\ h' = h.set n (some (.mp r.1 r.2)) /\ l = [(n, none, true)] /\ n < c /\ ∃ o, h.get n = some o := by
 obtain ⟨hlow, e⟩ := nM (show ifB (Nat.blt n c) _ .fail = Rs.ok u c' h' l from e); have e : ifS .fail (λ _ => .ok () c (h.set n (some (.mp r.1 r.2))) [(n, none, true)]) (h.get n) = Rs.ok u c' h' l := e; cases q : h.get n with
 | none => rw [q] at e; cases e
 | some o => rw [q] at e; cases e; exact ⟨rfl, rfl, rfl, hlow, o, rfl⟩
end
theorem VR.oneCell {ρ : Ren} {a : AV} {v : Value} (h : VR ρ a v) (s : F8 a = true) : v.oneCell' = true := by
 cases a with
 | agg l => cases s
 | tuple l => cases s
 | bool b => simp only [VR] at h; subst h; rfl
 | int b n => simp only [VR] at h; subst h; rfl
 | str s => simp only [VR] at h; obtain ⟨_, rfl, _⟩ := h; rfl
 | ptr a => cases a <;> simp only [VR] at h <;> (first | subst h | obtain ⟨_, _, _, rfl⟩ := h) <;> rfl
 | slice a n c z => cases a <;> simp only [VR] at h <;> (first | subst h | obtain ⟨_, _, _, _, _, rfl, _⟩ := h) <;> rfl
 | map a => cases a <;> simp only [VR] at h <;> (first | subst h | obtain ⟨_, _, _, rfl⟩ := h) <;> rfl
 | fn f a c => simp only [VR] at h; obtain ⟨_, _, rfl, _⟩ := h; rfl
 | nilFn => simp only [VR] at h; subst h; rfl
 | iface t x => simp only [VR] at h; obtain ⟨_, rfl, _⟩ := h; rfl
 | nilIface => simp only [VR] at h; subst h; rfl
theorem VRs.oneCell {ρ : Ren} : ∀ {a : List AV} {l : List Value}, VRs ρ a l -> iN a = true -> ∀ v ∈ l, v.oneCell' = true
 | [], _, h, _, v, hv => by simp only [VRs] at h; subst h; cases hv
 | a :: x, _, h, s, v, hv => by
   simp only [VRs] at h
   obtain ⟨u, r, rfl, h1, h2⟩ := h
   have s : ifB (F8 a) (iN x) false = true := s
   cases k : F8 a with
   | false => rw [k] at s; cases s
   | true =>
     rw [k] at s
     rcases List.mem_cons.1 hv with rfl | hv
     . exact h1.oneCell k
     . exact VRs.oneCell h2 s v hv
section
variable {P : Program} {o : Oper}
theorem Rel.run_loadN {ρ : Ren} {h : H} {w : World} (r : Rel ρ h w) {n off k : Nat} {cs v : List AV} (e : h.get n = some (.row cs)) (ht : takeN k (dropN off cs) = some v) :
  ∃ b s, ρ n = some (b, s) /\ ∃ l : List Value, l.length = k /\ VRs ρ v l /\ ∀ w' : World, w'.heap = w.heap -> (loadCells ⟨b, off, none⟩ k).run P w' = .ok l.toArray w' := by
 obtain ⟨b, s, f, hle, _, hc⟩ := r.cells e; obtain ⟨rfl, hk⟩ := takeN_eq _ _ _ ht; rw [dropN_eq] at hk ⊢; have hlen : ((cs.drop off).take k).length = k := (by rw [List.length_take]; omega); have key : ∀ j, j < k -> ∃ u, w.cell? ⟨b, off + j, none⟩ = some u /\ ∃ x, ((cs.drop off).take k)[j]? = some x /\ VR ρ x u := λ j hj => by
  have hj' : off + j < cs.length := (by rw [List.length_drop] at hk; omega); obtain ⟨u, h1, h2⟩ := hc (off + j) cs[off + j] (List.getElem?_eq_getElem hj'); exact ⟨u, h1, _, by rw [List.getElem?_take, if_pos hj, List.getElem?_drop, List.getElem?_eq_getElem hj'], h2⟩
 refine ⟨b, s, f, (List.range k).map λ j => (w.cell? ⟨b, off + j, none⟩).getD undef, by simp, ?_, ?_⟩
 . refine VRs.of_get (by rw [hlen]; simp) λ i x hx => ?_; have hi : i < k := by
    rcases Nat.lt_or_ge i k with hh | hh
    . exact hh
    . rw [List.getElem?_eq_none zO] at hx; cases hx
   obtain ⟨u, h1, x', h2, h3⟩ := key i hi; rw [hx] at h2; cases h2; exact ⟨u, by simp [hi, h1], h3⟩
 . intro w' hw
   rw [run_loadCells w' ⟨b, off, none⟩ k (λ j => (w.cell? ⟨b, off + j, none⟩).getD undef) λ j hj => by
    obtain ⟨u, h1, _⟩ := key j hj; rw [addr_add, show w'.cell? ⟨b, off + j, none⟩ = w.cell? ⟨b, off + j, none⟩ by simp [World.cell?, hw], h1]; rfl]
theorem lK {ρ : Ren} {h h' : H} {w : World} (r : Rel ρ h w) {c c' : Nat} {v x : AV} {l : Log} (e : mI v c h = .ok x c' h' l) {u : Value} (hu : VR ρ v u) :
  c' = c /\ h' = h /\ ∃ b i y, u = .pointer (some ⟨b, i, none⟩) /\ w.cell? ⟨b, i, none⟩ = some y /\ VR ρ x y := by
 obtain ⟨p, rfl, e⟩ := gN e; obtain ⟨p, rfl, e⟩ := bW e; obtain ⟨cs, t, h1, h2, rfl, rfl, _⟩ := vP e; simp only [VR] at hu; obtain ⟨b, s, h3, rfl⟩ := hu; obtain ⟨b', s', h4, _, _, hc⟩ := r.cells h1; rw [h3] at h4; cases h4; rw [dropN_eq] at h2; obtain ⟨y, h5, h6⟩ := hc p.2 x (by simpa [List.head?_drop] using congrArg List.head? h2); exact ⟨rfl, rfl, b, p.2, y, rfl, h5, h6⟩
theorem qf {ρ : Ren} {h h' : H} {w : World} (r : Rel ρ h w) {c c' n : Nat} {v x : AV} {l : Log} (e : mH n v c h = .ok x c' h' l) {u : Value} (hu : VR ρ v u) :
  c' = c /\ h' = h /\ ∃ a y, u = .pointer (some a) /\ (loadCells a n).run P w = .ok y w /\ VR ρ x (.agg y) := by
 obtain ⟨p, rfl, e⟩ := gN e; obtain ⟨p, rfl, e⟩ := bW e; obtain ⟨q, e2, rfl⟩ := cS e; obtain ⟨rfl, rfl, hh⟩ := vO e2; simp only [VR] at hu; obtain ⟨b, s, h3, rfl⟩ := hu; rcases hh with ⟨rfl, rfl⟩ | ⟨cs, h1, h2⟩
 . exact ⟨rfl, rfl, _, #[], rfl, rfl, by simp only [VR]; exact ⟨_, rfl, VRs.nil ρ⟩⟩
 obtain ⟨b', s', h4, y, _, h5, h6⟩ := r.run_loadN (P := P) h1 h2; rw [h3] at h4; cases h4; exact ⟨rfl, rfl, _, _, rfl, h6 w rfl, by simp only [VR]; exact ⟨_, rfl, h5⟩⟩
theorem DF {t : TypeId} {x : Operand} {y : Opd} (ho : o.op = .load t x) (k : aW x = some y) (ha : kD P t = some false) : bd P o (tx y) := by
 refine bd.of_run λ call E c h v c' h' l he ρ w a hr hE hf => ?_; obtain ⟨rfl, rfl, b, i, u, h1, h2, h3⟩ := lK hr he (aO hE k); refine ⟨u, ρ, w, ?_, h3, Post.refl hr⟩; simp only [execOp, ho]; refine bF ?_; simp [Instr.loadAt, h1, Instr.sureAddr, loadVar, fI ha, h2]
theorem DE {t : TypeId} {n : Nat} {x : Operand} {y : Opd} (ho : o.op = .load t x) (k : aW x = some y) (ha : kD P t = some true) (hn : cG P t = some n) : bd P o (lG n y) := by
 refine bd.of_run λ call E c h v c' h' l he ρ w a hr hE hf => ?_; obtain ⟨rfl, rfl, b, u, h1, h2, h3⟩ := qf (P := P) hr he (aO hE k); refine ⟨.agg u, ρ, w, ?_, h3, Post.refl hr⟩; simp only [execOp, ho]; refine bF ?_; simp [Instr.loadAt, h1, Instr.sureAddr, loadVar, fI ha, cH hn, h2]
theorem Rel.run_store {ρ : Ren} {h h' : H} {w : World} (r : Rel ρ h w) {n off c c' b s : Nat} {vs : List AV} {u : Unit} {g : Log} (e : storeN n off vs c h = .ok u c' h' g) {l : List Value} (hv : VRs ρ vs l) (hb : ρ n = some (b, s)) :
  c' = c /\ ∃ w', (storeCells ⟨b, off, none⟩ l).run P w = .ok () w' /\ Post ρ h w c c ρ h' w' := by
 obtain ⟨rfl, hh⟩ := Bk e; rcases hh with ⟨rfl, rfl⟩ | ⟨cs, q, h1, h2, h3, rfl⟩
 . simp only [VRs] at hv; subst hv; exact ⟨rfl, w, rfl, Post.refl r⟩
 obtain ⟨hq, hlen⟩ := jT _ _ _ _ h2; obtain ⟨b', s', f, hp⟩ := r.store (c := c') h1 hv hq hlen; rw [hb] at f; cases f; obtain ⟨b', s', f', hle, hok, _⟩ := r.cells h1; rw [hb] at f'; cases f'; have hl := hv.length; refine ⟨rfl, _, ?_, hp⟩; have := run_storeCells_cells (P := P) b off l 0 w (λ j hj => (hok _ zO).1) (λ j hj => (hok _ zO).2) (hv.oneCell h3); simpa using this
theorem DD {t : TypeId} {n : Nat} {x z : Operand} {y q : Opd} (ho : o.op = .store t x z) (k : aW x = some y) (kz : aW z = some q) (hn : cG P t = some n) : bd P o (tw n y q) := by
 refine bd.of_skip λ call E c h v c' h' l he => ?_; obtain ⟨hlen, he⟩ := dO he; obtain ⟨p, hp, he⟩ := gN he; obtain ⟨p, rfl, he⟩ := bW he; obtain ⟨u, he2, rfl⟩ := cS he; refine ⟨rfl, λ ρ w a hr hE hf => ?_⟩; have hx := aO hE k; have hV := (aO hE kz).cells; rw [hp] at hx; simp only [VR] at hx; obtain ⟨b, s, h1, h2⟩ := hx; obtain ⟨rfl, w', h4, h5⟩ := hr.run_store (P := P) he2 hV h1; refine ⟨ρ, w', ?_, h5⟩; have hsz : (a.eval z).cells.size = n := by
  have := hV.length; rw [Array.length_toList] at this; rw [this]; exact Nat.eq_of_beq_eq_true hlen
 simp [execOp, ho, Instr.storeAt, h2, Instr.sureAddr, storeVar, cH hn, hsz, h4]
end
section
variable {P : Program} {o : Oper}
theorem FJ (k : IntKind) {m : Nat} (h1 : (m : Int) < 2 ^ k.bits) (h2 : k.signed = true -> (m : Int) < 2 ^ (k.bits - 1)) : k.wrap (m : Int) = m := by
 have e : (m : Int) % 2 ^ k.bits = m := Int.emod_eq_of_lt zO h1; simp only [IntKind.wrap, e]; split
 . rename_i hc; simp only [Bool.and_eq_true, decide_eq_true_eq] at hc; exact absurd hc.2 (Int.not_le.2 (h2 hc.1))
 . rfl
theorem iY {n : Nat} (h : n <= 1048576) : IntKind.i64.wrap (n : Int) = n :=
 FJ .i64 (by show (n : Int) < 2 ^ 64; omega) (λ _ => by show (n : Int) < 2 ^ 63; omega)
theorem x9 {t : TypeId} (ho : o.op = .makeMap t none) : bd P o pY := by
 refine bd.of_run λ call E c h v c' h' l he ρ w a hr _ hf => ?_; obtain ⟨n, he2, rfl⟩ := cS he; obtain ⟨rfl, rfl, rfl, _⟩ := gy he2; refine ⟨.map (some w.heap.size), _, _, ?_, ?_, hr.new (s := 0) (obj := .map #[] 0) (o := .mp [] 0) hf.one ⟨#[], by show (w.heap.push _)[w.heap.size]? = _; simp, rfl⟩⟩
 . simp only [execOp, ho]; refine bF ?_; rfl
 . simp only [VR]; exact ⟨w.heap.size, 0, Ren.put_same ρ n _, rfl⟩
theorem tp {t el : TypeId} {x y : Operand} {x' y' : Opd} {z : AV} (ho : o.op = .makeSlice t x y) (he : mS P t = some el) (hz : cX P el = some z) (kx : aW x = some x') (ky : aW y = some y') : bd P o (jc z.cells x' y') := by
 refine bd.of_run λ call E c h v c' h' g hk ρ w a hr hE hf => ?_; obtain ⟨l0, hl, hk⟩ := bW hk; obtain ⟨c0, hc, hk⟩ := bW hk; obtain ⟨hb, hk⟩ := dO hk; obtain ⟨m, hk2, rfl⟩ := cS hk; obtain ⟨rfl, rfl, rfl, _⟩ := gy hk2; obtain ⟨b1, b2⟩ := nN hb; obtain ⟨i, zv, h1, h2, h3, h4, h5⟩ := fF hz; have hV := (jb ρ h3).cells; have hu := iT he; have hsz : zv.cells.size = z.cells.length := (by have := hV.length; rwa [Array.length_toList] at this); obtain ⟨j1, hx⟩ := jy (aO hE kx) hl; obtain ⟨j2, hy⟩ := jy (aO hE ky) hc; have hR := tl hV c0; generalize ha : (Array.range (c0 * z.cells.length)).map (λ i => zv.cells[i % zv.cells.size]!) = arr at hR; have hs : arr.size = c0 * z.cells.length := (by rw [<- ha, Array.size_map, Array.size_range]); refine ⟨.slice (some ⟨w.heap.size, 0, none⟩) l0 c0, _, _, ?_, ?_, hr.newRow hf.one hR arr (rest := []) (by simp) el (0, 0) (.inr rfl)⟩
 . simp only [execOp, ho]; refine bF ?_; have hbig : ¬ ((i.bytes : Int) * (c0 : Int) > 2 ^ 48) := by
    have h6 := Nat.mul_le_mul h5 b2; rw [<- Int.natCast_mul]; generalize i.bytes * c0 = q at h6; omega
   have hw1 := iY (Nat.le_trans b1 b2); have hw2 := iY b2; have hn1 : ¬ ((c0 : Int) < 0) := zO; have hn2 : ¬ ((l0 : Int) < 0) := zO; have hn3 : ¬ ((l0 : Int) > (c0 : Int)) := zO; have hfill : (Array.range (c0 * i.size)).map ((if c0 * i.size = 0 then (#[] : Array Value) else zv.cells)[· % (if c0 * i.size = 0 then (#[] : Array Value) else zv.cells).size]!) = arr := by
    rw [<- ha, <- h4]; by_cases h0 : c0 * z.cells.length = 0
    . rw [h0]; have e0 : ∀ f : Nat -> Value, (Array.range 0).map f = #[] := λ f => by rw [show Array.range 0 = #[] from rfl]; simp
      rw [e0, e0]
    . rw [if_neg h0]
   have hi1 : (asInt (a.eval x)).run P w = .ok (l0 : Int) w := (by rw [hx]; rfl); have hi2 : (asInt (a.eval y)).run P w = .ok (c0 : Int) w := (by rw [hy]; rfl); simp only [Instr.makeSlice, Sem.run_bind, aB hu, Result.andThen, hi1, hi2, da h1, hw1, hw2]; simp only [decide_eq_false hn1, decide_eq_false hn2, decide_eq_false hn3, decide_eq_false hbig, Bool.or_self, Bool.false_eq_true, if_false, Int.toNat_natCast, Sem.run_bind, run_askRoom, Result.andThen, sizeOf, da h1, Sem.run_pure]; have hz0 : (zeroValue el).run P w = .ok zv w := (by simp [zeroValue, da h1, h2]); by_cases h0 : c0 * i.size = 0
   . rw [if_pos h0]; simp only [if_pos h0] at hfill; simp only [Sem.run_bind, Sem.run_pure, Result.andThen, hfill, dK]
   . rw [if_neg h0]; simp only [if_neg h0] at hfill; simp only [Sem.run_bind, Sem.run_pure, Result.andThen, hz0, hfill, dK]
 . simp only [VR]; refine ⟨w.heap.size, arr.size, 0, c0, Ren.put_same ρ m _, rfl, Nat.le_refl _, b1, .inr rfl, ?_, by omega⟩; rw [hs, len_eq]; omega
theorem gS {ρ : Ren} {h : H} {w : World} (r : Rel ρ h w) {n k : Nat} {es : List (AV × AV × Nat)} (e : h.get n = some (.mp es k)) :
  ∃ b s a, ρ n = some (b, s) /\ w.heap[b]? = some (.map a k) /\ ERs ρ es a.toList := by
 obtain ⟨b, s, f, a, h1, h2⟩ := r.lies n _ e; exact ⟨b, s, a, f, h1, h2⟩
theorem ERs.length {ρ : Ren} : ∀ {x : List (AV × AV × Nat)} {l : List MapEntry}, ERs ρ x l -> l.length = x.length
 | [], _, h => by rw [show _ = _ from h]; rfl
 | _ :: x, _, ⟨e, r, h1, _, _, _, h5⟩ => by rw [h1]; simp [ERs.length h5]
theorem VR.int64 (ρ : Ren) (n : Nat) : VR ρ (int64 n) (goInt n) := VR.int ρ .i64 n
theorem cy {b : Builtin} {args : Array Operand} {ts : Array TypeId} {a : Act} {w w' : World} {v : Value} {s : Sem Value} (ho : o.op = .call { callee := .builtin b, args, argTypes := ts })
  (hb : ∀ cs, builtin b ts o.type cs (args.map a.eval) = do pure (.value (<- s))) (h : s.run P w = .ok v w') : (execOp a.eval o).run P w = .ok (.value v) w' := by
 simp only [execOp, ho, resolve, Sem.run_bind, Sem.run_pure, Result.andThen, invoke, hb, h]
theorem r7 {n : Nat} {t : TypeId} {x : Operand} (ho : o.op = .call { callee := .builtin .len, args := #[x], argTypes := #[t] })
  (ht : (∃ e, P.underlying t = some (.array n e)) ∨ ∃ p e, P.underlying t = some (.pointer p) /\ P.underlying p = some (.array n e)) : bd P o (oY n) := by
 refine bd.of_val λ call e c h v c' h' l he => ?_; obtain ⟨rfl, rfl, rfl, _⟩ := aS he; refine ⟨rfl, rfl, λ ρ w a _ hE => ⟨goInt n, cy ho (λ _ => rfl) ?_, VR.int64 ρ n⟩⟩; rcases ht with ⟨e, h1⟩ | ⟨p, e, h1, h2⟩
 . simp [Builtin.len_, aB h1]
 . simp [Builtin.len_, aB h1, aB h2]
theorem ya {t : TypeId} {x : Operand} {y : Opd} (ho : o.op = .call { callee := .builtin .len, args := #[x], argTypes := #[t] }) (k : aW x = some y) (d : TypeDesc) (hd : P.underlying t = some d)
  (f : Ev) (ht : (d = .string /\ f = oW y) ∨ (∃ e, d = .slice e /\ f = tz y) ∨ (∃ i e, d = .map i e /\ f = oX y)) : bd P o f := by
 rcases ht with ⟨rfl, rfl⟩ | ⟨e0, rfl, rfl⟩ | ⟨i0, e0, rfl, rfl⟩
 . refine bd.of_val λ call e c h v c' h' l he => ?_; obtain ⟨s, hs, he⟩ := iR he; obtain ⟨rfl, rfl, rfl, _⟩ := aS he; refine ⟨rfl, rfl, λ ρ w a _ hE => ?_⟩; have hx := aO hE k; rw [hs] at hx; simp only [VR] at hx; obtain ⟨b, hb, hx⟩ := hx; refine ⟨goInt s.length, cy ho (λ _ => rfl) ?_, by rw [len_eq]; exact VR.int64 ρ _⟩; simp [Builtin.len_, aB hd, hb, kJ hx]
 . refine bd.of_val λ call e c h v c' h' l he => ?_; obtain ⟨p, n, m, z, hs, he⟩ := eU he; obtain ⟨rfl, rfl, rfl, _⟩ := aS he; refine ⟨rfl, rfl, λ ρ w a _ hE => ⟨goInt n, cy ho (λ _ => rfl) ?_, VR.int64 ρ n⟩⟩; have hx := aO hE k; rw [hs] at hx; cases p <;> simp only [VR] at hx
   . simp [Builtin.len_, aB hd, hx]
   . obtain ⟨_, _, _, _, _, hx, _⟩ := hx; simp [Builtin.len_, aB hd, hx]
 . refine bd.of_run λ call e c h v c' h' l he ρ w a hr hE hf => ?_; have hx := aO hE k; obtain ⟨p, hs, he⟩ := jX he; rw [hs] at hx; cases p with
   | none =>
     simp only [VR] at hx; obtain ⟨rfl, rfl, rfl, _⟩ := aS (show M.pure (int64 0) c h = _ from he); exact ⟨goInt 0, ρ, w, cy ho (λ _ => rfl) (by simp [Builtin.len_, aB hd, hx]), VR.int64 ρ 0, Post.refl hr⟩
   | some n =>
     simp only [VR] at hx; obtain ⟨b, s, h1, h2⟩ := hx; obtain ⟨r, hg, rfl⟩ := cS (show M.map (λ r => int64 (len r.1)) (getMap n) c h = _ from he); obtain ⟨h3, rfl, rfl, _⟩ := gH hg; obtain ⟨b', s', m, h4, h5, h6⟩ := gS hr h3; rw [h1] at h4; cases h4; have hl := h6.length; rw [Array.length_toList] at hl; have hg2 : (getObj b).run P w = .ok (.map m r.2) w := (by simp [getObj, Sem.run, h5]); exact ⟨goInt r.1.length, ρ, w, cy ho (λ _ => rfl) (by simp [Builtin.len_, aB hd, h2, hg2, hl]), by rw [len_eq]; exact VR.int64 ρ _, Post.refl hr⟩
theorem I6 {t e0 : TypeId} {x : Operand} {y : Opd} (ho : o.op = .call { callee := .builtin .cap, args := #[x], argTypes := #[t] }) (k : aW x = some y) (hd : P.underlying t = some (.slice e0)) : bd P o (Gu y) := by
 refine bd.of_val λ call e c h v c' h' l he => ?_; obtain ⟨p, n, m, z, hs, he⟩ := eU he; cases p with
 | some p => cases he
 | none =>
   obtain ⟨rfl, rfl, rfl, _⟩ := aS (show M.pure (int64 m) c h = _ from he); refine ⟨rfl, rfl, λ ρ w a _ hE => ⟨goInt m, cy ho (λ _ => rfl) ?_, VR.int64 ρ m⟩⟩; have hx := aO hE k; rw [hs] at hx; simp only [VR] at hx; simp [Builtin.cap_, aB hd, hx]
theorem rZ {b : Bool} {ts : Array TypeId} {x y : Operand} {x' y' : Opd} (ho : o.op = .call { callee := .builtin (if b then .max else .min), args := #[x, y], argTypes := ts }) (kx : aW x = some x') (ky : aW y = some y') : bd P o (kQ b x' y') := by
 refine bd.of_val λ call e c h v c' h' l he => ?_; obtain ⟨i, m, hs, he⟩ := jY he; obtain ⟨j, n, hu, he⟩ := jY he; obtain ⟨rfl, rfl, rfl, _⟩ := aS he; refine ⟨rfl, rfl, λ ρ w a _ hE => ?_⟩; have hx := aO hE kx; have hy := aO hE ky; rw [hs] at hx; rw [hu] at hy; simp only [VR] at hx hy; refine ⟨.int i (ifB (ifB b (ltI m n) (ltI n m)) n m), ?_, VR.int ρ _ _⟩; cases b with
 | true =>
   refine cy ho (λ _ => rfl) ?_; simp only [Builtin.max_, Array.toList_map, List.map_cons, List.map_nil, List.foldlM_cons, List.foldlM_nil, hx, hy, Builtin.max2, Sem.run_bind, Sem.run_pure, Result.andThen, cI, jg]; by_cases q : m < n
   . simp [ifB, q]
   . simp [ifB, q]
 | false =>
   refine cy ho (λ _ => rfl) ?_; simp only [Builtin.min_, Array.toList_map, List.map_cons, List.map_nil, List.foldlM_cons, List.foldlM_nil, hx, hy, Builtin.min2, Sem.run_bind, Sem.run_pure, Result.andThen, eA, jg]; by_cases q : n < m
   . simp [ifB, q]
   . simp [ifB, q]
end
section
variable {P : Program} {o : Oper}
theorem so (n : Nat) : ∀ (r c : Nat), Builtin.growBy n r c <= max c (n + (n + 768) / 4)
 | 0, c => by show c <= _; omega
 | r + 1, c => by
   show (if c ≥ n then c else Builtin.growBy n r (c + (c + 768) / 4)) <= _
   split
   . omega
   . have := so n r (c + (c + 768) / 4)
     omega
theorem yq {n c : Nat} (h : c < n) (k : n <= 1048576) : Builtin.nextslicecap n c <= 4194304 := by
 unfold Builtin.nextslicecap; split
 . omega
 . split
   . omega
   . have := so n 4 c; omega
theorem C7 (ρ : Ren) {b : ByteArray} {s : List Nat} (h : b.data.toList.map UInt8.toNat = s) : VRs ρ (u8s s) (b.data.toList.map λ x => .int .u8 x.toNat) := by
 subst h; generalize b.data.toList = l; induction l with
 | nil => exact VRs.nil ρ
 | cons x l ih => exact VRs.cons (VR.int ρ .u8 _) ih
theorem pB : ∀ s : List Nat, (u8s s).length = s.length
 | [] => rfl
 | _ :: s => congrArg Nat.succ (pB s)
def Fs (P : Program) (size : Nat) (ρ : Ren) (w : World) (n : Nat) (s : Sem (Array Value)) (r : List AV) : Prop :=
 r.length = n * size /\ ∃ arr, VRs ρ r arr.toList /\ ∀ w' : World, w'.heap = w.heap -> s.run P w' = .ok arr w'
theorem uH {size c c' : Nat} {h h' : H} {l : Log} {v : AV} {r : List AV × Nat} (e : Di size v c h = .ok r c' h' l) {ρ : Ren} {w : World} (hr : Rel ρ h w) {u : Value} (hu : VR ρ v u) :
  c' = c /\ h' = h /\ (∀ w', (Builtin.lenOf u).run P w' = .ok r.2 w') /\ Fs P size ρ w r.2 (Builtin.firstCells size r.2 u) r.1 := by
 cases v with
 | str s =>
   obtain ⟨hb, e⟩ := dO (show ifB (Nat.beq size 1) (M.pure (u8s s, len s)) fail c h = _ from e); obtain ⟨rfl, rfl, rfl, _⟩ := aS e; have h1 := Nat.eq_of_beq_eq_true hb; subst h1; simp only [VR] at hu; obtain ⟨b, rfl, hs⟩ := hu; have hl := kJ hs; refine ⟨rfl, rfl, λ w' => by simp [Builtin.lenOf, hl, len_eq], by rw [pB, len_eq, Nat.mul_one], _, C7 ρ hs, ?_⟩; have : ∀ w' : World, (Builtin.firstCells 1 (len s) (.string b)).run P w' = .ok (b.data.toList.map λ x => Value.int .u8 x.toNat).toArray w' := λ w' => by
    have h2 : b.extract 0 (len s) = b := by
     rw [len_eq, <- hl]; exact ByteArray.extract_zero_size
    simp only [Builtin.firstCells, h2, Sem.run_pure]; congr 1
    apply Array.ext'; simp
   exact λ w' _ => this w'
 | slice a n m z =>
   cases a with
   | none =>
     obtain ⟨hb, e⟩ := dO (show ifB (Nat.beq n 0) (M.pure (([] : List AV), 0)) fail c h = _ from e); obtain ⟨rfl, rfl, rfl, _⟩ := aS e; have h1 := Nat.eq_of_beq_eq_true hb; subst h1; simp only [VR] at hu; subst hu; exact ⟨rfl, rfl, λ w' => rfl, by simp, #[], by simp [VRs], λ w' _ => rfl⟩
   | some p =>
     obtain ⟨q, e2, rfl⟩ := cS (show M.map (λ l => (l, n)) (loadN p.1 p.2 (n * size)) c h = _ from e); obtain ⟨rfl, rfl, hh⟩ := vO e2; simp only [VR] at hu; obtain ⟨b, s, o', k', g1, rfl, g3, g4, g5, g6⟩ := hu; rcases hh with ⟨h0, rfl⟩ | ⟨cs, h1, h2⟩
     . refine ⟨rfl, rfl, λ w' => rfl, by simpa using h0.symm, #[], by simp [VRs], λ w' hw => ?_⟩; show (loadCells ⟨b, o', none⟩ (n * size)).run P w' = _; rw [h0]; rfl
     have hlen : q.length = n * size := by
      obtain ⟨rfl, hk⟩ := takeN_eq _ _ _ h2; rw [List.length_take]; omega
     obtain ⟨b', s', f1, arr, f2, f3, f4⟩ := hr.run_loadN (P := P) h1 h2; rw [g1] at f1; cases f1; refine ⟨rfl, rfl, λ w' => rfl, hlen, arr.toArray, by simpa using f3, λ w' hw => ?_⟩; rcases g5 with g5 | g5
     . have : n = 0 := by omega
       subst this; have f2 : arr.length = 0 * size := f2; rw [Nat.zero_mul] at f2; have : arr = [] := List.length_eq_zero_iff.1 f2; subst this; show (loadCells ⟨b, o', none⟩ (0 * size)).run P w' = _; rw [Nat.zero_mul]; rfl
     . subst g5; exact f4 w' hw
 | _ => cases e
end
section
variable {P : Program} {o : Oper}
def Src (P : Program) (eT el : TypeId) (size k : Nat) (x : Value) (arr : Array Value) (w : World) : Prop :=
 ((∃ d, P.underlying eT = some d /\ ∀ i, d ≠ .int i) /\ (∀ w', (Builtin.lenOf x).run P w' = .ok k w') /\ ∀ w' : World, w'.heap = w.heap -> (Builtin.firstCells size k x).run P w' = .ok arr w')
 ∨ (∃ i j, P.underlying eT = some (.int i) /\ x = .int j (k : Int)) /\ k <= 1048576 /\ ∃ zv : Value, (∀ w' : World, (zeroValue el).run P w' = .ok zv w') /\ zv.cells.size = size /\ arr = Builtin.zeroCells zv.cells k
theorem Ik (a b : TypeId) : (#[a, b] : Array TypeId)[0]? = some a := rfl
theorem Ij (a b : TypeId) : (#[a, b] : Array TypeId)[1]? = some b := rfl
theorem FR (a b : Value) : (#[a, b] : Array Value)[0]? = some a := rfl
theorem FQ (a b : Value) : (#[a, b] : Array Value)[1]? = some b := rfl
theorem pt (z : Array Value) {n : Nat} (h : n * z.size = 0) : Builtin.zeroCells z n = #[] := by
 apply Array.eq_empty_of_size_eq_zero; simp [Builtin.zeroCells, h]
theorem rz {el : TypeId} {zv : Value} {k size : Nat} (h0 : ∀ w' : World, (zeroValue el).run P w' = .ok zv w') (hzs : zv.cells.size = size) (w : World) :
  (if k * size = 0 then (pure #[] : Sem (Array Value)) else zeroValue el >>= λ z => pure (Builtin.zeroCells z.cells k)).run P w = .ok (Builtin.zeroCells zv.cells k) w := by
 by_cases h : k * size = 0
 . rw [if_pos h, pt _ (by rw [hzs]; exact h)]; rfl
 . rw [if_neg h]; simp only [Sem.run_bind, h0, Result.andThen, Sem.run_pure]
theorem wo {k : Nat} {b : Nat} (hk : k <= 1048576) (hb : b <= 1048576) : ¬ ((k : Int) * (b : Int) > 2 ^ 48) := by
 have h6 := Nat.mul_le_mul hk hb; rw [<- Int.natCast_mul]; generalize k * b = q at h6; omega
theorem zY {n t : Nat} (h : n < 9223372036854775808) : n + t % (2 ^ 63 - n) <= 9223372036854775807 := by
 have := Nat.mod_lt t (show 0 < 2 ^ 63 - n by omega); omega
theorem sS {sT eT el ty : TypeId} {base : Option Addr} {n c size k : Nat} {x : Value} {arr : Array Value} {w w' : World} {f : TypeInfo} (hs : P.underlying sT = some (.slice el)) (hz : cG P el = some size)
  (hf : P.info? el = some f) (hb : f.bytes <= 1048576) (hsrc : Src P eT el size k x arr w) (hle : n + k <= c)
  (hst : match base with | none => w' = w | some a => (storeCells (a.add (n * size)) arr.toList).run P w = .ok () w') :
  (Builtin.append_ #[sT, eT] ty #[.slice base n c, x]).run P w = .ok (.slice base (n + k) c) w' := by
 unfold Builtin.append_; rcases hsrc with ⟨⟨d, he, hd⟩, hn, ha⟩ | ⟨⟨i, j, he, rfl⟩, hk, zv, h0, hzs, rfl⟩
 . cases d with
   | int i => exact absurd rfl (hd i)
   | _ =>
     simp only [Ik, Ij, FR, FQ, Sem.run_bind, aB hs, aB he, Result.andThen, cH hz, Sem.run_pure, Bool.false_eq_true, if_false, hn, Bool.not_false, if_true, if_pos hle, ha w rfl]; cases base with
     | none => cases hst; rfl
     | some a => simp only [Sem.run_bind, hst, Result.andThen, Sem.run_pure]
 . have hi : (asInt (.int j (k : Int))).run P w = .ok (k : Int) w := rfl; have h7 : ¬ ((k : Int) < 0) := zO; simp only [Ik, Ij, FR, FQ, Sem.run_bind, aB hs, aB he, Result.andThen, cH hz, Sem.run_pure, if_true, hi, iY hk, if_neg h7, da hf, if_neg (wo hk hb), Int.toNat_natCast, Bool.not_true, Bool.false_eq_true, if_false, if_pos hle, rz h0 hzs]; cases base with
   | none => cases hst; rfl
   | some a => simp only [Sem.run_bind, hst, Result.andThen, Sem.run_pure]
theorem qV {sT eT el ty : TypeId} {base : Option Addr} {n c size k : Nat} {x : Value} {old arr : Array Value} {w : World} {zv : Value} {f : TypeInfo} (hs : P.underlying sT = some (.slice el)) (hz : cG P el = some size)
  (hf : P.info? el = some f) (hb : f.bytes <= 1048576) (hsrc : Src P eT el size k x arr w) (hle : ¬ n + k <= c) (hk : n + k <= 1048576) (h0 : ∀ w' : World, (zeroValue el).run P w' = .ok zv w')
  (ho : ∀ w' : World, w'.heap = w.heap -> (Builtin.firstCells size n (.slice base n c)).run P w' = .ok old w') :
  ∃ m, n + k <= m /\ m <= 9223372036854775807 /\ (Builtin.append_ #[sT, eT] ty #[.slice base n c, x]).run P w = .ok (.slice (some ⟨w.heap.size, 0, none⟩) (n + k) m) (({ w with drawn := w.drawn + 1 } : World).alloc (.cells (old ++ arr ++ Builtin.zeroCells zv.cells (m - (n + k))) el (0, 0))) := by
 refine ⟨(n + k) + w.tape w.drawn (.appendCap (n + k) c el) % (2 ^ 63 - (n + k)), Nat.le_add_right _ _, zY zO, ?_⟩; have h1 : ¬ ((n + k : Nat) : Int) > IntKind.i64.max := by
  have : IntKind.i64.max = 9223372036854775807 := rfl; rw [this]; omega
 have h2 : ¬ Builtin.nextslicecap (n + k) c * f.bytes > 2 ^ 48 := by
  have h3 := yq (n := n + k) (c := c) zO hk; have h4 := Nat.mul_le_mul h3 hb; generalize Builtin.nextslicecap (n + k) c * f.bytes = q at h4; omega
 have h5 : ∀ q : Prop, ¬ (((n + k : Nat) : Int) > IntKind.i64.max /\ q) := λ _ h => h1 h.1; have ho1 := ho { w with drawn := w.drawn + 1 } rfl; unfold Builtin.append_; rcases hsrc with ⟨⟨d, he, hd⟩, hn, ha⟩ | ⟨⟨i, j, he, rfl⟩, hk, zv', h0', hzs, rfl⟩
 . have ha1 := ha { w with drawn := w.drawn + 1 } rfl; cases d with
   | int i => exact absurd rfl (hd i)
   | _ =>
     simp only [Ik, Ij, FR, FQ, Sem.run_bind, aB hs, aB he, Result.andThen, cH hz, Sem.run_pure, Bool.false_eq_true, if_false, hn, Bool.not_false, if_true, if_neg hle, da hf, if_neg (h5 _), if_neg h2, run_choose, Question.forced, Question.cut, run_askRoom, ho1, ha1, h0, dK]
 . have hi : (asInt (.int j (k : Int))).run P w = .ok (k : Int) w := rfl; have h7 : ¬ ((k : Int) < 0) := zO; simp only [Ik, Ij, FR, FQ, Sem.run_bind, aB hs, aB he, Result.andThen, cH hz, Sem.run_pure, if_true, hi, iY hk, if_neg h7, da hf, if_neg (wo hk hb), Int.toNat_natCast, Bool.not_true, Bool.false_eq_true, if_false, if_neg hle, if_neg (h5 _), if_neg h2, run_choose, Question.forced, Question.cut, run_askRoom, ho1, rz h0' hzs, h0, dK]
theorem qW {sT eT el ty : TypeId} {a : Addr} {n c size k : Nat} {x : Value} {arr : Array Value} {w w' : World} {f : TypeInfo} (hs : P.underlying sT = some (.slice el)) (hz : cG P el = some size)
  (hf : P.info? el = some f) (hb : f.bytes <= 1048576) (hsrc : Src P eT el size k x arr w) (hle : n + k <= c) (hst : (storeCells (a.add (n * size)) arr.toList).run P w = .ok () w') :
  (Builtin.append_ #[sT, eT] ty #[.slice (some a) n c, x]).run P w = .ok (.slice (some a) (n + k) c) w' := sS hs hz hf hb hsrc hle hst
theorem pr (z : Array Value) (n : Nat) : (Builtin.zeroCells z n).size = n * z.size := by
 simp [Builtin.zeroCells]
theorem jM (a : Addr) (w : World) : (storeCells a []).run P w = .ok () w := rfl
theorem grown {ρ : Ren} {h : H} {w : World} {C n k m size : Nat} {o r : List AV} {l : List Value} {arr : Array Value} {zc : Array Value} {el : TypeId} (hr : Rel ρ h w) (hC : ρ C = none) (ho : VRs ρ o l) (hv : VRs ρ r arr.toList)
  (hlo : o.length = n * size) (hlr : r.length = k * size) (hz : zc.size = size) (hm : n + k <= m) (hM : m <= 9223372036854775807) :
  VR (ρ.put C (w.heap.size, (l.toArray ++ arr ++ Builtin.zeroCells zc (m - (n + k))).size)) (.slice (some (C, 0)) (n + k) (n + k) size) (.slice (some ⟨w.heap.size, 0, none⟩) (n + k) m) /\
  Post ρ h w C (C + 1) (ρ.put C (w.heap.size, (l.toArray ++ arr ++ Builtin.zeroCells zc (m - (n + k))).size)) (h.set C (some (.row (o ++ r)))) (({ w with drawn := w.drawn + 1 } : World).alloc (.cells (l.toArray ++ arr ++ Builtin.zeroCells zc (m - (n + k))) el (0, 0))) := by
 have h1 := ho.length; have h2 := hv.length; rw [Array.length_toList] at h2; refine ⟨?_, ?_⟩
 . simp only [VR]; refine ⟨w.heap.size, _, 0, m, Ren.put_same ρ C _, rfl, hm, Nat.le_refl _, .inr rfl, ?_, hM⟩; simp only [Array.size_append, List.size_toArray, pr, h1, h2, hlo, hlr, hz, <- Nat.add_mul]; rw [Nat.zero_add, show n + k + (m - (n + k)) = m by omega]; exact Nat.le_refl _
 . exact Post.from_drawn ((hr.drew (w.drawn + 1)).newRow hC (ho.append hv) _ (rest := (Builtin.zeroCells zc (m - (n + k))).toList) (by simp) el (0, 0) (.inr rfl))
theorem xe {ρ : Ren} {h h' : H} {w : World} {a : Option (Nat × Nat)} {n c z k size C c' : Nat} {r : List AV} {v : AV} {g : Log} {S : Value} {app : Sem (Array Value)} {sT eT el ty : TypeId} {x : Value} {Z : AV}
  (e : Kr size a n c z r k C h = .ok v c' h' g) (hr : Rel ρ h w) (hu : VR ρ (.slice a n c z) S) (hsrc : Fs P size ρ w k app r) (hZ : cX P el = some Z) (hs : Z.cells.length = size) (hf : lV ρ C c')
  (hT : P.underlying sT = some (.slice el)) (hsz : cG P el = some size) (hX : ∀ arr, (∀ w' : World, w'.heap = w.heap -> app.run P w' = .ok arr w') -> Src P eT el size k x arr w) :
  ∃ base c0, S = .slice base n c0 /\ ∃ v' ρ' w', (Builtin.append_ #[sT, eT] ty #[.slice base n c0, x]).run P w = .ok v' w' /\ VR ρ' v v' /\ Post ρ h w C c' ρ' h' w' := by
 obtain ⟨hlr, arr, hv, hrun⟩ := hsrc; have hX := hX arr hrun; obtain ⟨i, zv, z1, z2, z3, z4, z5⟩ := fF hZ; have hzs : zv.cells.size = size := by
  have := (jb ρ z3).cells.length; rw [Array.length_toList] at this; omega
 have hz0 : ∀ w' : World, (zeroValue el).run P w' = .ok zv w' := λ w' => by simp [zeroValue, da z1, z2]
 have h2 := hv.length; rw [Array.length_toList] at h2; obtain ⟨hk, e⟩ := dO e; have hk := Nat.le_of_ble_eq_true hk; have hk : n + k <= 1048576 := hk; cases hc : Nat.ble (Nat.add n k) c with
 | true =>
   rw [hc] at e; have hle : n + k <= c := Nat.le_of_ble_eq_true hc; cases a with
   | none =>
     obtain ⟨rfl, rfl, rfl, _⟩ := aS (show M.pure (AV.slice none (n + k) c z) C h = _ from e); simp only [VR] at hu; exact ⟨none, c, hu, _, ρ, w, sS hT hsz z1 z5 hX hle rfl, by simp only [VR], Post.refl hr⟩
   | some p =>
     obtain ⟨u, e2, rfl⟩ := cS (show M.map (λ _ => AV.slice (some p) (n + k) c z) (storeN p.1 (p.2 + n * size) r) C h = _ from e); simp only [VR] at hu; obtain ⟨b, s, o', k', g1, g2, g3, g4, g5, g6, g7⟩ := hu; obtain ⟨rfl, w', g8, g9⟩ := hr.run_store (P := P) e2 hv g1; refine ⟨_, k', g2, _, ρ, w', qW hT hsz z1 z5 hX (Nat.le_trans hle g3) ?_, ?_, g9⟩
     . rcases g5 with g5 | g5
       . have hn : n = 0 /\ k = 0 := by omega
         obtain ⟨rfl, rfl⟩ := hn; have : arr.toList = [] := by
          apply List.length_eq_zero_iff.1; rw [Array.length_toList, h2, hlr, Nat.zero_mul]
         rw [this] at g8 ⊢; rw [jM] at g8 ⊢; exact g8
       . rw [g5, addr_add]; exact g8
     . simp only [VR]; exact ⟨b, s, o', k', g1, rfl, g3, hle, g5, g6, g7⟩
 | false =>
   rw [hc] at e; have hnle : ¬ n + k <= c := λ q => by
    have := Nat.ble_eq_true_of_le q; have hc : Nat.ble (n + k) c = false := hc; rw [hc] at this; cases this
   cases a with
   | none =>
     obtain ⟨hn, e⟩ := dO (show ifB (Nat.beq n 0) (GV size (n + k) (newO (.row r))) fail C h = _ from e); have hn := Nat.eq_of_beq_eq_true hn; subst hn; obtain ⟨m0, e2, rfl⟩ := cS e; obtain ⟨rfl, rfl, rfl, _⟩ := gy e2; simp only [VR] at hu; subst hu; refine ⟨none, c, rfl, ?_⟩; obtain ⟨m, q1, qM, q2⟩ := qV (ty := ty) (base := none) (n := 0) (c := c) (old := #[]) hT hsz z1 z5 hX hnle hk hz0 (λ w' _ => rfl); obtain ⟨q3, q4⟩ := grown (k := k) (n := 0) (m := m) (size := size) (o := []) (l := []) (zc := zv.cells) (el := el) hr hf.one (VRs.nil ρ) hv (by simp) hlr hzs q1 qM; exact ⟨_, _, _, q2, q3, q4⟩
   | some p =>
     obtain ⟨hb, e⟩ := dO (show Fh size p n z r k C h = _ from e); have hb3 : p.2 = 0 /\ z = size /\ iN r = true := by
      cases b1 : Nat.beq p.2 0 with
      | false => rw [b1] at hb; cases hb
      | true =>
        cases b2 : Nat.beq z size with
        | false => rw [b1, b2] at hb; cases hb
        | true => rw [b1, b2] at hb; exact ⟨Nat.eq_of_beq_eq_true b1, Nat.eq_of_beq_eq_true b2, hb⟩
     obtain ⟨hp0, hzz, hsc⟩ := hb3; obtain ⟨o, c1, H1, l1, l2, e1, e2, _⟩ := dy e; obtain ⟨cs, k1, k2, rfl, rfl, _⟩ := ql e1; obtain ⟨m0, e3, rfl⟩ := cS e2; obtain ⟨rfl, rfl, rfl, _⟩ := gy e3; simp only [VR] at hu; obtain ⟨b, s, o', k', g1, g2, g3, g4, g5, g6, g7⟩ := hu; rw [hzz] at g6; have hC := hf.one; have k2 : takeN (n * size) (dropN 0 cs) = some o := k2; obtain ⟨ho, hlen⟩ := takeN_eq _ _ _ k2; rw [dropN_eq, List.drop_zero] at ho hlen; refine ⟨_, k', g2, ?_⟩; by_cases hin : n + k <= k'
     . have ho' : o' = 0 := by rcases g5 with g5 | g5 <;> omega
       subst ho'; obtain ⟨b', s', f1, hpost⟩ := hr.reuse k1 hC hv hlen; rw [g1] at f1; cases f1; have hroom : n * size + arr.toList.length <= s := by
        rw [Array.length_toList, h2, hlr, <- Nat.add_mul]; have := Nat.mul_le_mul_right size hin; omega
       obtain ⟨b', s', f2, _, hcell, _⟩ := hr.cells k1; rw [g1] at f2; cases f2; have hst := run_storeCells_cells (P := P) b (n * size) arr.toList 0 w (λ j hj => (hcell _ zO).1) (λ j hj => (hcell _ zO).2) (hv.oneCell hsc); refine ⟨_, _, _, qW hT hsz z1 z5 hX hin (by rw [addr_add, Nat.zero_add]; simpa using hst), ?_, by rw [ho]; simpa using hpost hroom⟩; simp only [VR]; exact ⟨b, s, 0, k', Ren.put_same ρ _ _, rfl, hin, Nat.le_refl _, .inr rfl, g6, g7⟩
     . obtain ⟨b', s', f1, l, f2, f3, f4⟩ := hr.run_loadN (P := P) k1 k2; rw [g1] at f1; cases f1; have hold : ∀ w' : World, w'.heap = w.heap -> (Builtin.firstCells size n S).run P w' = .ok l.toArray w' := λ w' hw => by
        rw [g2]; show (loadCells ⟨b, o', none⟩ (n * size)).run P w' = _; rcases g5 with g5 | g5
        . have : n = 0 := by omega
          subst this; rw [Nat.zero_mul] at f2 ⊢; have : l = [] := List.length_eq_zero_iff.1 f2; subst this; rfl
        . rw [g5, hp0]; exact f4 w' hw
       obtain ⟨m, q1, qM, q2⟩ := qV (ty := ty) (old := l.toArray) hT hsz z1 z5 hX hin hk hz0 (by rw [<- g2]; exact hold); obtain ⟨q3, q4⟩ := grown (k := k) (n := n) (m := m) (size := size) (zc := zv.cells) (el := el) (hr.kill p.1) hC f3 hv (by rw [ho, List.length_take]; omega) hlr hzs q1 qM; exact ⟨_, _, _, q2, q3, (Post.kill hr p.1 _).trans q4 (Nat.le_refl _) (Nat.le_succ _)⟩
theorem BQ {sT eT el : TypeId} {d : TypeDesc} {x y : Operand} {x' y' : Opd} {Z : AV} (ho : o.op = .call { callee := .builtin .append, args := #[x, y], argTypes := #[sT, eT] }) (kx : aW x = some x') (ky : aW y = some y')
  (hs : P.underlying sT = some (.slice el)) (he : P.underlying eT = some d) (hd : ∀ i, d ≠ .int i) (hZ : cX P el = some Z) : bd P o (o9 (len Z.cells) x' y') := by
 refine bd.of_run λ call E C h v c' h' l hk ρ w a hr hE hf => ?_; obtain ⟨p, n, c, z, hp, hk⟩ := eU hk; obtain ⟨r, c1, h1, l1, l2, e1, e2, _⟩ := dy hk; have hx := aO hE kx; have hy := aO hE ky; obtain ⟨rfl, rfl, hlen, hsrc⟩ := uH (P := P) e1 hr hy; rw [hp] at hx; have hsz : cG P el = some (len Z.cells) := by
  obtain ⟨i, zv, z1, z2, z3, z4, z5⟩ := fF hZ; rw [len_eq, z4]; unfold cG; rw [z1]; rfl
 obtain ⟨base, c0, hS, v', ρ', w', q1, q2, q3⟩ := xe (x := a.eval y) (ty := o.type) e2 hr hx hsrc hZ (len_eq _).symm hf hs hsz λ arr ha => .inl ⟨⟨d, he, hd⟩, hlen, ha⟩; refine ⟨v', ρ', w', cy ho (λ _ => rfl) ?_, q2, q3⟩; have : (#[x, y] : Array Operand).map a.eval = #[.slice base n c0, a.eval y] := by rw [<- hS]; simp
 rw [this]; exact q1
theorem yg {sT eT el : TypeId} {i : IntKind} {x y : Operand} {x' y' : Opd} {Z : AV} (ho : o.op = .call { callee := .builtin .append, args := #[x, y], argTypes := #[sT, eT] }) (kx : aW x = some x') (ky : aW y = some y')
  (hs : P.underlying sT = some (.slice el)) (he : P.underlying eT = some (.int i)) (hZ : cX P el = some Z) : bd P o (mG (len Z.cells) Z.cells x' y') := by
 refine bd.of_run λ call E C h v c' h' l hk ρ w a hr hE hf => ?_; obtain ⟨p, n, c, z, hp, hk⟩ := eU hk; obtain ⟨r, c1, h1, l1, l2, e1, e2, _⟩ := dy hk; have hx := aO hE kx; obtain ⟨k, hk1, e1⟩ := bW (show ifS fail (λ k => ifB (Nat.ble k 1048576) (M.pure (oN Z.cells k, k)) fail) (asN (ev E y')) C h = _ from e1); obtain ⟨hb, e1⟩ := dO e1; obtain ⟨rfl, rfl, rfl, _⟩ := aS e1; have hb := Nat.le_of_ble_eq_true hb; obtain ⟨j, hy⟩ := jy (aO hE ky) hk1; rw [hp] at hx; obtain ⟨f, zv, z1, z2, z3, z4, z5⟩ := fF hZ; have hsz : cG P el = some (len Z.cells) := by
  rw [len_eq, z4]; unfold cG; rw [z1]; rfl
 have hV := (jb ρ z3).cells; have hzs : zv.cells.size = Z.cells.length := (by have := hV.length; rwa [Array.length_toList] at this); have hz0 : ∀ w' : World, (zeroValue el).run P w' = .ok zv w' := λ w' => by simp [zeroValue, da z1, z2]
 have hsz2 : zv.cells.size = len Z.cells := (by rw [hzs, len_eq]); have hsrc : Fs P (len Z.cells) ρ w k (pure (Builtin.zeroCells zv.cells k)) (oN Z.cells k) := by
  refine ⟨by rw [hH, len_eq], _, ?_, λ w' _ => rfl⟩; have := tl hV k; rw [<- hzs] at this; exact this
 obtain ⟨base, c0, hS, v', ρ', w', q1, q2, q3⟩ := xe (x := .int j (k : Int)) (ty := o.type) e2 hr hx hsrc hZ (len_eq _).symm hf hs hsz λ arr ha => .inr ⟨⟨i, j, he, rfl⟩, hb, zv, hz0, hsz2, by
  have := ha w rfl; cases this; rfl⟩
 refine ⟨v', ρ', w', cy ho (λ _ => rfl) ?_, q2, q3⟩; have : (#[x, y] : Array Operand).map a.eval = #[.slice base n c0, .int j (k : Int)] := by rw [<- hS, <- hy]; simp
 rw [this]; exact q1
end
section
variable {P : Program} {o : Oper}
theorem lA {f : FK} {d : TypeDesc} (hd : qy f d) {ρ : Ren} {p q : AV} {r : Bool} (h : fK f p q = some r) {u v : Value} (hu : VR ρ p u) (hv : VR ρ q v) : Instr.sameNow d u v = some r /\ (r = true -> Instr.sameBits 10000 v u = true) := by
 have := nV h hu hv; cases f with
 | int =>
   obtain ⟨i, m, n, rfl, rfl, rfl⟩ := this; obtain ⟨j, rfl⟩ := hd; refine ⟨by simp [Instr.sameNow], λ e => ?_⟩; have e : m = n := (by simpa using e); subst e; simp [Instr.sameBits]
 | str =>
   obtain ⟨a, b, rfl, rfl, rfl⟩ := this; have hd : d = .string := hd; subst hd; refine ⟨by simp [Instr.sameNow, beq_toListBytes], λ e => ?_⟩; have e : a.toList = b.toList := (by simpa using e); simp [Instr.sameBits, beq_toListBytes, e]
 | bool =>
   obtain ⟨a, b, rfl, rfl, rfl⟩ := this; have hd : d = .bool := hd; subst hd; refine ⟨by simp [Instr.sameNow], λ e => ?_⟩; have e : a = b := (by simpa using e); subst e; simp [Instr.sameBits]
theorem wh {f : FK} {d : TypeDesc} (hd : qy f d) {ρ : Ren} {p : AV} {u : Value} (hu : VR ρ p u) : ∀ (es : List (AV × AV × Nat)) (l : List MapEntry) (i : Nat) (r : Option AV), ERs ρ es l -> Eo f p es = some r ->
  match r with
  | none => Instr.findNow d u l i = some none
  | some v => ∃ j y, Instr.findNow d u l i = some (some (j, y)) /\ VR ρ v y
 | [], l, i, r, hl, hr => by
   cases hr
   have hl : l = [] := hl
   subst hl
   rfl
 | q :: es, l, i, r, hl, hr => by
   obtain ⟨e, t, rfl, h1, h2, h3, h4⟩ := hl
   obtain ⟨b, hb, hr⟩ := ah (show ifS none (λ t => ifB t (some (some q.2.1)) (Eo f p es)) (fK f p q.1) = some r from hr)
   obtain ⟨hs, _⟩ := lA hd hb hu h1
   cases b with
   | true =>
     cases hr
     exact ⟨i, e.val, by simp only [Instr.findNow, hs], h2⟩
   | false =>
     have := wh hd hu es t (i + 1) r h4 hr
     cases r with
     | none => simp only [Instr.findNow, hs]; exact this
     | some v =>
       obtain ⟨j, y, k1, k2⟩ := this
       exact ⟨j, y, by simp only [Instr.findNow, hs]; exact k1, k2⟩
theorem zS {f : FK} {d : TypeDesc} (hd : qy f d) {ρ : Ren} {p x : AV} {u y : Value} (hu : VR ρ p u) (hy : VR ρ x y) {clock : Nat} : ∀ (es : List (AV × AV × Nat)) (l : List MapEntry) (i : Nat) (r : List (AV × AV × Nat) × Nat), ERs ρ es l -> IV f p x clock es = some r ->
  (Instr.findNow d u l i = some none /\ r.2 = clock + 1 /\ ERs ρ r.1 (l ++ [{ key := u, val := y, born := clock }])) ∨
  (∃ j z e, Instr.findNow d u l i = some (some (i + j, z)) /\ r.2 = clock /\ l[j]? = some e /\ Instr.sameBits 10000 e.key u = true /\ ERs ρ r.1 (l.modify j λ e => { e with key := u, val := y }))
 | [], l, i, r, hl, hr => by
   cases hr
   have hl : l = [] := hl
   subst hl
   exact .inl ⟨rfl, rfl, _, _, rfl, hu, hy, rfl, rfl⟩
 | q :: es, l, i, r, hl, hr => by
   obtain ⟨e, t, rfl, h1, h2, h3, h4⟩ := hl
   obtain ⟨b, hb, hr⟩ := ah (show ifS none (λ b => ifB b (some ((p, x, q.2.2) :: es, clock)) (ifS none (λ z => some (q :: z.1, z.2)) (IV f p x clock es))) (fK f p q.1) = some r from hr)
   obtain ⟨hs, hbits⟩ := lA hd hb hu h1
   cases b with
   | true =>
     cases hr
     refine .inr ⟨0, e.val, e, by simp only [Instr.findNow, hs, Nat.add_zero], rfl, rfl, hbits rfl, ?_⟩
     exact ⟨_, _, rfl, hu, hy, h3, h4⟩
   | false =>
     obtain ⟨z, hz, hr⟩ := ah hr
     cases hr
     rcases zS hd hu hy es t (i + 1) z h4 hz with ⟨k1, k2, k3⟩ | ⟨j, v, e', k1, k2, k3, k4, k5⟩
     . exact .inl ⟨by simp only [Instr.findNow, hs]; exact k1, k2, e, _, rfl, h1, h2, h3, k3⟩
     . refine .inr ⟨j + 1, v, e', ?_, k2, by simpa using k3, k4, e, _, by simp, h1, h2, h3, k5⟩
       simp only [Instr.findNow, hs]
       rw [k1, show i + 1 + j = i + (j + 1) by omega]
theorem tJ {t : TypeId} {q : TypeId × TypeId} (h : tK P t = some q) : P.underlying t = some (.map q.1 q.2) := by
 unfold tK at h; split at h
 . rename_i hu; cases h; exact hu
 . cases h
theorem dL {k : TypeId} {f : FK} (hf : fkO P k = some f) (b : Bool) (u : Value) (w : World) : (Instr.checkKey b 10000 k u).run P w = .ok () w := by
 obtain ⟨d, hd, hfit⟩ := nT hf; have key : ∀ n, (Instr.checkKey b (n + 1) k u).run P w = .ok () w := λ n => by
  unfold Instr.checkKey; simp only [Sem.run_bind, aB hd, Result.andThen]; cases f with
  | int => obtain ⟨j, rfl⟩ := hfit; cases u <;> rfl
  | str => have h : d = .string := hfit; subst h; cases u <;> rfl
  | bool => have h : d = .bool := hfit; subst h; cases u <;> rfl
 exact key 9999
theorem ec {k : TypeId} {d : TypeDesc} (hd : P.underlying k = some d) {u : Value} {l : List MapEntry} {r : Option (Nat × Value)} (h : Instr.findNow d u l 0 = some r) (w : World) : (Instr.findKey k u l).run P w = .ok r w := by
 simp [Instr.findKey, aB hd, h]
theorem tn {ρ : Ren} {z : AV} {zv : Value} (hz : VR ρ z zv) {r : Option AV} {v : Value} {b ok : Bool} (h : match r with | none => v = zv /\ b = false | some x => VR ρ x v /\ b = true) : VR ρ (Gi z ok r) (if ok then .tuple #[v, .bool b] else v) := by
 have key : ∀ x, VR ρ x v -> VR ρ (.tuple [x, .bool b]) (.tuple #[v, .bool b]) := λ x hx => by
  simp only [VR]; exact ⟨_, rfl, VRs.cons hx (VRs.cons (VR.bool ρ b) (VRs.nil ρ))⟩
 cases r with
 | none =>
   obtain ⟨rfl, rfl⟩ := h; cases ok
   . exact hz
   . exact key _ hz
 | some x =>
   obtain ⟨h, rfl⟩ := h; cases ok
   . exact h
   . exact key _ h
theorem BJ {t : TypeId} {x i : Operand} {x' i' : Opd} {ok : Bool} {q : TypeId × TypeId} {f : FK} {z : AV} (ho : o.op = .lookup t x i ok) (kx : aW x = some x') (ki : aW i = some i') (hq : tK P t = some q) (hf : fkO P q.1 = some f) (hz : cX P q.2 = some z) : bd P o (oV f z x' i' ok) := by
 refine bd.of_run λ call E c h v c' h' l he ρ w a hr hE hfree => ?_; have hx := aO hE kx; have hi := aO hE ki; have hu := tJ hq; obtain ⟨d, hd, hfit⟩ := nT hf; obtain ⟨zv, hzrun, hzV, _⟩ := jQ (w := w) hz ρ; obtain ⟨m, hm, he⟩ := jX he; rw [hm] at hx; cases m with
 | none =>
   obtain ⟨rfl, rfl, rfl, _⟩ := aS (show M.pure (Gi z ok none) c h = _ from he); simp only [VR] at hx; refine ⟨if ok then .tuple #[zv, .bool false] else zv, ρ, w, ?_, tn hzV ⟨rfl, rfl⟩, Post.refl hr⟩; simp only [execOp, ho]; refine bF ?_; have hk := ec (P := P) hd (u := a.eval i) (l := []) (r := none) rfl w; simp only [Instr.lookup, Sem.run_bind, aB hu, Result.andThen, hx, Sem.run_pure, dL hf, hk, hzrun]
 | some n =>
   simp only [VR] at hx; obtain ⟨b, s, h1, h2⟩ := hx; obtain ⟨r, c1, H1, l1, l2, e1, e2, _⟩ := dy (show M.bind (getMap n) _ c h = _ from he); obtain ⟨g1, rfl, rfl, _⟩ := gH e1; obtain ⟨res, hres, e2⟩ := bW e2; obtain ⟨rfl, rfl, rfl, _⟩ := aS e2; obtain ⟨b', s', m, g2, g3, g4⟩ := gS hr g1; rw [h1] at g2; cases g2; have hg2 : (getObj b).run P w = .ok (.map m r.2) w := (by simp [getObj, Sem.run, g3]); have hk := wh hfit hi r.1 m.toList 0 res g4 hres; cases res with
   | none =>
     refine ⟨if ok then .tuple #[zv, .bool false] else zv, ρ, w, ?_, tn hzV ⟨rfl, rfl⟩, Post.refl hr⟩; simp only [execOp, ho]; refine bF ?_; simp only [Instr.lookup, Sem.run_bind, aB hu, Result.andThen, h2, hg2, Sem.run_pure, dL hf, ec hd hk, hzrun]
   | some y =>
     obtain ⟨j, yv, k1, k2⟩ := hk; refine ⟨if ok then .tuple #[yv, .bool true] else yv, ρ, w, ?_, tn hzV ⟨k2, rfl⟩, Post.refl hr⟩; simp only [execOp, ho]; refine bF ?_; simp only [Instr.lookup, Sem.run_bind, aB hu, Result.andThen, h2, hg2, Sem.run_pure, dL hf, ec hd k1]
theorem mw {t : TypeId} {x i y : Operand} {x' i' y' : Opd} {q : TypeId × TypeId} {f : FK} (ho : o.op = .mapUpdate t x i y ∨ o.op = .insert t x i y) (kx : aW x = some x') (ki : aW i = some i') (ky : aW y = some y') (hq : tK P t = some q) (hf : fkO P q.1 = some f) : bd P o (fJ f x' i' y') := by
 refine bd.of_skip λ call E c h v c' h' l he => ?_; obtain ⟨m, hm, he⟩ := jX he; obtain ⟨n, rfl, he⟩ := bW he; obtain ⟨r, c1, H1, l1, l2, e1, e2, _⟩ := dy he; obtain ⟨g1, rfl, rfl, _⟩ := gH e1; obtain ⟨res, hres, e2⟩ := bW e2; obtain ⟨u, e3, rfl⟩ := cS e2; obtain ⟨rfl, rfl, _, _⟩ := kK e3; refine ⟨rfl, λ ρ w a hr hE hfree => ?_⟩; have hx := aO hE kx; have hi := aO hE ki; have hy := aO hE ky; have hu := tJ hq; obtain ⟨d, hd, hfit⟩ := nT hf; rw [hm] at hx; simp only [VR] at hx; obtain ⟨b, s, h1, h2⟩ := hx; obtain ⟨b', s', m, g2, g3, g4⟩ := gS hr g1; rw [h1] at g2; cases g2; have hg2 : (getObj b).run P w = .ok (.map m r.2) w := (by simp [getObj, Sem.run, g3]); have hset : ∀ ob : Obj, (setObj b ob).run P w = .ok () { w with heap := w.heap.setIfInBounds b ob } := λ ob => by simp [setObj, Sem.run, g3]
 have hex : (execOp a.eval o) = (do Instr.mapUpdate t (a.eval x) (a.eval i) (a.eval y); pure .skip) := by
  rcases ho with ho | ho <;> simp only [execOp, ho]
 have hrun : ∀ a' k', (Instr.mapUpdate t (a.eval x) (a.eval i) (a.eval y)).run P w = .ok () { w with heap := w.heap.setIfInBounds b (.map a' k') } -> (execOp a.eval o).run P w = .ok .skip { w with heap := w.heap.setIfInBounds b (.map a' k') } := λ a' k' hh => by
  rw [hex]; simp only [Sem.run_bind, hh, Result.andThen, Sem.run_pure]
 rcases zS hfit hi hy r.1 m.toList 0 res g4 hres with ⟨k1, k2, k3⟩ | ⟨j, z, e, k1, k2, k3, k4, k5⟩
 . obtain ⟨b2, s2, a2, f1, f2, f3, f4⟩ := hr.setMap (c := c') (k' := res.2) (a' := m.push { key := a.eval i, val := a.eval y, born := r.2 }) g1 (by simpa using k3); rw [h1] at f1; cases f1; refine ⟨ρ, _, hrun _ _ ?_, f4⟩; simp only [Instr.mapUpdate, Sem.run_bind, aB hu, Result.andThen, h2, hg2, dL hf, ec hd k1, hset, k2]
 . obtain ⟨b2, s2, a2, f1, f2, f3, f4⟩ := hr.setMap (c := c') (k' := res.2) (a' := m.modify j λ e => { e with key := a.eval i, val := a.eval y }) g1 (by simpa using k5); rw [h1] at f1; cases f1; refine ⟨ρ, _, hrun _ _ ?_, f4⟩; rw [Nat.zero_add] at k1; rw [Array.getElem?_toList] at k3; have hkey : (Instr.keyThatStays (((m[j]?).map (·.key)).getD (a.eval i)) (a.eval i)).run P w = .ok (a.eval i) w := by
    rw [k3]; simp [Instr.keyThatStays, k4]
   simp only [Instr.mapUpdate, Sem.run_bind, aB hu, Result.andThen, h2, hg2, dL hf, ec hd k1, hkey, hset, k2]
theorem vf (h : Array Obj) (ob : Obj) (f : Obj -> Obj) : (h.push ob).modify h.size f = h.push (f ob) := by
 apply Array.ext
 . simp
 . intro i h1 h2; simp only [Array.size_push] at h2; rw [Array.getElem_modify]; by_cases e : h.size = i
   . subst e; simp
   . rw [if_neg e, Array.getElem_push_lt zO, Array.getElem_push_lt zO]
theorem th (W : World) (arr : Array Value) (el : TypeId) : (markStringish ⟨W.heap.size, 0, none⟩).run P (W.alloc (.cells arr el (0, 0))) = .ok () (W.alloc (.cells arr el (arr.size, arr.size + 1))) := by
 have hs : (W.alloc (.cells arr el (0, 0))).shape? W.heap.size = some (el, arr.size) := by
  have : (W.heap.push (Obj.cells arr el (0, 0)))[W.heap.size]? = some (.cells arr el (0, 0)) := by simp
  show (match (W.heap.push (Obj.cells arr el (0, 0)))[W.heap.size]? with | some (.cells c e _) => some (e, c.size) | _ => none) = _; rw [this]
 have hf : (W.alloc (.cells arr el (0, 0))).freeze { block := W.heap.size, off := arr.size } 1 = W.alloc (.cells arr el (arr.size, arr.size + 1)) := by
  unfold World.freeze; rw [if_neg zD]; show ({ W with heap := (W.heap.push (Obj.cells arr el (0, 0))).modify W.heap.size _ } : World) = { W with heap := W.heap.push _ }; rw [vf]; rfl
 simp only [markStringish, Sem.run_bind, run_shape, hs, Result.andThen, run_freeze, hf]
theorem vn {s d el : TypeId} {x : Operand} {y : Opd} (ho : o.op = .convert s d x) (k : aW x = some y) (hs : P.underlying s = some .string) (hd : P.underlying d = some (.slice el)) (he : P.underlying el = some (.int .u8)) : bd P o (kN y) := by
 refine bd.of_run λ call E c h v c' h' l hk ρ w a hr hE hf => ?_; obtain ⟨st, hst, hk⟩ := iR hk; obtain ⟨hfew, hk⟩ := dO hk; have hfew := Nat.le_of_ble_eq_true hfew; rw [len_eq] at hfew; obtain ⟨m, hk2, rfl⟩ := cS hk; obtain ⟨rfl, rfl, rfl, _⟩ := gy hk2; have hx := aO hE k; rw [hst] at hx; simp only [VR] at hx; obtain ⟨b, hb, hx⟩ := hx; have hlen := kJ hx; have hV := C7 ρ hx; obtain ⟨cap, arr, hcap, hcap2, harr, hrun⟩ : ∃ cap arr, b.size <= cap /\ cap <= 9223372036854775807 /\ arr.toList = (b.data.toList.map λ x => Value.int .u8 x.toNat) ++ List.replicate (cap - b.size) (Value.int .u8 0) /\ (Conv.stringToBytes el b).run P w = .ok (.slice (some ⟨w.heap.size, 0, none⟩) b.size cap)
   (({ w with drawn := w.drawn + 1 } : World).alloc (.cells arr el (arr.size, arr.size + 1))) := by
  refine ⟨b.size + w.tape w.drawn (.appendCap b.size 0 el) % (2 ^ 63 - b.size), (b.data.map λ b => Value.int .u8 b.toNat) ++ Array.replicate ((b.size + w.tape w.drawn (.appendCap b.size 0 el) % (2 ^ 63 - b.size)) - b.size) (.int .u8 0), Nat.le_add_right _ _, zY zO, by simp, ?_⟩; have hm := th (P := P) { w with drawn := w.drawn + 1 } ((b.data.map λ b => Value.int .u8 b.toNat) ++ Array.replicate ((b.size + w.tape w.drawn (.appendCap b.size 0 el) % (2 ^ 63 - b.size)) - b.size) (.int .u8 0)) el; simp only [Conv.stringToBytes, Sem.run_bind, run_choose, Question.forced, Bool.false_eq_true, if_false, Question.cut, Result.andThen, dK, hm, Sem.run_pure]
 have hsz : arr.size = cap := by
  rw [<- Array.length_toList, harr]; simp only [List.length_append, List.length_map, List.length_replicate, Array.length_toList]; have : b.data.size = b.size := rfl; omega
 refine ⟨.slice (some ⟨w.heap.size, 0, none⟩) b.size cap, _, _, ?_, ?_, Post.from_drawn ((hr.drew (w.drawn + 1)).newRow hf.one hV arr harr el (arr.size, arr.size + 1) (.inl (Nat.le_refl _)))⟩
 . simp only [execOp, ho]; refine bF ?_; simp only [convert, Sem.run_bind, aB hs, aB hd, aB he, Result.andThen, hb, hrun]
 . simp only [VR]; exact ⟨w.heap.size, arr.size, 0, cap, Ren.put_same ρ m _, by rw [hlen, len_eq], by rw [len_eq, <- hlen]; exact hcap, by rw [len_eq]; exact Nat.le_refl _, .inr rfl, by omega, hcap2⟩
theorem Gn {f : Operand} {args : Array Operand} {ts : Array TypeId} {f' : Opd} {l' : List Opd} (ho : o.op = .call { callee := .value f, args, argTypes := ts }) (kf : aW f = some f') (kl : iD args.toList = some l') : bd P o (Ap f' l') := by
 intro call hcall e c h v c' h' l he ρ w a hr hE hf next Q hn; obtain ⟨g, x, y, hg, he⟩ := Ah he; have hx := aO hE kf; rw [hg] at hx; simp only [VR] at hx; obtain ⟨x', y', hv, h1, h2⟩ := hx; have hargs := lf hE kl; obtain ⟨hent, hc⟩ := hcall g _ c h v c' h' l he
 have hc := hc ρ w (x' ++ (args.map a.eval) ++ y') hr (by
  simp only [Array.toList_append, Array.toList_map, List.append_assoc]; exact h1.append (hargs.append h2)) hf
 have hrun : (execOp a.eval o).run P w = .ok (.enter g (x' ++ (args.map a.eval) ++ y')) w := by
  simp only [execOp, ho, resolve, Deferred.ofValue, hv, Sem.run_bind, Sem.run_pure, Result.andThen, invoke, hent]
 unfold Oper.wp; rw [hrun, Oper.upon_enter]; refine Calls.mono hc λ e' w' hR => ?_; obtain ⟨v', ρ', rfl, hV, hp⟩ := hR; exact hn v' ρ' w' hV hp
theorem tT {f : Field} {k : Nat} (h : sy P f = some k) : k = f.offset /\ (∀ e, P.underlying f.type ≠ some (.pointer e)) /\ kD P f.type = some false /\ ∃ n, cG P f.type = some n /\ n ≠ 0 := by
 obtain ⟨hp, h⟩ := dP h; obtain ⟨b, hb, h⟩ := ah h; cases b with
 | true => cases h
 | false =>
   obtain ⟨n, hn, h⟩ := ah (show ifS none (λ n => ifB (Nat.beq n 0) none (some f.offset)) (cG P f.type) = some k from h); obtain ⟨h0, h⟩ := gR h; cases h; refine ⟨rfl, λ e he => ?_, hb, n, hn, λ e => by subst e; cases h0⟩; rw [he] at hp; cases hp
theorem xP {name : String} {t : TypeId} {q : Nat × Option Nat} (hm : DY P name t = some q) {ρ : Ren} {h h' : H} {w : World} (r : Rel ρ h w) {v x : AV} {u : Value} (hu : VR ρ v u) {c c' : Nat} {l : Log} (e : Dw q.2 v c h = .ok x c' h' l) :
  c' = c /\ h' = h /\ ∃ y, VR ρ x y /\ ∀ k, (method (k + 1) t u name).run P w = .ok (q.1, y) w := by
 obtain ⟨i, hi, hm⟩ := ah hm; obtain ⟨m, hf, hm⟩ := ah hm; unfold IB at hm; split at hm
 . rename_i f hpath hfunc; split at hm
   . rename_i el hel; cases hm; obtain ⟨rfl, rfl, rfl, _⟩ := aS (show M.pure v c h = .ok x c' h' l from e); refine ⟨rfl, rfl, u, hu, λ k => ?_⟩; simp [method, da hi, hf, hpath, hfunc, follow, receiverAt, aB hel, Place.get, Result.andThen]
   . cases hm
 . rename_i s f hpath hfunc; obtain ⟨hd, hm⟩ := dP hm; obtain ⟨fd, hfd, hm⟩ := ah hm; obtain ⟨off, hoff, hm⟩ := ah hm; cases hm; obtain ⟨fs, hs1, hs2⟩ := kY hfd; obtain ⟨rfl, hnp, ha, n, hn, hn0⟩ := tT hoff; obtain ⟨p, hp, e⟩ := gN (show onPtr fail (ifS fail λ a => load1 a.1 (a.2 + fd.offset)) v c h = .ok x c' h' l from e); obtain ⟨p, rfl, e⟩ := bW e; subst hp; obtain ⟨a1, a2⟩ := p; obtain ⟨d, hd1, hd2⟩ := ah ha; simp only [VR] at hu; obtain ⟨b, z, hb, rfl⟩ := hu; obtain ⟨rfl, rfl, b', i', y, h1, h2, h3⟩ := lK (v := .ptr (some (a1, a2 + fd.offset))) r e (u := .pointer (some ⟨b, a2 + fd.offset, none⟩)) (by simp only [VR]; exact ⟨b, z, hb, rfl⟩); cases h1; refine ⟨rfl, rfl, y, h3, λ k => ?_⟩; have hadd : (⟨b, a2, none⟩ : Addr).add fd.offset = ⟨b, a2 + fd.offset, none⟩ := addr_add b a2 fd.offset; have hload : (loadVar fd.type ⟨b, a2 + fd.offset, none⟩).run P w = .ok y w := (by simp [loadVar, fI ha, h2]); have hplace : (fieldPlace ⟨b, a2, none⟩ fd).run P w = .ok ⟨b, a2 + fd.offset, none⟩ w := (by simp [fieldPlace, cH hn, hn0, hadd]); have hrecv : ∀ o : Option String, (receiverAt fd.type (.var ⟨b, a2 + fd.offset, none⟩) false o).run P w = .ok y w := λ o => by
    unfold receiverAt; simp only [Sem.run_bind, aB hd1, Result.andThen]; cases d <;> first | exact absurd hd1 (hnp _) | exact hload
   simp [method, da hi, hf, hpath, hfunc, follow, hd, aB hs1, hs2, Place.get, asAddr, hplace, hrecv, Result.andThen]
 . cases hm
theorem BK {f : Operand} {args : Array Operand} {ts : Array TypeId} {name : String} {f' : Opd} {l' : List Opd} (ho : o.op = .call { callee := .invoke f name, args, argTypes := ts }) (kf : aW f = some f') (kl : iD args.toList = some l') : bd P o (oZ (DY P name) f' l') := by
 intro call hcall e c h v c' h' l he ρ w a hr hE hf next Q hn; obtain ⟨t, x, hg, he⟩ := yj he; obtain ⟨q, hq, he⟩ := bW he; obtain ⟨r, c1, h1, l1, l2, e1, e2, rfl⟩ := dy he; have hx := aO hE kf; rw [hg] at hx; simp only [VR] at hx; obtain ⟨u, hv, hu⟩ := hx; obtain ⟨rfl, rfl, y, hy, hrm⟩ := xP hq hr hu e1; have hargs := lf hE kl; obtain ⟨hent, hc⟩ := hcall q.1 _ _ _ v c' h' l2 e2
 have hc := hc ρ w (#[y] ++ args.map a.eval) hr (by
  simp only [Array.toList_append, Array.toList_map]; exact VRs.cons hy hargs) hf
 obtain ⟨k, hk⟩ : ∃ k, P.types.size + Made.depth = k + 1 := ⟨P.types.size + (Made.depth - 1), by unfold Made.depth; omega⟩; have hcm : (callMethod (.iface t u) name (args.map a.eval)).run P w = .ok (.enter q.1 (#[y] ++ args.map a.eval)) w := by
  simp only [callMethod, Sem.run_bind, run_program, Result.andThen, hk, hrm, hent]
 have h0 : (#[Value.iface t u] ++ args.map a.eval)[0]? = some (.iface t u) := (by rw [Array.getElem?_append_left (by simp)]; rfl); have h1 : (#[Value.iface t u] ++ args.map a.eval).extract 1 (#[Value.iface t u] ++ args.map a.eval).size = args.map a.eval := by
  apply Array.ext'; rw [Array.toList_extract]; simp [List.extract]; exact List.take_of_length_le (by simp)
 have hrun : (execOp a.eval o).run P w = .ok (.enter q.1 (#[y] ++ args.map a.eval)) w := by
  simp only [execOp, ho, resolve, Sem.run_bind, Sem.run_pure, Result.andThen, hv, invoke, h0, h1, hcm]
 unfold Oper.wp; rw [hrun, Oper.upon_enter]; refine Calls.mono hc λ e' w' hR => ?_; obtain ⟨v', ρ', rfl, hV, hp⟩ := hR; exact hn v' ρ' w' hV hp
theorem r8 {x : Operand} {y : Opd} {s t : TypeId} {z : Option AV} {ok : Bool} (hop : o.op = .typeAssert x s t ok) (kx : aW x = some y) (hp : nE P t = true) (hz : (ok = false /\ z = none) ∨ ok = true /\ ∃ z', z = some z' /\ cX P t = some z') : bd P o (gv t z y) := by
 have hd : ∃ d, P.underlying t = some d /\ ∀ m, d ≠ .interface m := by
  unfold nE at hp; split at hp
  . cases hp
  . rename_i d hn hd; exact ⟨d, hd, λ m e => hn m e⟩
  . cases hp
 obtain ⟨d, hd, hni⟩ := hd; have hoff : ∀ (c c' : Nat) (h h' : H) (l : Log) (v : AV), yk z c h = .ok v c' h' l -> c' = c /\ h' = h /\ ok = true /\ ∃ z', cX P t = some z' /\ v = .tuple [z', .bool false] := by
  intro c c' h h' l v he; obtain ⟨z1, rfl, he⟩ := bW (show ifS fail (λ z => M.pure (.tuple [z, .bool false])) z c h = .ok v c' h' l from he); obtain ⟨rfl, rfl, rfl, _⟩ := aS he; rcases hz with ⟨_, h2⟩ | ⟨h1, z', h2, h3⟩
  . cases h2
  . cases h2; exact ⟨rfl, rfl, h1, z1, h3, rfl⟩
 refine bd.of_val λ call e c h v c' h' l he => ?_; have he : onIface fail (yk z) (λ u v => ifB (Nat.beq u t) (M.pure (ifS v (λ _ => .tuple [v, .bool true]) z)) (yk z)) (ev e y) c h = .ok v c' h' l := he; have two : ∀ {ρ : Ren} {a b : AV} {u : Value} {q : Bool}, VR ρ a u -> b = .bool q -> VR ρ (.tuple [a, b]) (.tuple #[u, .bool q]) := λ h1 h2 => by
  subst h2; simp only [VR]; exact ⟨_, rfl, VRs.cons h1 (VRs.cons (by simp only [VR]) (VRs.nil _))⟩
 cases hy : ev e y with
 | iface u q =>
   rw [hy] at he; have he : ifB (Nat.beq u t) (M.pure (ifS q (λ _ => .tuple [q, .bool true]) z)) (yk z) c h = .ok v c' h' l := he; cases hb : Nat.beq u t with
   | true =>
     rw [hb] at he; obtain ⟨rfl, rfl, rfl, _⟩ := aS (show M.pure (ifS q (λ _ => .tuple [q, .bool true]) z) c h = .ok v c' h' l from he); refine ⟨rfl, rfl, λ ρ w a hr hE => ?_⟩; have hx := aO hE kx; rw [hy] at hx; simp only [VR] at hx; obtain ⟨w', hv, hu⟩ := hx; obtain rfl := Nat.eq_of_beq_eq_true hb; rcases hz with ⟨rfl, rfl⟩ | ⟨rfl, z', rfl, _⟩
     . refine ⟨w', ?_, hu⟩; simp only [execOp, hop]; refine bF ?_; simp only [Instr.typeAssert, Sem.run_bind, aB hd, Result.andThen, hv]; cases d <;> first | exact absurd rfl (hni _) | simp
     . refine ⟨.tuple #[w', .bool true], ?_, two hu rfl⟩; simp only [execOp, hop]; refine bF ?_; simp only [Instr.typeAssert, Sem.run_bind, aB hd, Result.andThen, hv]; cases d <;> first | exact absurd rfl (hni _) | simp
   | false =>
     rw [hb] at he; obtain ⟨rfl, rfl, rfl, z', hz', rfl⟩ := hoff c c' h h' l v he; refine ⟨rfl, rfl, λ ρ w a hr hE => ?_⟩; have hx := aO hE kx; rw [hy] at hx; simp only [VR] at hx; obtain ⟨w', hv, hu⟩ := hx; obtain ⟨q', h1, h2, _⟩ := jQ (w := w) hz' ρ; have hne : ¬ u = t := λ e => by subst e; simp at hb
     refine ⟨.tuple #[q', .bool false], ?_, two h2 rfl⟩; simp only [execOp, hop]; refine bF ?_; simp only [Instr.typeAssert, Sem.run_bind, aB hd, Result.andThen, hv]; cases d <;> first | exact absurd rfl (hni _) | simp [hne, h1, Result.andThen]
 | nilIface =>
   rw [hy] at he; obtain ⟨rfl, rfl, rfl, z', hz', rfl⟩ := hoff c c' h h' l v he; refine ⟨rfl, rfl, λ ρ w a hr hE => ?_⟩; have hx := aO hE kx; rw [hy] at hx; simp only [VR] at hx; obtain ⟨q', h1, h2, _⟩ := jQ (w := w) hz' ρ; refine ⟨.tuple #[q', .bool false], ?_, two h2 rfl⟩; simp only [execOp, hop]; refine bF ?_; simp only [Instr.typeAssert, Sem.run_bind, aB hd, Result.andThen, hx]; cases d <;> first | exact absurd rfl (hni _) | simp [h1, Result.andThen]
 | _ => rw [hy] at he; cases he
end
section
variable {P : Program} {o : Oper}
theorem Gl {sT eT el : TypeId} {n : Nat} {x y : Operand} {x' y' : Opd} (ho : o.op = .call { callee := .builtin .copy, args := #[x, y], argTypes := #[sT, eT] }) (kx : aW x = some x') (ky : aW y = some y')
  (hs : P.underlying sT = some (.slice el)) (hn : cG P el = some n) : bd P o (An n x' y') := by
 refine bd.of_run λ call E C h v c' h' l hk ρ w a hr hE _ => ?_; obtain ⟨p, m, c, z, hp, hk⟩ := eU hk; obtain ⟨hz, hk⟩ := dO hk; obtain ⟨r, c1, h1, l1, l2, e1, e2, _⟩ := dy hk; obtain ⟨hle, e2⟩ := dO e2; have hle := Nat.le_of_ble_eq_true hle; obtain ⟨u, e3, rfl⟩ := cS e2; have hx := aO hE kx; have hy := aO hE ky; obtain ⟨rfl, rfl, hlen, hlr, arr, hv, hrun⟩ := uH (P := P) e1 hr hy; rw [hp] at hx; have hmin : Nat.min r.2 m = r.2 := Nat.min_eq_left hle; cases p with
 | none =>
   obtain ⟨_, rfl, rfl, _⟩ := aS (show M.pure () c1 h1 = _ from e3); simp only [VR] at hx; refine ⟨goInt r.2, ρ, w, cy ho (λ _ => rfl) ?_, VR.int64 ρ _, Post.refl hr⟩; simp [Builtin.copy_, aB hs, hx, hlen, hmin, cH hn, hrun w rfl]
 | some p =>
   simp only [VR] at hx; obtain ⟨b, s, o', k', g1, g2, g3, g4, g5, g6, _⟩ := hx; obtain ⟨rfl, w', g8, g9⟩ := hr.run_store (P := P) (show storeN p.1 p.2 r.1 c1 h1 = _ from e3) hv g1; refine ⟨goInt r.2, ρ, w', cy ho (λ _ => rfl) ?_, VR.int64 ρ _, g9⟩; have hst : (storeCells ⟨b, o', none⟩ arr.toList).run P w = .ok () w' := by
    rcases g5 with g5 | g5
    . have h0 : r.2 = 0 := by omega
      have : arr.toList = [] := by
       apply List.length_eq_zero_iff.1; rw [hv.length, hlr, h0, Nat.zero_mul]
      rw [this] at g8 ⊢; rw [jM] at g8 ⊢; exact g8
    . rw [g5]; exact g8
   simp [Builtin.copy_, aB hs, g2, hlen, hmin, cH hn, hrun w rfl, hst]
theorem AP {f : FK} {d : TypeDesc} (hd : qy f d) {ρ : Ren} {p z : AV} {u zv : Value} (hu : VR ρ p u) (hz : VR ρ z zv) {clock : Nat} : ∀ (es : List (AV × AV × Nat)) (l : List MapEntry) (i : Nat) (r : (List (AV × AV × Nat) × Nat) × AV × Nat), ERs ρ es l -> Jw f p z clock es = some r ->
  (Instr.findNow d u l i = some none /\ r.1.2 = clock + 1 /\ r.2 = (z, clock) /\ ERs ρ r.1.1 (l ++ [{ key := u, val := zv, born := clock }])) ∨
  (∃ j v e, Instr.findNow d u l i = some (some (i + j, v)) /\ r.1.2 = clock /\ l[j]? = some e /\ Instr.sameBits 10000 e.key u = true /\ VR ρ r.2.1 v /\ r.2.2 = e.born /\ ERs ρ r.1.1 (l.modify j λ e => { e with key := u }))
 | [], l, i, r, hl, hr => by
   cases hr
   have hl : l = [] := hl
   subst hl
   exact .inl ⟨rfl, rfl, rfl, _, _, rfl, hu, hz, rfl, rfl⟩
 | q :: es, l, i, r, hl, hr => by
   obtain ⟨e, t, rfl, h1, h2, h3, h4⟩ := hl
   obtain ⟨b, hb, hr⟩ := ah (show ifS none (λ b => ifB b (some (((p, q.2.1, q.2.2) :: es, clock), q.2.1, q.2.2)) (ifS none (λ y => some ((q :: y.1.1, y.1.2), y.2)) (Jw f p z clock es))) (fK f p q.1) = some r from hr)
   obtain ⟨hs, hbits⟩ := lA hd hb hu h1
   cases b with
   | true =>
     cases hr
     exact .inr ⟨0, e.val, e, by simp only [Instr.findNow, hs, Nat.add_zero], rfl, rfl, hbits rfl, h2, h3.symm, _, _, rfl, hu, h2, h3, h4⟩
   | false =>
     obtain ⟨y, hy, hr⟩ := ah hr
     cases hr
     rcases AP hd hu hz es t (i + 1) y h4 hy with ⟨k1, k2, k3, k4⟩ | ⟨j, v, e', k1, k2, k3, k4, k5, k6, k7⟩
     . exact .inl ⟨by simp only [Instr.findNow, hs]; exact k1, k2, k3, e, _, rfl, h1, h2, h3, k4⟩
     . refine .inr ⟨j + 1, v, e', ?_, k2, by simpa using k3, k4, k5, k6, e, _, by simp, h1, h2, h3, k7⟩
       simp only [Instr.findNow, hs]
       rw [k1, show i + 1 + j = i + (j + 1) by omega]
theorem vq {t : TypeId} {x i : Operand} {x' i' : Opd} {q : TypeId × TypeId} {f : FK} {z : AV} (ho : o.op = .mapEntry t x i) (kx : aW x = some x') (ki : aW i = some i') (hq : tK P t = some q) (hf : fkO P q.1 = some f) (hz : cX P q.2 = some z) : bd P o (kR f z x' i') := by
 refine bd.of_run λ call E c h v c' h' l he ρ w a hr hE _ => ?_; obtain ⟨m, hm, he⟩ := jX he; obtain ⟨n, rfl, he⟩ := bW he; obtain ⟨r, c1, H1, l1, l2, e1, e2, _⟩ := dy he; obtain ⟨g1, rfl, rfl, _⟩ := gH e1; obtain ⟨res, hres, e2⟩ := bW e2; obtain ⟨u, e3, rfl⟩ := cS e2; obtain ⟨rfl, rfl, _, _⟩ := kK e3; have hx := aO hE kx; have hi := aO hE ki; have hu := tJ hq; obtain ⟨d, hd, hfit⟩ := nT hf; obtain ⟨zv, hzrun, hzV, _⟩ := jQ (w := w) hz ρ; rw [hm] at hx; simp only [VR] at hx; obtain ⟨b, s, h1, h2⟩ := hx; obtain ⟨b', s', m, g2, g3, g4⟩ := gS hr g1; rw [h1] at g2; cases g2; have hg2 : (getObj b).run P w = .ok (.map m r.2) w := (by simp [getObj, Sem.run, g3]); have hset : ∀ ob : Obj, (setObj b ob).run P w = .ok () { w with heap := w.heap.setIfInBounds b ob } := λ ob => by simp [setObj, Sem.run, g3]
 rcases AP hfit hi hzV r.1 m.toList 0 res g4 hres with ⟨k1, k2, k3, k4⟩ | ⟨j, y, e, k1, k2, k3, k4, k5, k6, k7⟩
 . obtain ⟨b2, s2, a2, f1, f2, f3, f4⟩ := hr.setMap (c := c') (k' := res.1.2) (a' := m.push { key := a.eval i, val := zv, born := r.2 }) g1 (by simpa using k4); rw [h1] at f1; cases f1; refine ⟨.tuple #[zv, goInt r.2], ρ, _, ?_, ?_, f4⟩
   . simp only [execOp, ho]; refine bF ?_; simp only [Instr.mapEntry, Sem.run_bind, aB hu, Result.andThen, h2, hg2, dL hf, ec hd k1, hzrun, hset, k2, Sem.run_pure]
   . rw [k3]; simp only [VR]; exact ⟨_, rfl, VRs.cons hzV (VRs.cons (VR.int64 ρ _) (VRs.nil ρ))⟩
 . obtain ⟨b2, s2, a2, f1, f2, f3, f4⟩ := hr.setMap (c := c') (k' := res.1.2) (a' := m.modify j λ e => { e with key := a.eval i }) g1 (by simpa using k7); rw [h1] at f1; cases f1; rw [Nat.zero_add] at k1; rw [Array.getElem?_toList] at k3; have hkey2 : (Instr.keyThatStays e.key (a.eval i)).run P w = .ok (a.eval i) w := (by simp [Instr.keyThatStays, k4]); refine ⟨.tuple #[y, goInt e.born], ρ, _, ?_, ?_, f4⟩
   . simp only [execOp, ho]; refine bF ?_; simp only [Instr.mapEntry, Sem.run_bind, aB hu, Result.andThen, h2, hg2, dL hf, ec hd k1, hset, k2, Sem.run_pure, k3, Option.map_some, Option.getD_some, hkey2]
   . simp only [VR]; exact ⟨_, rfl, VRs.cons k5 (VRs.cons (by rw [k6]; exact VR.int64 ρ _) (VRs.nil ρ))⟩
theorem z8 {ρ : Ren} {b : Nat} {x : AV} {y : Value} (hy : VR ρ x y) : ∀ (es : List (AV × AV × Nat)) (l : List MapEntry) (q : List (AV × AV × Nat)), ERs ρ es l -> Ge b x es = some q ->
  ∃ i, l.findIdx? (λ e => (e.born : Int) == (b : Int)) = some i /\ ERs ρ q (l.modify i λ e => { e with val := y })
 | [], _, _, _, h => by cases h
 | a :: es, l, q, hl, h => by
   obtain ⟨e, t, rfl, h1, h2, h3, h4⟩ := hl
   have h : ifB (Nat.beq a.2.2 b) (some ((a.1, x, a.2.2) :: es)) (ifS none (λ q => some (a :: q)) (Ge b x es)) = some q := h
   cases hb : Nat.beq a.2.2 b with
   | true =>
     rw [hb] at h
     cases h
     have hb := Nat.eq_of_beq_eq_true hb
     exact ⟨0, by rw [List.findIdx?_cons]; simp [h3, hb], _, _, rfl, h1, hy, h3, h4⟩
   | false =>
     rw [hb, eA] at h
     obtain ⟨q', h5, h⟩ := ah h
     cases h
     obtain ⟨i, h6, h7⟩ := z8 hy es t q' h4 h5
     have hne : a.2.2 ≠ b := λ e => by rw [e] at hb; simp at hb
     exact ⟨i + 1, by rw [List.findIdx?_cons, h6]; simp [h3]; omega, e, _, by simp, h1, h2, h3, h7⟩
theorem rh {t : TypeId} {x i y : Operand} {x' i' y' : Opd} (ho : o.op = .entryStore t x i y) (kx : aW x = some x') (ki : aW i = some i') (ky : aW y = some y') : bd P o (ia x' i' y') := by
 refine bd.of_skip λ call E c h v c' h' l he => ?_; obtain ⟨m, hm, he⟩ := jX he; obtain ⟨n, rfl, he⟩ := bW he; obtain ⟨bn, hbn, he⟩ := bW (show ifS fail (λ b => M.bind (getMap n) λ r => ifS fail (λ q => M.map (λ _ => undefA) (setMap n (q, r.2))) (Ge b (ev E y') r.1)) (asN (ev E i')) c h = _ from he); obtain ⟨r, c1, H1, l1, l2, e1, e2, _⟩ := dy he; obtain ⟨g1, rfl, rfl, _⟩ := gH e1; obtain ⟨res, hres, e2⟩ := bW e2; obtain ⟨u, e3, rfl⟩ := cS e2; obtain ⟨rfl, rfl, _, _⟩ := kK e3; refine ⟨rfl, λ ρ w a hr hE _ => ?_⟩; have hx := aO hE kx; obtain ⟨j1, hi⟩ := jy (aO hE ki) hbn; have hy := aO hE ky; rw [hm] at hx; simp only [VR] at hx; obtain ⟨b, s, h1, h2⟩ := hx; obtain ⟨b', s', m, g2, g3, g4⟩ := gS hr g1; rw [h1] at g2; cases g2; obtain ⟨k, k1, k2⟩ := z8 hy r.1 m.toList res g4 hres; obtain ⟨b2, s2, a2, f1, f2, f3, f4⟩ := hr.setMap (c := c') (k' := r.2) (a' := m.modify k λ e => { e with val := a.eval y }) g1 (by simpa using k2); rw [h1] at f1; cases f1; refine ⟨ρ, _, ?_, f4⟩; have hg2 : (getObj b).run P w = .ok (.map m r.2) w := (by simp [getObj, Sem.run, g3]); have hset : ∀ ob : Obj, (setObj b ob).run P w = .ok () { w with heap := w.heap.setIfInBounds b ob } := λ ob => by simp [setObj, Sem.run, g3]
 have hix : m.findIdx? (λ e => (e.born : Int) == (bn : Int)) = some k := (by rw [<- k1]; exact (show ∀ (m : Array MapEntry) (p : MapEntry -> Bool), m.findIdx? p = m.toList.findIdx? p from λ ⟨l⟩ p => by simp) m _); have hin : (asInt (a.eval i)).run P w = .ok (bn : Int) w := (by rw [hi]; rfl); simp only [execOp, ho, Instr.entryStore, Sem.run_bind, h2, hg2, hin, Result.andThen, hix, hset, Sem.run_pure]
end
section
variable {P : Program} {o : Oper} {f : Ev}
theorem dt {α : Type} {a : Array α} {l : List α} (h : a.toList = l) : a = l.toArray := by
 subst h; simp
theorem qQ {l : List Operand} {a : Opd} (h : iD l = some [a]) : ∃ x, l = [x] /\ aW x = some a := by
 cases l with
 | nil => cases h
 | cons x l =>
   obtain ⟨b, h1, h⟩ := ah (show ifS none (λ b => ifS none (λ r => some (b :: r)) (iD l)) (aW x) = some [a] from h); obtain ⟨r, h2, h⟩ := ah h; cases h; cases l with
   | nil => exact ⟨x, rfl, h1⟩
   | cons y l =>
     obtain ⟨b, _, h2⟩ := ah (show ifS none (λ b => ifS none (λ r => some (b :: r)) (iD l)) (aW y) = some [] from h2); obtain ⟨r, _, h2⟩ := ah h2; cases h2
theorem mY {l : List Operand} {a b : Opd} (h : iD l = some [a, b]) : ∃ x y, l = [x, y] /\ aW x = some a /\ aW y = some b := by
 cases l with
 | nil => cases h
 | cons x l =>
   obtain ⟨q, h1, h⟩ := ah (show ifS none (λ b => ifS none (λ r => some (b :: r)) (iD l)) (aW x) = some [a, b] from h); obtain ⟨r, h2, h⟩ := ah h; cases h; obtain ⟨y, rfl, h3⟩ := qQ h2; exact ⟨x, y, rfl, h1, h3⟩
theorem uc {b : Builtin} {args : Array Operand} {ts : Array TypeId} {l : List Opd} (ho : o.op = .call { callee := .builtin b, args, argTypes := ts }) (kl : iD args.toList = some l) (h : fM P b l ts.toList = some f) : bd P o f := by
 unfold fM at h; split at h
 . rename_i x' y' sT eT hts; obtain ⟨x, y, hl, kx, ky⟩ := mY kl; have hl := dt hl; have hts := dt hts; subst hl; subst hts; obtain ⟨el, he, h⟩ := ah h; obtain ⟨Z, hZ, h⟩ := ah h; obtain ⟨d, hd, h⟩ := ah h; split at h
   . cases h; exact yg ho kx ky (iT he) hd hZ
   . rename_i hn; cases h; exact BQ ho kx ky (iT he) hd (λ i e => hn i e) hZ
 . rename_i x' t hts; obtain ⟨x, hl, kx⟩ := qQ kl; have hl := dt hl; have hts := dt hts; subst hl; subst hts; unfold Ic at h; split at h
   . rename_i n e hu; cases h; exact r7 ho (.inl ⟨_, hu⟩)
   . rename_i p hu; split at h
     . rename_i n e hp; cases h; exact r7 ho (.inr ⟨_, _, hu, hp⟩)
     . cases h
   . rename_i hu; cases h; exact ya ho kx _ hu _ (.inl ⟨rfl, rfl⟩)
   . rename_i e hu; cases h; exact ya ho kx _ hu _ (.inr (.inl ⟨_, rfl, rfl⟩))
   . rename_i i e hu; cases h; exact ya ho kx _ hu _ (.inr (.inr ⟨_, _, rfl, rfl⟩))
   . cases h
 . rename_i x' t hts; obtain ⟨x, hl, kx⟩ := qQ kl; have hl := dt hl; have hts := dt hts; subst hl; subst hts; obtain ⟨el, he, h⟩ := ah h; cases h; exact I6 ho kx (iT he)
 . obtain ⟨x, y, hl, kx, ky⟩ := mY kl; have hl := dt hl; subst hl; cases h; exact rZ (b := false) ho kx ky
 . obtain ⟨x, y, hl, kx, ky⟩ := mY kl; have hl := dt hl; subst hl; cases h; exact rZ (b := true) ho kx ky
 . cases h
theorem wS {b : Builtin} {args : Array Operand} {ts : Array TypeId} {l : List Opd} (ho : o.op = .call { callee := .builtin b, args, argTypes := ts }) (kl : iD args.toList = some l) (h : gV P b l ts.toList = some f) : bd P o f := by
 unfold gV at h; split at h
 . unfold AW at h; split at h
   . rename_i x' y' sT eT hts; obtain ⟨x, y, hl, kx, ky⟩ := mY kl; have hl := dt hl; have hts := dt hts; subst hl; subst hts; obtain ⟨el, he, h⟩ := ah h; obtain ⟨n, hn, h⟩ := ah h; cases h; exact Gl ho kx ky (iT he) hn
   . cases h
 . exact uc ho kl h
theorem JD (h : cOp P o.op = some f) : bd P o f := by
 generalize hop : o.op = op at h; unfold cOp at h; split at h
 . obtain ⟨x', kx, h⟩ := ah h; cases h; exact Ae (.inl hop) kx
 . obtain ⟨x', kx, h⟩ := ah h; cases h; exact Ae (.inr hop) kx
 . obtain ⟨c', kc, h⟩ := ah h; obtain ⟨a', ka, h⟩ := ah h; obtain ⟨b', kb, h⟩ := ah h; cases h; exact Gj hop kc ka kb
 . obtain ⟨z, hz, h⟩ := ah h; cases h; exact DK hop hz
 . obtain ⟨x', kx, h⟩ := ah h; cases h; exact I7 hop kx
 . obtain ⟨z, hz, h⟩ := ah h; exact DJ hop hz h
 . obtain ⟨el, he, h⟩ := ah h; obtain ⟨z, hz, h⟩ := ah h; obtain ⟨hn, h⟩ := dP h; obtain ⟨l, hl, h⟩ := ah h; cases h; exact ri hop he hz (Nat.le_of_ble_eq_true hn) hl
 . obtain ⟨a', ka, h⟩ := ah h; obtain ⟨b, hb, h⟩ := ah h; cases b with
   | true =>
     obtain ⟨n, hn, h⟩ := ah (show ifS none (λ n => some (lG n a')) _ = some f from h); cases h; exact DE hop ka hb hn
   | false => cases h; exact DF hop ka hb
 . obtain ⟨a', ka, h⟩ := ah h; obtain ⟨x', kx, h⟩ := ah h; obtain ⟨n, hn, h⟩ := ah h; cases h; exact DD hop ka kx hn
 . obtain ⟨x', kx, h⟩ := ah h; cases h; exact vp hop kx
 . obtain ⟨a', ka, h⟩ := ah h; obtain ⟨b', kb, h⟩ := ah h; exact Gp hop ka kb h
 . obtain ⟨x', kx, h⟩ := ah h; cases h; exact I3 hop kx
 . obtain ⟨x', kx, h⟩ := ah h; cases h; exact I4 hop kx
 . obtain ⟨x', kx, h⟩ := ah h; obtain ⟨d1, h1, h⟩ := ah h; obtain ⟨d2, h2, h⟩ := ah h; unfold ub at h; split at h
   . rename_i e; split at h
     . rename_i hu; cases h; exact vn hop kx h1 h2 hu
     . cases h
   . unfold AX at h; split at h
     . cases h; exact Gm hop kx h1 h2
     . cases h; exact I5 hop kx h1 h2
     . cases h; exact DH hop kx h1 h2
     . cases h
 . obtain ⟨x', kx, h⟩ := ah h; obtain ⟨hp, h⟩ := dP h; cases h; exact DG hop kx hp
 . obtain ⟨a', ka, h⟩ := ah h; obtain ⟨b', kb, h⟩ := ah h; cases h; exact Gk hop ka kb
 . cases h; exact x9 hop
 . obtain ⟨el, he, h⟩ := ah h; obtain ⟨z, hz, h⟩ := ah h; obtain ⟨l', kl, h⟩ := ah h; obtain ⟨c', kc, h⟩ := ah h; cases h; exact tp hop he hz kl kc
 . obtain ⟨x', kx, h⟩ := ah h; obtain ⟨lo', kl, h⟩ := ah h; obtain ⟨hi', kh, h⟩ := ah h; unfold t8 at h; split at h
   . rename_i hu; cases h; exact vo hop kx kl kh hu
   . rename_i el hu; obtain ⟨n, hn, h⟩ := ah h; cases h; exact x8 hop kx kl kh hu hn
   . cases h
 . obtain ⟨x', kx, h⟩ := ah h; obtain ⟨fd, hf, h⟩ := ah h; obtain ⟨n, hn, h⟩ := ah h; obtain ⟨h0, h⟩ := gR h; cases h; exact tq hop kx hf hn λ e => by subst e; cases h0
 . obtain ⟨x', kx, h⟩ := ah h; obtain ⟨fd, hf, h⟩ := ah h; obtain ⟨b, hb, h⟩ := ah h; cases b with
   | true =>
     obtain ⟨n, hn, h⟩ := ah (show ifS none (λ n => some (jd fd.offset n x')) _ = some f from h); cases h; exact BL hop kx hf hb hn
   | false => cases h; exact BO hop kx hf hb
 . obtain ⟨x', kx, h⟩ := ah h; obtain ⟨i', ki, h⟩ := ah h; unfold ju at h; split at h
   . rename_i n el hu; obtain ⟨z, hz, h⟩ := ah h; cases h; exact ye hop kx ki hu hz
   . rename_i el hu; obtain ⟨z, hz, h⟩ := ah h; cases h; exact yb hop kx ki hu hz
   . cases h
 . obtain ⟨x', kx, h⟩ := ah h; obtain ⟨i', ki, h⟩ := ah h; unfold ua at h; split at h
   . rename_i n el hu; obtain ⟨z, hz, h⟩ := ah h; obtain ⟨b, hb, h⟩ := ah h; cases h; exact vr hop kx ki hu hz hb
   . rename_i hu; cases h; exact vt hop kx ki hu
   . cases h
 . obtain ⟨m', km, h⟩ := ah h; obtain ⟨k', kk, h⟩ := ah h; obtain ⟨q, hq, h⟩ := ah h; obtain ⟨fk, hf, h⟩ := ah h; obtain ⟨z, hz, h⟩ := ah h; cases h; exact BJ hop km kk hq hf hz
 . obtain ⟨m', km, h⟩ := ah h; obtain ⟨k', kk, h⟩ := ah h; obtain ⟨x', kx, h⟩ := ah h; obtain ⟨q, hq, h⟩ := ah h; obtain ⟨fk, hf, h⟩ := ah h; cases h; exact mw (.inl hop) km kk kx hq hf
 . obtain ⟨m', km, h⟩ := ah h; obtain ⟨k', kk, h⟩ := ah h; obtain ⟨x', kx, h⟩ := ah h; obtain ⟨q, hq, h⟩ := ah h; obtain ⟨fk, hf, h⟩ := ah h; cases h; exact mw (.inr hop) km kk kx hq hf
 . obtain ⟨m', km, h⟩ := ah h; obtain ⟨k', kk, h⟩ := ah h; obtain ⟨q, hq, h⟩ := ah h; obtain ⟨g, hg, h⟩ := ah h; obtain ⟨z, hz, h⟩ := ah h; cases h; exact vq hop km kk hq hg hz
 . obtain ⟨m', km, h⟩ := ah h; obtain ⟨s', ks, h⟩ := ah h; obtain ⟨x', kx, h⟩ := ah h; cases h; exact rh hop km ks kx
 . obtain ⟨x', kx, h⟩ := ah h; cases h; exact yf hop kx
 . rename_i c; obtain ⟨l, kl, h⟩ := ah h; obtain ⟨callee, args, ts⟩ := c; unfold AY at h; split at h
   . rename_i g hc; obtain ⟨g', kg, h⟩ := ah h; cases h; cases hc; exact Gn hop kg kl
   . rename_i b hc; cases hc; exact wS hop kl h
   . rename_i x name hc; obtain ⟨x', kx, h⟩ := ah h; cases h; cases hc; exact BK hop kx kl
 . rename_i t ok; obtain ⟨x', kx, h⟩ := ah h; obtain ⟨hp, h⟩ := dP h; cases ok with
   | true =>
     obtain ⟨z, hz, h⟩ := ah (show ifS none (λ z => some (gv t (some z) x')) (cX P t) = some f from h); cases h; exact r8 hop kx hp (.inr ⟨rfl, z, rfl, hz⟩)
   | false =>
     cases h; exact r8 hop kx hp (.inl ⟨rfl, rfl⟩)
 . cases h
end
def DR (ρ : Ren) : List (Nat × List AV) -> List Deferred -> Prop
 | [], l => l = []
 | q :: x, l => ∃ d r c, l = d :: r /\ d.target = .fn (.func q.1) c /\ VRs ρ q.2 (d.args.toList ++ c.toList) /\ DR ρ x r
theorem DR.mono {ρ σ : Ren} (h : Ren.le ρ σ) : ∀ (x : List (Nat × List AV)) (l : List Deferred), DR ρ x l -> DR σ x l
 | [], _, e => e
 | _ :: x, _, ⟨d, r, c, h1, h2, h3, h4⟩ => ⟨d, r, c, h1, h2, VRs.mono h _ _ h3, DR.mono h x r h4⟩
structure StR (ρ : Ren) (n : Nat) (s : St) (a : Act) : Prop where
 env : ER ρ s.env a.tmps
 room : n <= a.tmps.size
 defers : DR ρ s.defers a.defers
theorem StR.mono {ρ σ : Ren} (h : Ren.le ρ σ) {n : Nat} {s : St} {a : Act} (k : StR ρ n s a) : StR σ n s a := ⟨k.env.mono h, k.room, DR.mono h _ _ k.defers⟩
theorem tX (u : Nat) (v : AV) (e : Env) (t : Nat) : (Env.put u v e).get t = if t = u then v else e.get t := by
 show Bool.rec (motive := λ _ => AV) (e.get t) v (Nat.beq u t) = _; cases h : Nat.beq u t with
 | true => rw [if_pos (Nat.eq_of_beq_eq_true h).symm]
 | false => rw [if_neg λ q => by subst q; simp at h]
theorem StR.put {ρ : Ren} {n : Nat} {s : St} {a : Act} (k : StR ρ n s a) {d : Option Nat} (hd : sI n d = true) {v : AV} {u : Value} (hv : VR ρ v u) : StR ρ n (putE d v s) (a.put d u) := by
 cases d with
 | none => exact k
 | some d =>
   have hlt : d < n := by
    have : Nat.blt d n = true := hd; rw [eD] at this; exact of_decide_eq_true this
   have hr := k.room; refine ⟨λ t => ?_, by simpa [Act.put] using k.room, k.defers⟩; show VR ρ ((Env.put d v s.env).get t) _; rw [tX]; by_cases ht : t = d
   . rw [if_pos ht]; subst ht; have : (a.put (some t) u).tmps.getD t undef = u := by
      simp only [Act.put, Array.getD_eq_getD_getElem?, Array.getElem?_setIfInBounds_self]; rw [if_pos zO]; rfl
     rw [this]; exact hv
   . rw [if_neg ht]; have : (a.put (some d) u).tmps.getD t undef = a.tmps.getD t undef := by
      simp only [Act.put, Array.getD_eq_getD_getElem?, Array.getElem?_setIfInBounds_ne (Ne.symm ht)]
     rw [this]; exact k.env t
theorem VR.bool_iff {ρ : Ren} {v : AV} {u : Value} (h : VR ρ v u) (b : Bool) : u = .bool b ↔ v = .bool b := by
 cases v with
 | bool c => simp only [VR] at h; subst h; simp
 | int k n => simp only [VR] at h; subst h; simp
 | str s => simp only [VR] at h; obtain ⟨_, rfl, _⟩ := h; simp
 | ptr a => cases a <;> simp only [VR] at h <;> (first | subst h | obtain ⟨_, _, _, rfl⟩ := h) <;> simp
 | slice a n c z => cases a <;> simp only [VR] at h <;> (first | subst h | obtain ⟨_, _, _, _, _, rfl, _⟩ := h) <;> simp
 | map a => cases a <;> simp only [VR] at h <;> (first | subst h | obtain ⟨_, _, _, rfl⟩ := h) <;> simp
 | fn f a c => simp only [VR] at h; obtain ⟨_, _, rfl, _⟩ := h; simp
 | nilFn => simp only [VR] at h; subst h; simp
 | iface t x => simp only [VR] at h; obtain ⟨_, rfl, _⟩ := h; simp
 | nilIface => simp only [VR] at h; subst h; simp
 | agg l => simp only [VR] at h; obtain ⟨_, rfl, _⟩ := h; simp
 | tuple l => simp only [VR] at h; obtain ⟨_, rfl, _⟩ := h; simp
section
variable {P : Program} {ops : Array Oper}
theorem sm {g : Option (Nat × Bool)} {q : Option (Nat × Bool)} (h : lO ops g = some q) : (g = none /\ q = none) ∨ ∃ j w o t, g = some (j, w) /\ ops[j]? = some o /\ o.dst = some t /\ q = some (t, w) := by
 cases g with
 | none => cases h; exact .inl ⟨rfl, rfl⟩
 | some g =>
   obtain ⟨o, ho, h⟩ := ah (show ifS none (λ o => ifS none (λ t => some (some (t, g.2))) o.dst) ops[g.1]? = some q from h); obtain ⟨t, ht, h⟩ := ah h; cases h; exact .inr ⟨g.1, g.2, o, t, rfl, ho, ht, rfl⟩
def gOn (q : Option (Nat × Bool)) (e : Env) : Bool := match q with
 | none => true
 | some q => isB q.2 (e.get q.1)
theorem Be {ρ : Ren} {e : Env} {tmps : Array Value} (hE : ER ρ e tmps) {o : Oper} {q : Option (Nat × Bool)} (h : lO ops o.guard = some q) :
  Region.wanted o (yielded ops tmps) = gOn q e := by
 rcases sm h with ⟨h1, rfl⟩ | ⟨j, w, o', t, h1, h2, h3, rfl⟩
 . simp [Region.wanted, h1, gOn]
 . simp only [Region.wanted, h1, gOn]; have hy : yielded ops tmps j = match tmps[t]? with | some (.bool b) => some b | _ => none := by
    simp [yielded, h2, h3]; rfl
   rw [hy]; have hV := hE t; cases hg : tmps[t]? with
   | none =>
     have hu : tmps.getD t undef = undef := (by simp [Array.getD_eq_getD_getElem?, hg]); rw [hu] at hV; have : ∀ b, e.get t ≠ .bool b := λ b hb => by
      have := (hV.bool_iff b).2 hb; cases this
     cases hv : e.get t <;> first | rfl | exact absurd hv (this _)
   | some u =>
     have hu : tmps.getD t undef = u := (by simp [Array.getD_eq_getD_getElem?, hg]); rw [hu] at hV; cases hv : e.get t with
     | bool b =>
       rw [(hV.bool_iff b).2 hv]; cases b <;> cases w <;> rfl
     | _ =>
       have : ∀ b, u ≠ .bool b := λ b hb => by
        have := (hV.bool_iff b).1 hb; rw [hv] at this; cases this
       cases u <;> first | rfl | exact absurd rfl (this _)
theorem CG {op : Op} {q : Opd × List Opd} (h : lS op = some q) : ∃ f args ts, op = .defer { callee := .value f, args, argTypes := ts } /\ aW f = some q.1 /\ iD args.toList = some q.2 := by
 unfold lS at h; split at h
 . rename_i c; obtain ⟨callee, args, ts⟩ := c; cases callee with
   | value f =>
     obtain ⟨f', kf, h⟩ := ah (show ifS none (λ f => ifS none (λ l => some (f, l)) (iD args.toList)) (aW f) = some q from h); obtain ⟨l, kl, h⟩ := ah h; cases h; exact ⟨f, args, ts, rfl, kf, kl⟩
   | _ => cases h
 . cases h
theorem Df {d : Option Nat} {g : Option (Nat × Bool)} {f : Ev} {call : Ctx} {s s' : St} {c c' : Nat} {h h' : H} {l : Log} (e : jN d g f call s c h = .ok s' c' h' l) :
  (gOn g s.env = true /\ ∃ v, f call s.env c h = .ok v c' h' l /\ s' = putE d v s) ∨
  (gOn g s.env = false /\ s' = putE d undefA s /\ c' = c /\ h' = h /\ l = []) := by
 cases g with
 | none =>
   obtain ⟨v, h1, h2⟩ := cS (show M.map (λ v => putE d v s) (f call s.env) c h = _ from e); exact .inl ⟨rfl, v, h1, h2⟩
 | some q =>
   have e : ifB (isB q.2 (s.env.get q.1)) (M.map (λ v => putE d v s) (f call s.env)) (M.pure (putE d undefA s)) c h = Rs.ok s' c' h' l := e; cases k : isB q.2 (s.env.get q.1) with
   | true =>
     rw [k] at e; obtain ⟨v, h1, h2⟩ := cS (show M.map (λ v => putE d v s) (f call s.env) c h = _ from e); exact .inl ⟨k, v, h1, h2⟩
   | false =>
     rw [k] at e; obtain ⟨h1, h2, h3, h4⟩ := aS (show M.pure (putE d undefA s) c h = _ from e); exact .inr ⟨k, h1, h2, h3, h4⟩
theorem uC {n i : Nat} {o : Oper} (hi : ops[i]? = some o) {call : Ctx} (hcall : kH P call) {s s' : St} {c c' : Nat} {h h' : H} {l : Log} (e : og call s (cIt P n ops o) c h = .ok s' c' h' l) {ρ : Ren} {w : World} {a : Act} (hr : Rel ρ h w) (hS : StR ρ n s a) (hf : lV ρ c c')
  {K : Act -> World -> Prop} {Q : Exit -> Act -> World -> Prop} (hk : ∀ a' w' ρ', StR ρ' n s' a' -> Post ρ h w c c' ρ' h' w' -> K a' w') : wpOp P ops Q i K a w := by
 unfold wpOp; simp only [hi]; unfold cIt at e; cases hd : sI n o.dst with
 | false => rw [hd] at e; cases e
 | true =>
   rw [hd, cI] at e; cases hq : lS o.op with
   | some q =>
     rw [hq, mN] at e; cases hg : o.guard with
     | some g => rw [hg] at e; cases e
     | none =>
       rw [hg] at e; obtain ⟨g, x, y, hv, e⟩ := Ah (show Iv o.dst q.1 q.2 s c h = _ from e); obtain ⟨rfl, rfl, rfl, _⟩ := aS e; obtain ⟨f, args, ts, hop, kf, kl⟩ := CG hq; have hx := aO hS.env kf; rw [hv] at hx; simp only [VR] at hx; obtain ⟨x', y', hx, h1, h2⟩ := hx; have hw : Region.wanted o (yielded ops a.tmps) = true := (by simp [Region.wanted, hg]); rw [if_pos hw]; left; have hrun : (execOp a.eval o).run P w = .ok (.defer { target := .fn (.func g) y', args := x' ++ args.map a.eval }) w := by
        simp only [execOp, hop, resolve, Deferred.ofValue, hx, Sem.run_bind, Sem.run_pure, Result.andThen]
       unfold Oper.wp; rw [hrun, Oper.upon_defer]; refine hk _ _ ρ ?_ (Post.refl hr); have base : StR ρ n ⟨s.env, (g, x ++ (evs s.env q.2 ++ y)) :: s.defers⟩ { a with defers := { target := .fn (.func g) y', args := x' ++ args.map a.eval } :: a.defers } := by
        refine ⟨hS.env, hS.room, _, _, y', rfl, rfl, ?_, hS.defers⟩; simp only [Array.toList_append, Array.toList_map, List.append_assoc]; exact h1.append ((lf hS.env kl).append h2)
       exact base.put hd (VR.undefA ρ)
   | none =>
     rw [hq, j6] at e; cases hg : lO ops o.guard with
     | none => rw [hg] at e; cases e
     | some g =>
       rw [hg, mN] at e; have hw := Be hS.env hg; rcases Df (show jN o.dst g (ifS DS (λ f => f) (cOp P o.op)) call s c h = _ from e) with ⟨h1, v, h2, rfl⟩ | ⟨h1, rfl, rfl, rfl, _⟩
       . rw [h1] at hw; rw [if_pos hw]; left; cases hc : cOp P o.op with
         | none => rw [hc] at h2; cases h2
         | some f =>
           rw [hc] at h2; exact JD hc call hcall _ _ _ _ _ _ _ h2 ρ w a hr hS.env hf _ _ λ v' ρ' w' hV hp => hk _ _ ρ' ((hS.mono (hp.le hf)).put hd hV) hp
       . rw [h1] at hw; rw [if_neg (by rw [hw]; exact Bool.false_ne_true)]; exact hk _ _ ρ (hS.put hd (VR.undefA ρ)) (Post.refl hr)
end
end Go.Sx
namespace Go.Sx
open Go.RowKit (zH zO zD zK zW zA zB zG)
def vw (h : H) (n : Nat) (x : Option Nat) : Option (AO ⊕ AV) :=
 match h.get n, x with
 | none, _ => none
 | some (.row _), none => some (.inl (.row []))
 | some (.row cs), some i => (cs[i]?).map .inr
 | some (.mp es k), _ => some (.inl (.mp es k))
theorem lX {h : H} {n : Nat} (e : h.get n = none) (x : Option Nat) : vw h n x = none := by unfold vw; rw [e]
theorem gL {g h : H} {n : Nat} (e : g.get n = h.get n) (x : Option Nat) : vw g n x = vw h n x := by unfold vw; rw [e]
theorem jK {h : H} {n : Nat} {cs : List AV} (e : h.get n = some (.row cs)) (i : Nat) : vw h n (some i) = (cs[i]?).map .inr := by unfold vw; rw [e]
theorem nw {h : H} {n : Nat} {cs : List AV} (e : h.get n = some (.row cs)) : vw h n none = some (.inl (.row [])) := by unfold vw; rw [e]
theorem lu {h : H} {n : Nat} {es : List (AV × AV × Nat)} {k : Nat} (e : h.get n = some (.mp es k)) (x : Option Nat) : vw h n x = some (.inl (.mp es k)) := by unfold vw; rw [e]
theorem xq {g h : H} {n : Nat} (e : ∀ x, vw g n x = vw h n x) : g.get n = h.get n := by
 have e0 := e none; cases hh : h.get n with
 | none =>
   rw [lX hh] at e0; cases hg : g.get n with
   | none => rfl
   | some o => cases o with
     | row cs => rw [nw hg] at e0; cases e0
     | mp es k => rw [lu hg] at e0; cases e0
 | some o =>
   cases o with
   | mp es k =>
     rw [lu hh] at e0; cases hg : g.get n with
     | none => rw [lX hg] at e0; cases e0
     | some o => cases o with
       | row cs => rw [nw hg] at e0; cases e0
       | mp es k => rw [lu hg] at e0; cases e0; rfl
   | row cs =>
     rw [nw hh] at e0; cases hg : g.get n with
     | none => rw [lX hg] at e0; cases e0
     | some o => cases o with
       | mp es k => rw [lu hg] at e0; cases e0
       | row ds =>
         have : ds = cs := by
          apply List.ext_getElem?; intro i; have := e (some i); rw [jK hg, jK hh] at this; cases h1 : ds[i]? <;> cases h2 : cs[i]? <;> rw [h1, h2] at this <;> first | rfl | (cases this; rfl) | cases this
         rw [this]
theorem zI {g : H} {n i : Nat} {v : AV} (e : vw g n (some i) = some (.inr v)) : ∃ cs, g.get n = some (.row cs) /\ cs[i]? = some v := by
 cases hg : g.get n with
 | none => rw [lX hg] at e; cases e
 | some o => cases o with
   | mp es k => rw [lu hg] at e; cases e
   | row cs =>
     rw [jK hg] at e; cases h1 : cs[i]? with
     | none => rw [h1] at e; cases e
     | some u => rw [h1] at e; cases e; exact ⟨cs, rfl, h1⟩
theorem C3 {g h : H} {n : Nat} {es : List (AV × AV × Nat)} {k : Nat} (hh : h.get n = some (.mp es k)) (e : vw g n none = vw h n none) : g.get n = some (.mp es k) := by
 rw [lu hh] at e; cases hg : g.get n with
 | none => rw [lX hg] at e; cases e
 | some o => cases o with
   | row cs => rw [nw hg] at e; cases e
   | mp es' k' => rw [lu hg] at e; cases e; rfl
def Tou (l : Log) (n : Nat) (x : Option Nat) : Prop := ∃ b, (n, none, b) ∈ l ∨ ∃ i, x = some i /\ (n, some i, b) ∈ l
def Wri (l : Log) (n : Nat) (x : Option Nat) : Prop := (n, none, true) ∈ l ∨ ∃ i, x = some i /\ (n, some i, true) ∈ l
theorem Wri.tou {l : Log} {n : Nat} {x : Option Nat} (h : Wri l n x) : Tou l n x := by
 rcases h with h | ⟨i, h1, h2⟩
 . exact ⟨true, .inl h⟩
 . exact ⟨true, .inr ⟨i, h1, h2⟩⟩
theorem Tou.left {l k : Log} {n : Nat} {x : Option Nat} (h : Tou l n x) : Tou (l ++ k) n x := by
 obtain ⟨b, h⟩ := h; rcases h with h | ⟨i, h1, h2⟩
 . exact ⟨b, .inl (List.mem_append_left _ h)⟩
 . exact ⟨b, .inr ⟨i, h1, List.mem_append_left _ h2⟩⟩
theorem Tou.right {l k : Log} {n : Nat} {x : Option Nat} (h : Tou k n x) : Tou (l ++ k) n x := by
 obtain ⟨b, h⟩ := h; rcases h with h | ⟨i, h1, h2⟩
 . exact ⟨b, .inl (List.mem_append_right _ h)⟩
 . exact ⟨b, .inr ⟨i, h1, List.mem_append_right _ h2⟩⟩
theorem Wri.append {l k : Log} {n : Nat} {x : Option Nat} : Wri (l ++ k) n x ↔ Wri l n x ∨ Wri k n x := by
 unfold Wri; constructor
 . rintro (h | ⟨i, h1, h2⟩)
   . rcases List.mem_append.1 h with h | h
     . exact .inl (.inl h)
     . exact .inr (.inl h)
   . rcases List.mem_append.1 h2 with h | h
     . exact .inl (.inr ⟨i, h1, h⟩)
     . exact .inr (.inr ⟨i, h1, h⟩)
 . rintro ((h | ⟨i, h1, h2⟩) | (h | ⟨i, h1, h2⟩))
   . exact .inl (List.mem_append_left _ h)
   . exact .inr ⟨i, h1, List.mem_append_left _ h2⟩
   . exact .inl (List.mem_append_right _ h)
   . exact .inr ⟨i, h1, List.mem_append_right _ h2⟩
def nZ (l : Log) (c c' n : Nat) (x : Option Nat) : Prop := (c <= n /\ n < c') ∨ Tou l n x
def eE (l : Log) (c c' n : Nat) (x : Option Nat) : Prop := (c <= n /\ n < c') ∨ Wri l n x
theorem eE.tou {l : Log} {c c' n : Nat} {x : Option Nat} (h : eE l c c' n x) : nZ l c c' n x := h.imp id Wri.tou
theorem iX {n c : Nat} (h : n < c) : Nat.blt n c = true := by rw [eD]; exact decide_eq_true h
structure oQ {α : Type} (m : M α) (c : Nat) (h : H) (a : α) (c' : Nat) (h' : H) (l : Log) : Prop where
 le : c <= c'
 low : ∀ q ∈ l, q.1 < c'
 stay : ∀ n x, ¬ eE l c c' n x -> vw h' n x = vw h n x
 carry : ∀ g, (∀ n x, nZ l c c' n x -> vw g n x = vw h n x) -> ∃ g', m c g = .ok a c' g' l /\ (∀ n x, eE l c c' n x -> vw g' n x = vw h' n x) /\ ∀ n x, ¬ eE l c c' n x -> vw g' n x = vw g n x
def Lo {α : Type} (m : M α) : Prop := ∀ c h a c' h' l, m c h = .ok a c' h' l -> oQ m c h a c' h' l
section
variable {α β : Type}
theorem Lo.pure (a : α) : Lo (M.pure a) := by
 intro c h b c' h' l e; obtain ⟨rfl, rfl, rfl, rfl⟩ := aS e; refine ⟨Nat.le_refl _, λ q hq => (by cases hq), λ n x _ => rfl, λ g _ => ⟨g, rfl, λ n x hw => ?_, λ n x _ => rfl⟩⟩; rcases hw with ⟨h1, h2⟩ | h | ⟨i, _, h⟩
 . omega
 . cases h
 . cases h
theorem Lo.fail : Lo (fail : M α) := λ _ _ _ _ _ _ e => by cases e
theorem GJ {f : α -> β} {m : M α} {c c' : Nat} {h h' : H} {a : α} {l : Log} (e : m c h = .ok a c' h' l) : M.map f m c h = .ok (f a) c' h' l := by
 show Rs.rec (motive := λ _ => Rs β) .fail (λ a c h l => .ok (f a) c h l) (m c h) = _; rw [e]
theorem Ff {m : M α} {k : α -> M β} {c c1 c2 : Nat} {h h1 h2 : H} {a : α} {b : β} {l1 l2 : Log} (e : m c h = .ok a c1 h1 l1) (f : k a c1 h1 = .ok b c2 h2 l2) : M.bind m k c h = .ok b c2 h2 (l1 ++ l2) := by
 show Rs.andThen k (m c h) = _; rw [e]; show Rs.rec (motive := λ _ => Rs β) .fail (λ b c h l2 => .ok b c h (List.append l1 l2)) (k a c1 h1) = _; rw [f]; rfl
theorem Lo.map {f : α -> β} {m : M α} (hm : Lo m) : Lo (M.map f m) := by
 intro c h b c' h' l e; obtain ⟨a, e2, rfl⟩ := cS e; obtain ⟨h1, h3, h4, h5⟩ := hm c h a c' h' l e2; refine ⟨h1, h3, h4, λ g hg => ?_⟩; obtain ⟨g', k1, k2⟩ := h5 g hg; exact ⟨g', GJ k1, k2⟩
theorem Lo.bind {m : M α} {k : α -> M β} (hm : Lo m) (hk : ∀ a, Lo (k a)) : Lo (M.bind m k) := by
 intro c h b c2 h2 l e; obtain ⟨a, c1, h1, l1, l2, e1, e2, rfl⟩ := dy e; obtain ⟨p1, p3, p4, p5⟩ := hm c h a c1 h1 l1 e1; obtain ⟨q1, q3, q4, q5⟩ := hk a c1 h1 b c2 h2 l2 e2; have hW : ∀ n x, eE (l1 ++ l2) c c2 n x ↔ eE l1 c c1 n x ∨ eE l2 c1 c2 n x := λ n x => by
  unfold eE; rw [Wri.append]; constructor
  . rintro (⟨h1, h2⟩ | h | h)
    . rcases Nat.lt_or_ge n c1 with hh | hh
      . exact .inl (.inl ⟨h1, hh⟩)
      . exact .inr (.inl ⟨hh, h2⟩)
    . exact .inl (.inr h)
    . exact .inr (.inr h)
  . rintro ((⟨h1, h2⟩ | h) | (⟨h1, h2⟩ | h))
    . exact .inl ⟨h1, by omega⟩
    . exact .inr (.inl h)
    . exact .inl ⟨by omega, h2⟩
    . exact .inr (.inr h)
 have hT1 : ∀ n x, nZ l1 c c1 n x -> nZ (l1 ++ l2) c c2 n x := λ n x h => by
  rcases h with ⟨h1, h2⟩ | h
  . exact .inl ⟨h1, by omega⟩
  . exact .inr h.left
 have hT2 : ∀ n x, nZ l2 c1 c2 n x -> nZ (l1 ++ l2) c c2 n x := λ n x h => by
  rcases h with ⟨h1, h2⟩ | h
  . exact .inl ⟨by omega, h2⟩
  . exact .inr h.right
 refine ⟨Nat.le_trans p1 q1, λ q hq => ?_, λ n x hn => ?_, λ g hg => ?_⟩
 . rcases List.mem_append.1 hq with hq | hq
   . exact Nat.lt_of_lt_of_le (p3 q hq) q1
   . exact q3 q hq
 . rw [q4 n x λ h => hn ((hW n x).2 (.inr h)), p4 n x λ h => hn ((hW n x).2 (.inl h))]
 . obtain ⟨g1, k1, k2, k3⟩ := p5 g λ n x h => hg n x (hT1 n x h); have hg1 : ∀ n x, nZ l2 c1 c2 n x -> vw g1 n x = vw h1 n x := λ n x h => by
    by_cases hw : eE l1 c c1 n x
    . exact k2 n x hw
    . rw [k3 n x hw, p4 n x hw]; exact hg n x (hT2 n x h)
   obtain ⟨g2, m1, m2, m3⟩ := q5 g1 hg1; refine ⟨g2, Ff k1 m1, λ n x hw => ?_, λ n x hw => ?_⟩
   . by_cases hw2 : eE l2 c1 c2 n x
     . exact m2 n x hw2
     . rw [m3 n x hw2, q4 n x hw2]; rcases (hW n x).1 hw with h | h
       . exact k2 n x h
       . exact absurd h hw2
   . rw [m3 n x λ h => hw ((hW n x).2 (.inr h)), k3 n x λ h => hw ((hW n x).2 (.inl h))]
theorem Lo.ifB {b : Bool} {m k : M α} (h1 : Lo m) (h2 : Lo k) : Lo (ifB b m k) := by cases b <;> assumption
theorem Lo.ifS {o : Option β} {d : M α} {k : β -> M α} (h1 : Lo d) (h2 : ∀ a, Lo (k a)) : Lo (ifS d k o) := by
 cases o
 . exact h1
 . exact h2 _
theorem Lo.ifC {o : List β} {d : M α} {k : β -> List β -> M α} (h1 : Lo d) (h2 : ∀ a t, Lo (k a t)) : Lo (ifC d k o) := by
 cases o
 . exact h1
 . exact h2 _ _
theorem Lo.onBool {v : AV} {d : M α} {k : Bool -> M α} (h1 : Lo d) (h2 : ∀ a, Lo (k a)) : Lo (onBool d k v) := by cases v <;> first | exact h2 _ | exact h1
theorem Lo.onInt {v : AV} {d : M α} {k : IntKind -> Int -> M α} (h1 : Lo d) (h2 : ∀ a b, Lo (k a b)) : Lo (onInt d k v) := by cases v <;> first | exact h2 _ _ | exact h1
theorem Lo.onStr {v : AV} {d : M α} {k : List Nat -> M α} (h1 : Lo d) (h2 : ∀ a, Lo (k a)) : Lo (onStr d k v) := by cases v <;> first | exact h2 _ | exact h1
theorem Lo.onPtr {v : AV} {d : M α} {k : Option (Nat × Nat) -> M α} (h1 : Lo d) (h2 : ∀ a, Lo (k a)) : Lo (onPtr d k v) := by cases v <;> first | exact h2 _ | exact h1
theorem Lo.onSlice {v : AV} {d : M α} {k : Option (Nat × Nat) -> Nat -> Nat -> Nat -> M α} (h1 : Lo d) (h2 : ∀ a n m z, Lo (k a n m z)) : Lo (onSlice d k v) := by cases v <;> first | exact h2 _ _ _ _ | exact h1
theorem Lo.onMap {v : AV} {d : M α} {k : Option Nat -> M α} (h1 : Lo d) (h2 : ∀ a, Lo (k a)) : Lo (onMap d k v) := by cases v <;> first | exact h2 _ | exact h1
theorem Lo.onFn {v : AV} {d : M α} {k : Nat -> List AV -> List AV -> M α} (h1 : Lo d) (h2 : ∀ a b c, Lo (k a b c)) : Lo (onFn d k v) := by cases v <;> first | exact h2 _ _ _ | exact h1
theorem Lo.onAgg {v : AV} {d : M α} {k : List AV -> M α} (h1 : Lo d) (h2 : ∀ a, Lo (k a)) : Lo (onAgg d k v) := by cases v <;> first | exact h2 _ | exact h1
theorem Lo.onTuple {v : AV} {d : M α} {k : List AV -> M α} (h1 : Lo d) (h2 : ∀ a, Lo (k a)) : Lo (onTuple d k v) := by cases v <;> first | exact h2 _ | exact h1
theorem Lo.onNat {v : Int} {d : M α} {k : Nat -> M α} (h1 : Lo d) (h2 : ∀ a, Lo (k a)) : Lo (onNat d k v) := by cases v <;> first | exact h2 _ | exact h1
end
theorem Lo.newO (o : AO) : Lo (newO o) := by
 intro c h n c' h' l e; obtain ⟨rfl, rfl, rfl, rfl⟩ := gy e; have hW : ∀ m x, eE [] n (n + 1) m x ↔ m = n := λ m x => by
  constructor
  . rintro (⟨h1, h2⟩ | h | ⟨i, _, h⟩)
    . omega
    . cases h
    . cases h
  . intro h; exact .inl zO
 refine ⟨Nat.le_succ _, λ q hq => (by cases hq), λ m x hn => ?_, λ g _ => ⟨g.set n (some o), rfl, λ m x hw => ?_, λ m x hn => ?_⟩⟩
 . exact gL (by rw [T.get_set, if_neg λ e => hn ((hW m x).2 e)]) x
 . have := (hW m x).1 hw; subst this; exact gL (by rw [T.get_set, T.get_set, if_pos rfl, if_pos rfl]) x
 . exact gL (by rw [T.get_set, if_neg λ e => hn ((hW m x).2 e)]) x
theorem Lo.getMap (n : Nat) : Lo (getMap n) := by
 intro c h r c' h' l e; obtain ⟨h1, rfl, rfl, rfl, hlt⟩ := gH e; have hW : ∀ m x, ¬ eE [(n, none, false)] c' c' m x := λ m x hw => by
  rcases hw with ⟨h1, h2⟩ | h | ⟨i, _, h⟩
  . omega
  . simp at h
  . simp at h
 refine ⟨Nat.le_refl _, λ q hq => ?_, λ m x _ => rfl, λ g hg => ⟨g, ?_, λ m x hw => absurd hw (hW m x), λ m x _ => rfl⟩⟩
 . simp only [List.mem_singleton] at hq; subst hq; exact hlt
 . have hg1 := C3 h1 (hg n none (.inr ⟨false, .inl (List.mem_singleton.2 rfl)⟩)); unfold Sx.getMap; rw [iX hlt, hg1]; rfl
theorem sW {n c m : Nat} {x : Option Nat} : eE [(n, none, true)] c c m x ↔ m = n := by
 constructor
 . rintro (⟨h1, h2⟩ | h | ⟨i, _, h⟩)
   . omega
   . simpa using h
   . simp at h
 . intro h; exact .inr (.inl (by simp [h]))
theorem oQ.set_one {α : Type} {m : M α} {n c : Nat} {h : H} {a : α} {o : Option AO} (hn : n < c) (hm : ∀ g, (∀ x, vw g n x = vw h n x) -> m c g = .ok a c (g.set n o) [(n, none, true)]) : oQ m c h a c (h.set n o) [(n, none, true)] := by
 refine ⟨Nat.le_refl _, λ q hq => ?_, λ m x hn => ?_, λ g hg => ⟨g.set n o, hm g λ x => hg n x (.inr ⟨true, .inl (List.mem_singleton.2 rfl)⟩), λ m x hw => ?_, λ m x hn => ?_⟩⟩
 . simp only [List.mem_singleton] at hq; subst hq; exact hn
 . exact gL (by rw [T.get_set, if_neg λ e => hn (sW.2 e)]) x
 . have := sW.1 hw; subst this; exact gL (by rw [T.get_set, T.get_set, if_pos rfl, if_pos rfl]) x
 . exact gL (by rw [T.get_set, if_neg λ e => hn (sW.2 e)]) x
theorem Lo.setMap (n : Nat) (r : List (AV × AV × Nat) × Nat) : Lo (setMap n r) := by
 intro c h u c' h' l e; obtain ⟨rfl, rfl, rfl, hlt, o, ho⟩ := kK e; refine oQ.set_one hlt λ g hg => ?_; unfold Sx.setMap; rw [iX hlt, xq hg, ho]; rfl
theorem Lo.killRow (n off k : Nat) : Lo (killRow n off k) := by
 intro c h v c' h' l e; obtain ⟨cs, h1, h2, rfl, rfl, rfl, hlt⟩ := ql e; refine oQ.set_one hlt λ g hg => ?_; unfold Sx.killRow rowOf; rw [iX hlt, xq hg, h1]; show Sx.ifS Rs.fail (λ l => Rs.ok l c' (g.set n none) [(n, none, true)]) (takeN k (dropN off cs)) = _; rw [h2]; rfl
theorem oQ.reads {α : Type} {m : M α} {c : Nat} {h : H} {a : α} {l : Log} (hl : ∀ q ∈ l, q.1 < c /\ q.2.2 = false) (hm : ∀ g, (∀ n x, Tou l n x -> vw g n x = vw h n x) -> m c g = .ok a c g l) : oQ m c h a c h l := by
 have hW : ∀ m x, ¬ eE l c c m x := λ m x hw => by
  rcases hw with ⟨h1, h2⟩ | h | ⟨i, _, h⟩
  . omega
  . have := (hl _ h).2; cases this
  . have := (hl _ h).2; cases this
 exact ⟨Nat.le_refl _, λ q hq => (hl q hq).1, λ n x _ => rfl, λ g hg => ⟨g, hm g λ n x h => hg n x (.inr h), λ n x hw => absurd hw (hW n x), λ n x _ => rfl⟩⟩
theorem Lo.load1 (n off : Nat) : Lo (load1 n off) := by
 intro c h v c' h' l e; obtain ⟨cs, t, h1, h2, rfl, rfl, rfl, hlt⟩ := vP e; refine oQ.reads (λ q hq => ?_) λ g hg => ?_
 . simp only [List.mem_singleton] at hq; subst hq; exact ⟨hlt, rfl⟩
 . have hv : cs[off]? = some v := by
    rw [dropN_eq] at h2; simpa [List.head?_drop] using congrArg List.head? h2
   have := hg n (some off) ⟨false, .inr ⟨off, rfl, List.mem_singleton.2 rfl⟩⟩; rw [jK h1, hv] at this; obtain ⟨ds, g1, g2⟩ := zI this; unfold Sx.load1 rowOf; rw [iX hlt, g1]; show Sx.ifC Rs.fail (λ v _ => Rs.ok v c' g [(n, some off, false)]) (dropN off ds) = _; have hd : ∃ t', dropN off ds = v :: t' := by
    rw [dropN_eq]; have hlt : off < ds.length := by
     rcases Nat.lt_or_ge off ds.length with hh | hh
     . exact hh
     . rw [List.getElem?_eq_none hh] at g2; cases g2
    rw [List.drop_eq_getElem_cons hlt]; rw [List.getElem?_eq_getElem hlt] at g2; cases g2; exact ⟨_, rfl⟩
   obtain ⟨t', hd⟩ := hd; rw [hd]; rfl
theorem gQ {b : Bool} {n : Nat} : ∀ {k off : Nat} {q : Nat × Option Nat × Bool}, q ∈ j5 b n k off ↔ ∃ i, i < k /\ q = (n, some (off + i), b)
 | 0, off, q => by
   constructor
   . intro h; cases h
   . rintro ⟨i, h, _⟩; omega
 | k + 1, off, q => by
   show q ∈ (n, some off, b) :: j5 b n k (off + 1) ↔ _
   rw [List.mem_cons, gQ]
   constructor
   . rintro (rfl | ⟨i, h, rfl⟩)
     . exact ⟨0, by omega, rfl⟩
     . exact ⟨i + 1, by omega, by rw [show off + 1 + i = off + (i + 1) by omega]⟩
   . rintro ⟨i, h, rfl⟩
     cases i with
     | zero => exact .inl rfl
     | succ i => exact .inr ⟨i, by omega, by rw [show off + 1 + i = off + (i + 1) by omega]⟩
theorem rS {g h : H} {n off k : Nat} {b : Bool} {cs : List AV} (h1 : h.get n = some (.row cs)) (hk : off + k <= cs.length) (h0 : k ≠ 0) (hg : ∀ m x, Tou (j5 b n k off) m x -> vw g m x = vw h m x) :
  ∃ ds, g.get n = some (.row ds) /\ ∀ i, i < k -> ds[off + i]? = cs[off + i]? := by
 have key : ∀ i, i < k -> ∃ ds, g.get n = some (.row ds) /\ ds[off + i]? = cs[off + i]? := λ i hi => by
  have := hg n (some (off + i)) ⟨b, .inr ⟨off + i, rfl, gQ.2 ⟨i, hi, rfl⟩⟩⟩; rw [jK h1, List.getElem?_eq_getElem zO] at this; obtain ⟨ds, g1, g2⟩ := zI this; exact ⟨ds, g1, by rw [g2, List.getElem?_eq_getElem zO]⟩
 obtain ⟨ds, g1, _⟩ := key 0 zO; refine ⟨ds, g1, λ i hi => ?_⟩; obtain ⟨ds', g1', g2⟩ := key i hi; rw [g1] at g1'; cases g1'; exact g2
theorem pF : ∀ (k : Nat) (l : List AV), k <= l.length -> takeN k l = some (l.take k)
 | 0, _, _ => rfl
 | k + 1, [], h => by simp at h
 | k + 1, a :: l, h => by
   show ifS none (λ r => some (a :: r)) (takeN k l) = _
   rw [pF k l (by simpa using h)]
   rfl
theorem rW : ∀ (vs cs : List AV), vs.length <= cs.length -> ∃ r, putL vs cs = some r
 | [], cs, _ => ⟨cs, rfl⟩
 | _ :: _, [], h => by simp at h
 | v :: vs, c :: cs, h => by
   obtain ⟨r, hr⟩ := rW vs cs (by simpa using h)
   exact ⟨v :: r, by show ifS none (λ r => some (v :: r)) (putL vs cs) = _; rw [hr]; rfl⟩
theorem pS (vs : List AV) : ∀ (n : Nat) (cs : List AV), n + vs.length <= cs.length -> ∃ r, gq vs n cs = some r
 | 0, cs, h => rW vs cs (by simpa using h)
 | n + 1, [], h => by simp at h
 | n + 1, c :: cs, h => by
   obtain ⟨r, hr⟩ := pS vs n cs (by simp only [List.length_cons] at h; omega)
   exact ⟨c :: r, by show ifS none (λ r => some (c :: r)) (gq vs n cs) = _; rw [hr]; rfl⟩
theorem Lo.loadN (n off k : Nat) : Lo (loadN n off k) := by
 unfold Sx.loadN; cases hk0 : Nat.beq k 0 with
 | true => exact Lo.pure _
 | false =>
   have h0 : k ≠ 0 := λ e => by subst e; cases hk0
   intro c h v c' h' l e; obtain ⟨cs, h1, h2, rfl, rfl, rfl, hlt⟩ := vN (show sf n off k c h = _ from e); obtain ⟨rfl, hk⟩ := takeN_eq _ _ _ h2; rw [dropN_eq, List.length_drop] at hk; refine oQ.reads (λ q hq => ?_) λ g hg => ?_
   . obtain ⟨i, _, rfl⟩ := gQ.1 hq; exact ⟨hlt, rfl⟩
   . obtain ⟨ds, g1, g2⟩ := rS h1 zO h0 hg; show sf n off k c' g = _; unfold sf rowOf; rw [iX hlt, g1]; show Sx.ifS Rs.fail (λ l => Rs.ok l c' g (j5 false n k off)) (takeN k (dropN off ds)) = _; have hlen : off + k <= ds.length := by
      have := g2 (k - 1) zO; rw [List.getElem?_eq_getElem (by omega : off + (k - 1) < cs.length)] at this; have hh := (List.getElem?_eq_some_iff.1 this).1; omega
     have : takeN k (dropN off ds) = some ((dropN off cs).take k) := by
      rw [dropN_eq, dropN_eq, pF k _ (by rw [List.length_drop]; omega)]; congr 1
      apply List.ext_getElem?; intro i; rw [List.getElem?_take, List.getElem?_take]; split
      . rename_i hi; rw [List.getElem?_drop, List.getElem?_drop]; exact g2 i hi
      . rfl
     rw [this]; rfl
theorem Lo.storeN (n off : Nat) (vs : List AV) : Lo (storeN n off vs) := by
 cases vs with
 | nil => exact Lo.pure _
 | cons v vs =>
   intro c h u c' h' l e; obtain ⟨cs, r, h1, h2, h3, rfl, rfl, rfl, hlt⟩ := rH (show nx n off (v :: vs) c h = _ from e); generalize hvs : v :: vs = us at *; have h0 : us.length ≠ 0 := (by rw [<- hvs]; simp); obtain ⟨hr, hk⟩ := jT _ _ _ _ h2; have hW : ∀ m x, eE (j5 true n (len us) off) c' c' m x ↔ m = n /\ ∃ i, i < us.length /\ x = some (off + i) := λ m x => by
    rw [len_eq]; constructor
    . rintro (⟨h1, h2⟩ | h | ⟨i, rfl, h⟩)
      . omega
      . obtain ⟨i, _, hh⟩ := gQ.1 h; cases hh
      . obtain ⟨j, hj, hh⟩ := gQ.1 h; cases hh; exact ⟨rfl, j, hj, rfl⟩
    . rintro ⟨rfl, i, hi, rfl⟩; exact .inr (.inr ⟨_, rfl, gQ.2 ⟨i, hi, rfl⟩⟩)
   have hcell : ∀ (es q : List AV), q = es.take off ++ (us ++ es.drop (off + us.length)) -> off + us.length <= es.length -> ∀ i, q[i]? = if off <= i /\ i < off + us.length then us[i - off]? else es[i]? := λ es q hq hl i => by
    subst hq; have ht : (es.take off).length = off := (by rw [List.length_take]; omega); by_cases ha : i < off
    . rw [List.getElem?_append_left zO, List.getElem?_take, if_pos ha, if_neg zO]
    . rw [List.getElem?_append_right zO, ht]; by_cases hb : i < off + us.length
      . rw [List.getElem?_append_left zO, if_pos ⟨by omega, hb⟩]
      . rw [List.getElem?_append_right zO, List.getElem?_drop, if_neg zO]; congr 1
        omega
   have hset : ∀ (g : H) (es q : List AV), g.get n = some (.row es) -> q = es.take off ++ (us ++ es.drop (off + us.length)) -> off + us.length <= es.length ->
     (∀ m x, ¬ eE (j5 true n (len us) off) c' c' m x -> vw (g.set n (some (.row q))) m x = vw g m x) /\ ∀ i, i < us.length -> vw (g.set n (some (.row q))) n (some (off + i)) = (us[i]?).map .inr := λ g es q hg hq hl => by
    have hn : (g.set n (some (.row q))).get n = some (.row q) := (by rw [T.get_set, if_pos rfl]); refine ⟨λ m x hw => ?_, λ i hi => ?_⟩
    . by_cases hm : m = n
      . subst hm; cases x with
        | none => rw [nw hn, nw hg]
        | some i =>
          rw [jK hn, jK hg, hcell es q hq hl i, if_neg λ hh => hw ((hW m _).2 ⟨rfl, i - off, by omega, by rw [show off + (i - off) = i by omega]⟩)]
      . exact gL (by rw [T.get_set, if_neg hm]) x
    . rw [jK hn, hcell es q hq hl, if_pos ⟨by omega, by omega⟩, Nat.add_sub_cancel_left]
   obtain ⟨s1, s2⟩ := hset h cs r h1 hr hk; refine ⟨Nat.le_refl _, λ q hq => ?_, s1, λ g hg => ?_⟩
   . obtain ⟨i, _, rfl⟩ := gQ.1 hq; exact hlt
   . rw [len_eq] at hg; obtain ⟨ds, g1, g2⟩ := rS h1 hk h0 (λ m x ht => hg m x (.inr ht)); have hlen : off + us.length <= ds.length := by
      have := g2 (us.length - 1) zO; rw [List.getElem?_eq_getElem (by omega : off + (us.length - 1) < cs.length)] at this; have hh := (List.getElem?_eq_some_iff.1 this).1; omega
     obtain ⟨q, hq⟩ := pS us off ds hlen; obtain ⟨hq', _⟩ := jT _ _ _ _ hq; obtain ⟨t1, t2⟩ := hset g ds q g1 hq' hlen; refine ⟨g.set n (some (.row q)), ?_, λ m x hw => ?_, t1⟩
     . have : Sx.storeN n off us c' g = nx n off us c' g := by rw [<- hvs]; rfl
       rw [this]; unfold nx rowOf; rw [iX hlt, g1]; show Sx.ifS Rs.fail (λ r => Sx.ifB (iN us) (Rs.ok () c' (g.set n (some (.row r))) (j5 true n (len us) off)) Rs.fail) (gq us off ds) = _; rw [hq]; show Sx.ifB (iN us) (Rs.ok () c' (g.set n (some (.row q))) (j5 true n (len us) off)) Rs.fail = _; rw [h3]; rfl
     . obtain ⟨rfl, i, hi, rfl⟩ := (hW m x).1 hw; rw [t2 i hi, s2 i hi]
def kG (call : Ctx) : Prop := ∀ f args, Lo (call f args)
class LoF (f : Ev) : Prop where
 lo : ∀ call, kG call -> ∀ e, Lo (f call e)
section
theorem Lo.boolRec {α : Type} {b : Bool} {m k : M α} (h1 : Lo m) (h2 : Lo k) : Lo (Bool.rec m k b : M α) := by cases b <;> assumption
instance (x : Opd) : LoF (sd x) := ⟨λ _ _ _ => Lo.pure _⟩
instance (c a b : Opd) : LoF (Al c a b) := ⟨λ _ _ _ => Lo.onBool Lo.fail λ _ => Lo.pure _⟩
instance (z : List AV) : LoF (yl z) := ⟨λ _ _ _ => Lo.map (Lo.newO _)⟩
instance (x : Opd) : LoF (Gv x) := ⟨λ _ _ _ => Lo.map (Lo.newO _)⟩
instance (z : List AV) (ps : List (Nat × Nat × Opd)) : LoF (nI z ps) := ⟨λ _ _ _ => Lo.ifS Lo.fail λ _ => Lo.pure _⟩
instance (k : Nat) (z : List AV) (n : Nat) (ps : List (Nat × Nat × Opd)) : LoF (ib k z n ps) := ⟨λ _ _ _ => Lo.ifS Lo.fail λ _ => Lo.map (Lo.newO _)⟩
theorem qh (v : AV) : Lo (mI v) := Lo.onPtr Lo.fail λ _ => Lo.ifS Lo.fail λ _ => Lo.load1 _ _
theorem qg (n : Nat) (v : AV) : Lo (mH n v) := Lo.onPtr Lo.fail λ _ => Lo.ifS Lo.fail λ _ => Lo.map (Lo.loadN _ _ _)
instance (x : Opd) : LoF (tx x) := ⟨λ _ _ _ => qh _⟩
instance (n : Nat) (x : Opd) : LoF (lG n x) := ⟨λ _ _ _ => qg _ _⟩
instance (n : Nat) (a x : Opd) : LoF (tw n a x) := ⟨λ _ _ _ => Lo.ifB (Lo.onPtr Lo.fail λ _ => Lo.ifS Lo.fail λ _ => Lo.map (Lo.storeN _ _ _)) Lo.fail⟩
instance (x : Opd) : LoF (kP x) := ⟨λ _ _ _ => Lo.onPtr Lo.fail λ _ => Lo.ifS Lo.fail λ _ => Lo.pure _⟩
instance (op : BinOp) (x y : Opd) : LoF (Gw op x y) := ⟨λ _ _ _ => Lo.ifS Lo.fail λ _ => Lo.pure _⟩
instance (f : AV -> AV -> Option Bool) (b : Bool) (x y : Opd) : LoF (oEq f b x y) := ⟨λ _ _ _ => Lo.ifS Lo.fail λ _ => Lo.pure _⟩
instance (x : Opd) : LoF (Gr x) := ⟨λ _ _ _ => Lo.onBool Lo.fail λ _ => Lo.pure _⟩
instance (x : Opd) : LoF (Gs x) := ⟨λ _ _ _ => Lo.onInt Lo.fail λ _ _ => Lo.pure _⟩
instance (k : IntKind) (x : Opd) : LoF (Ao k x) := ⟨λ _ _ _ => Lo.onInt Lo.fail λ _ _ => Lo.pure _⟩
instance (x : Opd) : LoF (Gt x) := ⟨λ _ _ _ => Lo.onInt Lo.fail λ _ _ => Lo.onNat Lo.fail λ _ => Lo.ifB (Lo.pure _) Lo.fail⟩
instance (x : Opd) : LoF (Ak x) := ⟨λ _ _ _ => Lo.onStr Lo.fail λ _ => Lo.pure _⟩
instance (x : Opd) : LoF (kN x) := ⟨λ _ _ _ => Lo.onStr Lo.fail λ _ => Lo.ifB (Lo.map (Lo.newO _)) Lo.fail⟩
instance (t : Nat) (x : Opd) : LoF (tA t x) := ⟨λ _ _ _ => Lo.pure _⟩
instance (f : Nat) (a b : List Opd) : LoF (Am f a b) := ⟨λ _ _ _ => Lo.pure _⟩
instance : LoF pY := ⟨λ _ _ _ => Lo.map (Lo.newO _)⟩
instance (z : List AV) (l c : Opd) : LoF (jc z l c) := ⟨λ _ _ _ => Lo.ifS Lo.fail λ _ => Lo.ifS Lo.fail λ _ => Lo.ifB (Lo.map (Lo.newO _)) Lo.fail⟩
instance (x : Opd) (lo hi : Option Opd) : LoF (kO x lo hi) := ⟨λ _ _ _ => Lo.onStr Lo.fail λ _ => Lo.ifS Lo.fail λ _ => Lo.ifS Lo.fail λ _ => Lo.ifB (Lo.pure _) Lo.fail⟩
instance (z : Nat) (x : Opd) (lo hi : Option Opd) : LoF (mB z x lo hi) := ⟨λ _ _ _ => Lo.onSlice Lo.fail λ _ _ _ _ => Lo.ifB (Lo.ifS Lo.fail λ _ => Lo.ifS Lo.fail λ _ => Lo.ifB (Lo.pure _) Lo.fail) Lo.fail⟩
instance (n : Nat) (x : Opd) : LoF (je n x) := ⟨λ _ _ _ => Lo.onPtr Lo.fail λ _ => Lo.ifS Lo.fail λ _ => Lo.pure _⟩
theorem vl (n : Nat) (v : AV) : Lo (Ad n v) := Lo.onAgg Lo.fail λ _ => Lo.ifC Lo.fail λ _ _ => Lo.pure _
theorem vj (n m : Nat) (v : AV) : Lo (Ab n m v) := Lo.onAgg Lo.fail λ _ => Lo.ifS Lo.fail λ _ => Lo.pure _
instance (n : Nat) (x : Opd) : LoF (o8 n x) := ⟨λ _ _ _ => vl _ _⟩
instance (n m : Nat) (x : Opd) : LoF (jd n m x) := ⟨λ _ _ _ => vj _ _ _⟩
theorem Eb (z n : Nat) (a : Nat × Nat) (i : Option Nat) : Lo (ixA z n a i) := Lo.ifS Lo.fail λ _ => Lo.ifB (Lo.pure _) Lo.fail
instance (z : Nat) (x i : Opd) : LoF (mC z x i) := ⟨λ _ _ _ => Lo.onSlice Lo.fail λ _ _ _ _ => Lo.ifS Lo.fail λ _ => Eb _ _ _ _⟩
instance (n z : Nat) (x i : Opd) : LoF (mD n z x i) := ⟨λ _ _ _ => Lo.onPtr Lo.fail λ _ => Lo.ifS Lo.fail λ _ => Eb _ _ _ _⟩
instance (x i : Opd) : LoF (kT x i) := ⟨λ _ _ _ => Lo.onStr Lo.fail λ _ => Lo.ifS Lo.fail λ _ => Lo.ifC Lo.fail λ _ _ => Lo.pure _⟩
instance (n z : Nat) (b : Bool) (x i : Opd) : LoF (kS n z b x i) := ⟨λ _ _ _ => Lo.ifS Lo.fail λ _ => Lo.ifB (Lo.ifB (vj _ _ _) (vl _ _)) Lo.fail⟩
instance (f : FK) (z : AV) (m k : Opd) (ok : Bool) : LoF (oV f z m k ok) := ⟨λ _ _ _ => Lo.onMap Lo.fail λ _ => Lo.ifS (Lo.pure _) λ _ => Lo.bind (Lo.getMap _) λ _ => Lo.ifS Lo.fail λ _ => Lo.pure _⟩
instance (n : Nat) (x y : Opd) : LoF (An n x y) := ⟨λ _ _ _ => Lo.onSlice Lo.fail λ _ _ _ _ => Lo.ifB (Lo.bind (Lo.onSlice (Lo.onStr Lo.fail λ _ => Lo.ifB (Lo.pure _) Lo.fail) λ _ _ _ _ => Lo.ifS (Lo.ifB (Lo.pure _) Lo.fail) λ _ => Lo.map (Lo.loadN _ _ _)) λ _ => Lo.ifB (Lo.map (Lo.ifS (Lo.pure _) λ _ => Lo.storeN _ _ _)) Lo.fail) Lo.fail⟩
instance (f : FK) (z : AV) (m k : Opd) : LoF (kR f z m k) := ⟨λ _ _ _ => Lo.onMap Lo.fail λ _ => Lo.ifS Lo.fail λ _ => Lo.bind (Lo.getMap _) λ _ => Lo.ifS Lo.fail λ _ => Lo.map (Lo.setMap _ _)⟩
instance (m s x : Opd) : LoF (ia m s x) := ⟨λ _ _ _ => Lo.onMap Lo.fail λ _ => Lo.ifS Lo.fail λ _ => Lo.ifS Lo.fail λ _ => Lo.bind (Lo.getMap _) λ _ => Lo.ifS Lo.fail λ _ => Lo.map (Lo.setMap _ _)⟩
instance (f : FK) (m k x : Opd) : LoF (fJ f m k x) := ⟨λ _ _ _ => Lo.onMap Lo.fail λ _ => Lo.ifS Lo.fail λ _ => Lo.bind (Lo.getMap _) λ _ => Lo.ifS Lo.fail λ _ => Lo.map (Lo.setMap _ _)⟩
instance (x : Opd) (i : Nat) : LoF (mF x i) := ⟨λ _ _ _ => Lo.onTuple Lo.fail λ _ => Lo.ifC Lo.fail λ _ _ => Lo.pure _⟩
instance (f : Opd) (l : List Opd) : LoF (Ap f l) := ⟨λ _ hc _ => Lo.onFn Lo.fail λ _ _ _ => hc _ _⟩
theorem Dv (q : Option Nat) (v : AV) : Lo (Dw q v) := Lo.ifS (Lo.pure _) λ _ => Lo.onPtr Lo.fail λ _ => Lo.ifS Lo.fail λ _ => Lo.load1 _ _
theorem Lo.onIface {α : Type} {v : AV} {m n : M α} {k : Nat -> AV -> M α} (hm : Lo m) (hn : Lo n) (hk : ∀ t u, Lo (k t u)) : Lo (onIface m n k v) := by cases v <;> first | exact hk _ _ | exact hm | exact hn
instance (mt : Nat -> Option (Nat × Option Nat)) (x : Opd) (l : List Opd) : LoF (oZ mt x l) := ⟨λ _ hc _ => Lo.onIface Lo.fail Lo.fail λ _ _ => Lo.ifS Lo.fail λ _ => Lo.bind (Dv _ _) λ _ => hc _ _⟩
theorem Aj (z : Option AV) : Lo (yk z) := Lo.ifS Lo.fail λ _ => Lo.pure _
instance (t : Nat) (z : Option AV) (x : Opd) : LoF (gv t z x) := ⟨λ _ _ _ => Lo.onIface Lo.fail (Aj _) λ _ _ => Lo.ifB (Lo.pure _) (Aj _)⟩
theorem AH (z n : Nat) {m : M Nat} (h : Lo m) : Lo (GV z n m) := Lo.map h
theorem AZ (z : Nat) {m : M (List AV × Nat)} (h : Lo m) (v : AV) : Lo (JH z m v) := Lo.onSlice Lo.fail λ _ _ _ _ => Lo.bind h λ _ =>
 Lo.ifB (Lo.boolRec (Lo.ifS (Lo.ifB (AH _ _ (Lo.newO _)) Lo.fail) λ _ => Lo.ifB (Lo.bind (Lo.killRow _ _ _) λ _ => AH _ _ (Lo.newO _)) Lo.fail) (Lo.ifS (Lo.pure _) λ _ => Lo.map (Lo.storeN _ _ _))) Lo.fail
instance (z : Nat) (x y : Opd) : LoF (o9 z x y) := ⟨λ _ _ _ => AZ _ (Lo.onSlice (Lo.onStr Lo.fail λ _ => Lo.ifB (Lo.pure _) Lo.fail) λ _ _ _ _ => Lo.ifS (Lo.ifB (Lo.pure _) Lo.fail) λ _ => Lo.map (Lo.loadN _ _ _)) _⟩
instance (z : Nat) (l : List AV) (x y : Opd) : LoF (mG z l x y) := ⟨λ _ _ _ => AZ _ (Lo.ifS Lo.fail λ _ => Lo.ifB (Lo.pure _) Lo.fail) _⟩
instance (n : Nat) : LoF (oY n) := ⟨λ _ _ _ => Lo.pure _⟩
instance (x : Opd) : LoF (oW x) := ⟨λ _ _ _ => Lo.onStr Lo.fail λ _ => Lo.pure _⟩
instance (x : Opd) : LoF (tz x) := ⟨λ _ _ _ => Lo.onSlice Lo.fail λ _ _ _ _ => Lo.pure _⟩
instance (x : Opd) : LoF (oX x) := ⟨λ _ _ _ => Lo.onMap Lo.fail λ _ => Lo.ifS (Lo.pure _) λ _ => Lo.map (Lo.getMap _)⟩
instance (x : Opd) : LoF (Gu x) := ⟨λ _ _ _ => Lo.onSlice Lo.fail λ _ _ _ _ => Lo.ifS (Lo.pure _) λ _ => Lo.fail⟩
instance (b : Bool) (x y : Opd) : LoF (kQ b x y) := ⟨λ _ _ _ => Lo.onInt Lo.fail λ _ _ => Lo.onInt Lo.fail λ _ _ => Lo.pure _⟩
variable {P : Program} {f : Ev}
theorem ud {b : Builtin} {ts : List TypeId} {l : List Opd} (h : fM P b l ts = some f) : LoF f := by
 unfold fM at h; split at h
 . rename_i x' y' sT eT hts; obtain ⟨el, he, h⟩ := ah h; obtain ⟨Z, hZ, h⟩ := ah h; obtain ⟨d, hd, h⟩ := ah h; split at h
   . cases h; exact inferInstance
   . rename_i hn; cases h; exact inferInstance
 . rename_i x' t hts; unfold Ic at h; split at h
   . rename_i n e hu; cases h; exact inferInstance
   . rename_i p hu; split at h
     . rename_i n e hp; cases h; exact inferInstance
     . cases h
   . rename_i hu; cases h; exact inferInstance
   . rename_i e hu; cases h; exact inferInstance
   . rename_i i e hu; cases h; exact inferInstance
   . cases h
 . rename_i x' t hts; obtain ⟨el, he, h⟩ := ah h; cases h; exact inferInstance
 . skip
   cases h; exact inferInstance
 . skip
   cases h; exact inferInstance
 . cases h
theorem wT {b : Builtin} {l : List Opd} {ts : List TypeId} (h : gV P b l ts = some f) : LoF f := by
 unfold gV at h; split at h
 . unfold AW at h; split at h
   . obtain ⟨el, he, h⟩ := ah h; obtain ⟨n, hn, h⟩ := ah h; cases h; exact inferInstance
   . cases h
 . exact ud h
theorem Fa {op : Op} (h : cOp P op = some f) : LoF f := by
 unfold cOp at h; split at h
 . obtain ⟨x', kx, h⟩ := ah h; cases h; exact inferInstance
 . obtain ⟨x', kx, h⟩ := ah h; cases h; exact inferInstance
 . obtain ⟨c', kc, h⟩ := ah h; obtain ⟨a', ka, h⟩ := ah h; obtain ⟨b', kb, h⟩ := ah h; cases h; exact inferInstance
 . obtain ⟨z, hz, h⟩ := ah h; cases h; exact inferInstance
 . obtain ⟨x', kx, h⟩ := ah h; cases h; exact inferInstance
 . obtain ⟨z, hz, h⟩ := ah h; unfold qR at h; split at h
   . obtain ⟨pl, hpl, h⟩ := ah h; obtain ⟨l, hl, h⟩ := ah h; cases h; exact inferInstance
   . obtain ⟨s, hs, h⟩ := ah h; obtain ⟨l, hl, h⟩ := ah h; cases h; exact inferInstance
   . cases h
 . obtain ⟨el, he, h⟩ := ah h; obtain ⟨z, hz, h⟩ := ah h; obtain ⟨hn, h⟩ := dP h; obtain ⟨l, hl, h⟩ := ah h; cases h; exact inferInstance
 . obtain ⟨a', ka, h⟩ := ah h; obtain ⟨b, hb, h⟩ := ah h; cases b with
   | true =>
     obtain ⟨n, hn, h⟩ := ah (show ifS none (λ n => some (lG n a')) _ = some f from h); cases h; exact inferInstance
   | false => cases h; exact inferInstance
 . obtain ⟨a', ka, h⟩ := ah h; obtain ⟨x', kx, h⟩ := ah h; obtain ⟨n, hn, h⟩ := ah h; cases h; exact inferInstance
 . obtain ⟨x', kx, h⟩ := ah h; cases h; exact inferInstance
 . obtain ⟨a', ka, h⟩ := ah h; obtain ⟨b', kb, h⟩ := ah h; unfold Fd at h; cases hs : tO P _ with
   | true => rw [hs] at h; cases h; exact inferInstance
   | false =>
     rw [hs, eA] at h; split at h
     . obtain ⟨g, hg, h⟩ := ah h; cases h; exact inferInstance
     . obtain ⟨g, hg, h⟩ := ah h; cases h; exact inferInstance
     . cases h
 . obtain ⟨x', kx, h⟩ := ah h; cases h; exact inferInstance
 . obtain ⟨x', kx, h⟩ := ah h; cases h; exact inferInstance
 . obtain ⟨x', kx, h⟩ := ah h; obtain ⟨d1, h1, h⟩ := ah h; obtain ⟨d2, h2, h⟩ := ah h; unfold ub at h; split at h
   . rename_i e; split at h
     . rename_i hu; cases h; exact inferInstance
     . cases h
   . unfold AX at h; split at h
     . cases h; exact inferInstance
     . cases h; exact inferInstance
     . cases h; exact inferInstance
     . cases h
 . obtain ⟨x', kx, h⟩ := ah h; obtain ⟨hp, h⟩ := dP h; cases h; exact inferInstance
 . obtain ⟨a', ka, h⟩ := ah h; obtain ⟨b', kb, h⟩ := ah h; cases h; exact inferInstance
 . cases h; exact inferInstance
 . obtain ⟨el, he, h⟩ := ah h; obtain ⟨z, hz, h⟩ := ah h; obtain ⟨l', kl, h⟩ := ah h; obtain ⟨c', kc, h⟩ := ah h; cases h; exact inferInstance
 . obtain ⟨x', kx, h⟩ := ah h; obtain ⟨lo', kl, h⟩ := ah h; obtain ⟨hi', kh, h⟩ := ah h; unfold t8 at h; split at h
   . rename_i hu; cases h; exact inferInstance
   . rename_i el hu; obtain ⟨n, hn, h⟩ := ah h; cases h; exact inferInstance
   . cases h
 . obtain ⟨x', kx, h⟩ := ah h; obtain ⟨fd, hf, h⟩ := ah h; obtain ⟨n, hn, h⟩ := ah h; obtain ⟨h0, h⟩ := gR h; cases h; exact inferInstance
 . obtain ⟨x', kx, h⟩ := ah h; obtain ⟨fd, hf, h⟩ := ah h; obtain ⟨b, hb, h⟩ := ah h; cases b with
   | true =>
     obtain ⟨n, hn, h⟩ := ah (show ifS none (λ n => some (jd fd.offset n x')) _ = some f from h); cases h; exact inferInstance
   | false => cases h; exact inferInstance
 . obtain ⟨x', kx, h⟩ := ah h; obtain ⟨i', ki, h⟩ := ah h; unfold ju at h; split at h
   . rename_i n el hu; obtain ⟨z, hz, h⟩ := ah h; cases h; exact inferInstance
   . rename_i el hu; obtain ⟨z, hz, h⟩ := ah h; cases h; exact inferInstance
   . cases h
 . obtain ⟨x', kx, h⟩ := ah h; obtain ⟨i', ki, h⟩ := ah h; unfold ua at h; split at h
   . rename_i n el hu; obtain ⟨z, hz, h⟩ := ah h; obtain ⟨b, hb, h⟩ := ah h; cases h; exact inferInstance
   . rename_i hu; cases h; exact inferInstance
   . cases h
 . obtain ⟨m', km, h⟩ := ah h; obtain ⟨k', kk, h⟩ := ah h; obtain ⟨q, hq, h⟩ := ah h; obtain ⟨fk, hf, h⟩ := ah h; obtain ⟨z, hz, h⟩ := ah h; cases h; exact inferInstance
 . obtain ⟨m', km, h⟩ := ah h; obtain ⟨k', kk, h⟩ := ah h; obtain ⟨x', kx, h⟩ := ah h; obtain ⟨q, hq, h⟩ := ah h; obtain ⟨fk, hf, h⟩ := ah h; cases h; exact inferInstance
 . obtain ⟨m', km, h⟩ := ah h; obtain ⟨k', kk, h⟩ := ah h; obtain ⟨x', kx, h⟩ := ah h; obtain ⟨q, hq, h⟩ := ah h; obtain ⟨fk, hf, h⟩ := ah h; cases h; exact inferInstance
 . obtain ⟨m', km, h⟩ := ah h; obtain ⟨k', kk, h⟩ := ah h; obtain ⟨q, hq, h⟩ := ah h; obtain ⟨fk, hf, h⟩ := ah h; obtain ⟨z, hz, h⟩ := ah h; cases h; exact inferInstance
 . obtain ⟨m', km, h⟩ := ah h; obtain ⟨s', ks, h⟩ := ah h; obtain ⟨x', kx, h⟩ := ah h; cases h; exact inferInstance
 . obtain ⟨x', kx, h⟩ := ah h; cases h; exact inferInstance
 . rename_i c; obtain ⟨l, kl, h⟩ := ah h; obtain ⟨callee, args, ts⟩ := c; unfold AY at h; split at h
   . rename_i g hc; obtain ⟨g', kg, h⟩ := ah h; cases h; cases hc; exact inferInstance
   . rename_i b hc; cases hc; exact wT h
   . obtain ⟨x', kx, h⟩ := ah h; cases h; exact inferInstance
 . rename_i t ok; obtain ⟨x', kx, h⟩ := ah h; obtain ⟨hp, h⟩ := dP h; cases ok with
   | true =>
     obtain ⟨z, hz, h⟩ := ah (show ifS none (λ z => some (gv t (some z) x')) (cX P t) = some f from h); cases h; exact inferInstance
   | false =>
     cases h; exact inferInstance
 . cases h
end
end Go.Sx
