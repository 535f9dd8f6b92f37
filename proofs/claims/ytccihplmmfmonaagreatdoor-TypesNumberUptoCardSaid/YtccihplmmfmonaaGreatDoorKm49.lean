import Derived.Test.YtccihplmmfmonaaGreatDoorKm36
import Derived.Test.YtccihplmmfmonaaGreatDoorKm48
set_option maxHeartbeats 8000000
set_option maxRecDepth 100000
namespace Go.Proofs.YtccihplmmfmonaaGreatDoor
open _root_.Go.Proofs.Tryz
open Go.RowKit
def JT (V : World) (v : Value) (l : List Int) (W : World) : Prop := Below V.heap.size V W /\ dz V.heap.size W v l
theorem JT.start (V : World) : JT V (.slice none 0 0) [] V := ⟨Below.refl _ _, aW.nil _⟩
theorem JT.drew {V W : World} {v : Value} {l : List Int} (h : JT V v l W) : JT V v l W.drew := ⟨h.1.drew, aW.under h.2 (Below.refl _ _).drew⟩
theorem oY {ops : Array Oper} {o : Oper} {a : Act} {K : Act -> World -> Prop} {Q : Exit -> Act -> World -> Prop} {E : Prop} {W V : World} {v : Value} {xs ys : List Int} {A : Option Addr} {m c : Nat} (hJ : JT V v xs W) (hS : an V TyC (.slice A m c) ys) (hl : xs.length + ys.length <= 4194304) (hgd : o.guard = none) (s x : Operand)
  (hop : o.op = .call { callee := .builtin .append, args := #[s, x], argTypes := #[33, 33] }) (hs : a.eval s = v) (hx : a.eval x = .slice A m c)
  (hK : ∀ A' m' c' w', JT V (.slice A' m' c') (xs ++ ys) w' -> Below V.heap.size W w' -> K (a.put o.dst (.slice A' m' c')) w') : if Region.wanted o (yielded ops a.tmps) = true then Oper.wp prog o a W K Q else E := by
 have hw : Region.wanted o (yielded ops a.tmps) = true := (by simp [Region.wanted, hgd]); rw [if_pos hw]; exact tn s x hop underlying33 tt rfl zD zD tr tp hs hx hJ.2 (hS.mono hJ.1 λ _ _ h => h) hl hJ.1.size λ v' w' h1 _ h3 => by
  obtain ⟨A', m', c', rfl, _⟩ := h1.shape; exact hK A' m' c' w' ⟨hJ.1.trans h3, h1⟩ h3
theorem sQ {l : List SgE} {j : Nat} {s : SgE} (h : l[j]? = some s) : gd (l.take (j + 1)) = gd (l.take j) ++ s.ins ++ s.outs := by
 obtain ⟨hj, rfl⟩ := List.getElem?_eq_some_iff.1 h; rw [List.take_succ_eq_append_getElem hj]; unfold gd; rw [List.flatMap_append, List.append_assoc]; show _ ++ (sgL l[j] ++ []) = _; rw [List.append_nil]; rfl
theorem Gh (l : List SgE) (j : Nat) : (gd (l.take j)).length <= (gd l).length := by
 have : gd l = gd (l.take j) ++ gd (l.drop j) := by
  unfold gd; rw [<- List.flatMap_append, List.take_append_drop]
 rw [this, List.length_append]; omega
theorem D4 {q : bk} (h : uB q) : (gd q.funs).length + q.sg.ins.length + q.sg.outs.length + q.vars.length <= 2000 := by
 obtain ⟨h1, h2⟩ := h; have h3 : qN q = fL q.funs + sgN q.sg := rfl; have h4 : sgN q.sg = q.sg.ins.length + q.sg.outs.length := rfl; rw [Ef]; omega
theorem Br {nx x : Int} {r : List Int} (h : nQ nx (x :: r) = true) : ¬ x < nx /\ ¬ x = 0 /\ nQ (if x = nx then nx - 1 else nx) r = true := by
 rw [nQ] at h; split at h
 . cases h
 . rename_i h0; exact ⟨λ h1 => h0 (.inl h1), λ h1 => h0 (.inr h1), h⟩
theorem map_take {l : List (Tx × Int)} {j : Nat} {s : Tx × Int} (h : l[j]? = some s) : (l.take (j + 1)).map Prod.snd = (l.take j).map Prod.snd ++ [s.2] := by
 obtain ⟨hj, rfl⟩ := List.getElem?_eq_some_iff.1 h; rw [List.take_succ_eq_append_getElem hj, List.map_append]; rfl
theorem yf {w : World} {L : List Value} {p : cy} (hL : ef w L p) (hp : fD p <= 1048576) : Calls prog 3 #[.agg L.toArray] w (Fa w) := by
 have HINF := zH (BK hL hp); have HF := zH (yH (con := gg p) hp); have HA := zH (yI (con := gg p) (p := p) (P := λ q => nQ (-1) (qv q) = true) D3); obtain ⟨ev, nv, rfl, he, hnn⟩ := hL; obtain ⟨A1, n1, k1, rfl⟩ := an.shape he; obtain ⟨A2, n2, k2, rfl⟩ := an.shape hnn; have HAL := zH (zA w (.cells #[.slice A1 n1 k1, .slice A2 n2 k2] 25)); have BP := zH (heap_alloc_new w (.cells #[.slice A1 n1 k1, .slice A2 n2 k2] 25)); clear he hnn hp; unfold eA at HINF; generalize eE (gg p) p = r at *; obtain ⟨qs, e1, e2, e3⟩ := r; go_enter func3, ntmps3
 by_cases hz : e1 = 0
 . subst hz
   go_wp2_with (first
    | (go_at_call 4; (with_reducible refine (qo _).mono ?_); rintro e w1 ⟨rfl, hb1⟩; obtain ⟨V1, rfl⟩ := zW w1; have HB1 := zH (HAL.o.trans (hb1.mono HAL.o.size)); have BP1 := zH (ao hb1 BP.o); obtain ⟨_, _⟩ := bb BP1.o; clear hb1)
    | (go_at_call 5; (with_reducible refine (HINF.o _ HB1.o).mono ?_); rintro e w2 ⟨v2, rfl, hi2, hb2⟩; obtain ⟨V2, rfl⟩ := zW w2; obtain ⟨A3, n3, k3, rfl, rfl⟩ := aW.shape hi2; have HI2 := zH hi2; have HB2 := zH (HB1.o.trans (hb2.mono HB1.o.size)); clear hi2 hb2))
   have HBA := zH (zA V2 (.cells #[.int .i64 0, .int .i64 e2, .int .i64 e3] 30)); generalize V2.alloc (.cells #[.int .i64 0, .int .i64 e2, .int .i64 e3] 30) = V3 at *; have HI3 := zH (HI2.o.under HBA.o); have HB3 := zH (HB2.o.trans (HBA.o.mono HB2.o.size)); have HQL := zH (show qs.length <= 9223372036854775807 by obtain ⟨A', c', e, hc, hm, _⟩ := aW.at_ HI3.o; injection e with e1 e2 e3; subst e3; unfold maxLen at hm; omega); have hql := HQL.o; go_loopg [5] qs.length (λ g v wr => ∃ k : Nat, k + g = qs.length /\ v = .int .i64 k /\ Below V3.heap.size V3 wr)
   case atStart => exact ⟨0, by omega, rfl, Below.refl _ _⟩
   case round =>
    obtain ⟨k, hkg, rfl, hb4⟩ := hrel; obtain ⟨V4, rfl⟩ := zW wr; have HK := zH hkg; have HB4 := zH (HB3.o.trans (hb4.mono HB3.o.size)); have HB34 := zH hb4; have HI4 := zH (HI3.o.under hb4); have hkl : k <= qs.length := zO; clear hkg hb4; by_cases hlt : k < qs.length
    . obtain ⟨q, hq⟩ := zG hlt; have HFQ := zH (D4 (HF.o q (List.mem_of_getElem? hq))); have HAQ := zH (HA.o q (List.mem_of_getElem? hq)); obtain ⟨A', c', ea', _, _, hel⟩ := aW.at_ HI4.o; injection ea' with ea' _ ec'; subst ea' ec'; obtain ⟨Lq, hE, fv, iv, ov, vv, rfl, hfs, his, hos, hvs⟩ := hel k q hq; obtain ⟨Af, mf, cf, rfl, rfl⟩ := aW.shape hfs; obtain ⟨Ai, mi, ci, rfl, rfl⟩ := aW.shape his; obtain ⟨Ao, mo, co, rfl, rfl⟩ := aW.shape hos; obtain ⟨Av, mv, cv, rfl, rfl⟩ := aW.shape hvs; obtain ⟨a, ea, ha, haa, c0, c1, c2, c3⟩ := Hp hE; subst ea; have HFS := zH hfs; have HVS := zH hvs; have HIS := zH (aW.at_ his); have HOS := zH (aW.at_ hos)
      have CEL := zH (show ∀ W, Below V4.heap.size V4 W -> W.cell? (a.add (k * 4)) = some (.slice Af q.funs.length cf) /\ W.cell? { block := (a.add (k * 4)).block, off := (a.add (k * 4)).off + 1 } = some (.slice Ai q.sg.ins.length ci) /\ W.cell? { block := (a.add (k * 4)).block, off := (a.add (k * 4)).off + 2 } = some (.slice Ao q.sg.outs.length co) /\ W.cell? { block := (a.add (k * 4)).block, off := (a.add (k * 4)).off + 3 } = some (.slice Av q.vars.length cv) from
       λ W hW => ⟨(hW.cell haa).trans c0, (hW.cell (p := { block := (a.add (k * 4)).block, off := (a.add (k * 4)).off + 1 }) haa).trans c1, (hW.cell (p := { block := (a.add (k * 4)).block, off := (a.add (k * 4)).off + 2 }) haa).trans c2, (hW.cell (p := { block := (a.add (k * 4)).block, off := (a.add (k * 4)).off + 3 }) haa).trans c3⟩)
      have hfl : q.funs.length <= 9223372036854775807 := (by obtain ⟨A', c', e, hc, hm, _⟩ := aW.at_ hfs; injection e with e1 e2 e3; subst e3; unfold maxLen at hm; omega); have hvl : q.vars.length <= 9223372036854775807 := (by have := HFQ.o; omega); clear hq hel hE hfs his hos hvs c0 c1 c2 c3; go_wp2_with fail
      go_loopg [6, 7] q.funs.length (λ g ov v wr => ∃ j : Nat, j + g = q.funs.length /\ v = .int .i64 j /\ JT V4 ov (gd (q.funs.take j)) wr)
      case atStart => exact ⟨0, by omega, rfl, JT.start _⟩
      case round =>
       obtain ⟨j, hjg, rfl, hj5⟩ := hrel; obtain ⟨V5, rfl⟩ := zW wr; obtain ⟨A5, m5, k5, rfl, hm5⟩ := aW.shape hj5.2; have HM5 := zH hm5; have HJG := zH hjg; have HJ5 := zH hj5; have hjl : j <= q.funs.length := zO; obtain ⟨c0, c1, c2, c3⟩ := CEL.o V5 hj5.1; clear hjg hj5 hm5; by_cases hjt : j < q.funs.length
       . obtain ⟨s, hs⟩ := zG hjt; obtain ⟨B', b', eb, _, _, hbl⟩ := aW.at_ HFS.o; injection eb with eb _ eb'; subst eb eb'; obtain ⟨Ls, hEs, si, so, rfl, hsi, hso⟩ := hbl j s hs; obtain ⟨Bi, ni, di, rfl, rfl⟩ := aW.shape hsi; obtain ⟨Bo, no, do', rfl, rfl⟩ := aW.shape hso; obtain ⟨b, eb, hb, hbb, d0, d1, d2⟩ := ix hEs; subst eb; have HSI := zH (aW.at_ hsi); have HSO := zH (aW.at_ hso); have HTK := zH (sQ hs); have HLN := zH (show (gd (q.funs.take j) ++ s.ins ++ s.outs).length <= 4194304 by rw [<- sQ hs]; have := Gh q.funs (j + 1); have := HFQ.o; omega)
         have KEEP := zH (show ∀ W, Below V4.heap.size V5 W -> (λ W => W.cell? (a.add (k * 4)) = some (.slice (some b) q.funs.length cf) /\ W.cell? { block := (b.add (j * 3)).block, off := (b.add (j * 3)).off + 1 } = some (.slice Bi s.ins.length di) /\ W.cell? { block := (b.add (j * 3)).block, off := (b.add (j * 3)).off + 2 } = some (.slice Bo s.outs.length do')) W from
          λ W hW => by
           have hW4 := HJ5.o.1.trans hW; obtain ⟨p0, p1, p2, p3⟩ := CEL.o W hW4; exact ⟨p0, (hW4.cell (p := { block := (b.add (j * 3)).block, off := (b.add (j * 3)).off + 1 }) hbb).trans d1, (hW4.cell (p := { block := (b.add (j * 3)).block, off := (b.add (j * 3)).off + 2 }) hbb).trans d2⟩)
         clear hs hbl hEs hsi hso d0 d1 d2; go_wp2_with fail
         refine wp_region_held_drew (S := (λ W => W.cell? (a.add (k * 4)) = some (.slice (some b) q.funs.length cf) /\ W.cell? { block := (b.add (j * 3)).block, off := (b.add (j * 3)).off + 1 } = some (.slice Bi s.ins.length di) /\ W.cell? { block := (b.add (j * 3)).block, off := (b.add (j * 3)).off + 2 } = some (.slice Bo s.outs.length do'))) zK ?_ (λ hHeld => ?_)
         . exact KEEP.o _ (Below.refl _ _).drew
         refine aa 0 ?_; refine aa 1 ?_; refine aa 2 ?_; refine aa 3 ?_; refine aa 4 ?_; refine aa 5 ?_; refine aa 6 ?_; refine aa 7 ?_; refine aa 8 ?_; refine aa 9 ?_; refine aa 10 ?_; refine aa 12 ?_; refine aa 13 ?_; refine aa 14 ?_; refine aa 15 ?_; refine aa 16 ?_; refine aa 17 ?_; refine aa 18 ?_; refine aa 19 ?_; refine aa 20 ?_; refine aa 21 ?_; refine aq 11 zK rfl (λ K hK => ?_)
         (refine oY (xs := gd (q.funs.take j)) (ys := s.ins) HJ5.o.drew HSI.o (by have := HLN.o; simp only [List.length_append] at this; omega) rfl _ _ rfl rfl rfl ?_
          intro A6 m6 k6 w6 hj6 hb6; obtain ⟨V6, rfl⟩ := zW w6; have HJ6 := zH hj6; have HB6 := zH ((Below.refl V4.heap.size V5).drew.trans hb6); clear hj6 hb6)
         refine hK.out _ _ (KEEP.o _ ?_) (λ hHeld => ?_)
         . (repeat (first | exact Below.refl _ _ | exact HB6.o | refine Below.drew ?_ | refine Below.alloc ?_ (by simp) _ | refine Below.setCell ?_ (by simp) _))
         clear hK K; try simp only [Act.put, aO, aM, aN]
         refine aq 22 zK rfl (λ K hK => ?_)
         (refine oY (xs := gd (q.funs.take j) ++ s.ins) (ys := s.outs) HJ6.o HSO.o (by have := HLN.o; simp only [List.length_append] at this ⊢; omega) rfl _ _ rfl rfl rfl ?_
          intro A7 m7 k7 w7 hj7 hb7; obtain ⟨V7, rfl⟩ := zW w7; have HJ7 := zH hj7; have HB7 := zH (HB6.o.trans hb7); clear hj7 hb7)
         refine hK.out _ _ (KEEP.o _ ?_) (λ hHeld => ?_)
         . (repeat (first | exact Below.refl _ _ | exact HB7.o | refine Below.drew ?_ | refine Below.alloc ?_ (by simp) _ | refine Below.setCell ?_ (by simp) _))
         clear hK K; try simp only [Act.put, aO, aM, aN]
         refine aa 23 ?_; refine wpAnyH_done zK ?_ _; clear KEEP; go_wp2_with fail
         go_roundg (q.funs.length - (j + 1))
         case measure => have := HJG.o; omega
         case rel => exact ⟨j + 1, by omega, by go_num, by rw [HTK.o]; exact HJ7.o⟩
       . have hje : j = q.funs.length := by omega
         subst hje; rw [List.take_length] at HJ5
         have KEEP := zH (show ∀ W, Below V4.heap.size V5 W -> (λ W => W.cell? { block := (a.add (k * 4)).block, off := (a.add (k * 4)).off + 1 } = some (.slice Ai q.sg.ins.length ci) /\ W.cell? { block := (a.add (k * 4)).block, off := (a.add (k * 4)).off + 2 } = some (.slice Ao q.sg.outs.length co)) W from
          λ W hW => by
           obtain ⟨p0, p1, p2, p3⟩ := CEL.o W (HJ5.o.1.trans hW); exact ⟨p1, p2⟩)
         go_wp2_with fail
         refine wp_region_held_drew (S := (λ W => W.cell? { block := (a.add (k * 4)).block, off := (a.add (k * 4)).off + 1 } = some (.slice Ai q.sg.ins.length ci) /\ W.cell? { block := (a.add (k * 4)).block, off := (a.add (k * 4)).off + 2 } = some (.slice Ao q.sg.outs.length co))) zK ?_ (λ hHeld => ?_)
         . exact KEEP.o _ (Below.refl _ _).drew
         refine aa 0 ?_; refine aa 1 ?_; refine aa 2 ?_; refine aa 3 ?_; refine aa 4 ?_; refine aa 5 ?_; refine aa 6 ?_; refine aa 8 ?_; refine aa 9 ?_; refine aa 10 ?_; refine aa 11 ?_; refine aa 12 ?_; refine aa 13 ?_; refine aq 7 zK rfl (λ K hK => ?_)
         (refine oY (xs := gd q.funs) (ys := q.sg.ins) HJ5.o.drew HIS.o (by have := HFQ.o; omega) rfl _ _ rfl rfl rfl ?_
          intro A6 m6 k6 w6 hj6 hb6; obtain ⟨V6, rfl⟩ := zW w6; have HJ6 := zH hj6; have HB6 := zH ((Below.refl V4.heap.size V5).drew.trans hb6); clear hj6 hb6)
         refine hK.out _ _ (KEEP.o _ ?_) (λ hHeld => ?_)
         . (repeat (first | exact Below.refl _ _ | exact HB6.o | refine Below.drew ?_ | refine Below.alloc ?_ (by simp) _ | refine Below.setCell ?_ (by simp) _))
         clear hK K; try simp only [Act.put, aO, aM, aN]
         refine aq 14 zK rfl (λ K hK => ?_)
         (refine oY (xs := gd q.funs ++ q.sg.ins) (ys := q.sg.outs) HJ6.o HOS.o (by have := HFQ.o; simp only [List.length_append] at this ⊢; omega) rfl _ _ rfl rfl rfl ?_
          intro A7 m7 k7 w7 hj7 hb7; obtain ⟨V7, rfl⟩ := zW w7; have HJ7 := zH hj7; have HB7 := zH (HB6.o.trans hb7); clear hj7 hb7)
         refine hK.out _ _ (KEEP.o _ ?_) (λ hHeld => ?_)
         . (repeat (first | exact Below.refl _ _ | exact HB7.o | refine Below.drew ?_ | refine Below.alloc ?_ (by simp) _ | refine Below.setCell ?_ (by simp) _))
         clear hK K; try simp only [Act.put, aO, aM, aN]
         refine aa 15 ?_; refine wpAnyH_done zK ?_ _; clear KEEP; have HJ8 := zH HJ7.o; clear HJ7; go_wp2_with fail
         go_loopg [6, 8] q.vars.length (λ g ov v wr => ∃ j : Nat, j + g = q.vars.length /\ v = .int .i64 j /\ JT V4 ov (gd q.funs ++ q.sg.ins ++ q.sg.outs ++ (q.vars.take j).map Prod.snd) wr)
         case atStart => exact ⟨0, by omega, rfl, by rw [List.take_zero, List.map_nil, List.append_nil]; exact HJ8.o⟩
         case round =>
          obtain ⟨i, hig, rfl, hj9⟩ := hrel; obtain ⟨V9, rfl⟩ := zW wr; obtain ⟨A9, m9, k9, rfl, hm9⟩ := aW.shape hj9.2; have HM9 := zH hm9; have HIG := zH hig; have HJ9 := zH hj9; have hil : i <= q.vars.length := zO; obtain ⟨_, _, _, _⟩ := CEL.o V9 hj9.1; clear hig hj9 hm9; by_cases hit : i < q.vars.length
          . obtain ⟨s, hs⟩ := zG hit; obtain ⟨B', b', eb, _, _, hbl⟩ := aW.at_ (HVS.o.under HJ9.o.1); injection eb with eb _ eb'; subst eb eb'; obtain ⟨Ls, hEs, rfl, hsl⟩ := hbl i s hs; obtain ⟨b, eb, hb, hbb, d0, d1, d2⟩ := ix hEs; subst eb; have HTK := zH (map_take hs); have HLN := zH (show (gd q.funs ++ q.sg.ins ++ q.sg.outs ++ (q.vars.take i).map Prod.snd).length <= 4194303 by simp only [List.length_append, List.length_map, List.length_take]; have := HFQ.o; omega); have HAL9 := zH (zA V9 (.cells #[.int .i64 s.2] 40)); have HO9 := zH (aW.under HJ9.o.2 HAL9.o); have HBV := zH (HJ9.o.1.trans (HAL9.o.mono HJ9.o.1.size)); have HX9 := zH (show TyC [.int .i64 s.2] s.2 from rfl); clear hs hbl hEs d0 d2
            go_wp2_with (at_builtin
                         refine px underlying33 tt rfl zD zD tr tp rfl _ _ rfl rfl rfl (heap_alloc_new _ _) HX9.o HO9.o HLN.o HBV.o.size ?_; intro v5 w5 h5 g5; obtain ⟨V10, rfl⟩ := zW w5; have HN5 := zH (show JT V4 v5 _ V10 from ⟨HBV.o.grown g5 HBV.o.size (λ g hg => (HO9.o.blk hg).1), h5⟩); obtain ⟨B6, m6, c6, rfl, hm6⟩ := h5.shape; clear h5 g5)
            go_roundg (q.vars.length - (i + 1))
            case measure => have := HIG.o; omega
            case rel => exact ⟨i + 1, by omega, by go_num, by rw [HTK.o, <- List.append_assoc]; have := HN5.o; rw [hm6] at this; simpa [Nat.min_eq_left hil] using this⟩
          . have hie : i = q.vars.length := by omega
            subst hie; rw [List.take_length] at HJ9 HM9; have HML := zH (show m9 = (qv q).length from HM9.o); have HJL := zH (show JT V4 (.slice A9 m9 k9) (qv q) V9 from HJ9.o); have HB9 := zH (HB4.o.trans (HJL.o.1.mono HB4.o.size)); have hm9 : m9 <= 9223372036854775807 := by
             have := HM9.o; have := HFQ.o; simp only [List.length_append, List.length_map] at *; omega
            clear HJ9 HM9; go_wp2_with fail
            go_loopg [9, 10] m9 (λ g nv v wr => ∃ (b : Nat) (nx : Int), b + g = m9 /\ v = .int .i64 b /\ nv = .int .i64 nx /\ -(b : Int) - 1 <= nx /\ nx <= -1 /\ nQ nx ((qv q).drop b) = true /\ Below V9.heap.size V9 wr)
            case atStart => exact ⟨0, -1, by omega, rfl, rfl, by omega, by omega, HAQ.o, Below.refl _ _⟩
            case round =>
             obtain ⟨b, nx, hbg, rfl, rfl, hn1, hn2, hnf, hb10⟩ := hrel; obtain ⟨V10, rfl⟩ := zW wr; have HBG := zH hbg; have HB10 := zH hb10; have HN1 := zH hn1; have HN2 := zH hn2; have hbl : b <= m9 := zO; clear hbg hb10 hn1 hn2; by_cases hbt : b < m9
             . have hbq : b < (qv q).length := by rw [<- HML.o]; exact hbt
               obtain ⟨x, hx⟩ := zG hbq; have hnf' : nQ nx (x :: (qv q).drop (b + 1)) = true := by
                rw [List.drop_eq_getElem_cons hbq] at hnf; rw [List.getElem?_eq_getElem hbq] at hx; injection hx with hx; rw [<- hx]; exact hnf
               obtain ⟨hx1, hx0, hx2⟩ := Br hnf'; obtain ⟨B', b', eb, _, _, hel⟩ := aW.at_ HJL.o.2; injection eb with eb em eb'; clear em; subst eb eb'; obtain ⟨Lx, hEx, rfl⟩ := hel b x hx; obtain ⟨c, ec, _, hcc, q0⟩ := dQ hEx; subst ec; rw [Nat.mul_one] at hcc q0; have q1 := (HB10.o.cell (p := c.add b) hcc).trans q0; have hxn : nx <= x := zO; have HX2 := zH hx2; clear hnf hnf' hbq hx hel hEx q0 hx2; by_cases hxe : x = nx
               . have HX3 := zH (show nQ (nx - 1) ((qv q).drop (b + 1)) = true by have := HX2.o; rwa [if_pos hxe] at this); subst hxe; have hl1 := HN1.o; have hl2 := HN2.o; go_wp2_with fail
                 go_roundg (m9 - (b + 1))
                 case measure => have := HBG.o; omega
                 case rel => exact ⟨b + 1, x - 1, by omega, by go_num, by go_num, by omega, by omega, HX3.o, HB10.o⟩
               . have HX3 := zH (show nQ nx ((qv q).drop (b + 1)) = true by have := HX2.o; rwa [if_neg hxe] at this); go_wp2_with fail
                 go_roundg (m9 - (b + 1))
                 case measure => have := HBG.o; omega
                 case rel => exact ⟨b + 1, nx, by omega, by go_num, by rfl, by have := HN1.o; omega, HN2.o, HX3.o, HB10.o⟩
             . go_wp2_with fail
               go_roundg (qs.length - (k + 1))
               case measure => have := HK.o; omega
               case rel => exact ⟨k + 1, by omega, by go_num, HB34.o.trans ((HJL.o.1.trans (HB10.o.mono HJL.o.1.size)).mono HB34.o.size)⟩
    . go_wp2_with fail
      go_ret; exact ⟨rfl, HB4.o⟩
 . go_wp2_with (first
    | (go_at_call 4; (with_reducible refine (qo _).mono ?_); rintro e w1 ⟨rfl, hb1⟩; obtain ⟨V1, rfl⟩ := zW w1; have HB1 := zH (HAL.o.trans (hb1.mono HAL.o.size)); have BP1 := zH (ao hb1 BP.o); obtain ⟨_, _⟩ := bb BP1.o; clear hb1)
    | (go_at_call 5; (with_reducible refine (HINF.o _ HB1.o).mono ?_); rintro e w2 ⟨v2, rfl, hi2, hb2⟩; obtain ⟨V2, rfl⟩ := zW w2; obtain ⟨A3, n3, k3, rfl, rfl⟩ := aW.shape hi2; have HB2 := zH (HB1.o.trans (hb2.mono HB1.o.size)); clear hi2 hb2))
   go_ret; exact ⟨rfl, HB2.o.alloc HB2.o.size _⟩
theorem vH (L : List Value) (p : cy) (w : World) (hL : ef w L p) (hp : fD p <= 1048576) : Calls prog 3 #[.agg L.toArray] w (Fa w) := yf hL hp
end Go.Proofs.YtccihplmmfmonaaGreatDoor
