/-
  TreeRight's walk, and TreeRight at what came in.
-/
import Derived.Test.YtjelhdjckdcbaaaGreatDoorTreeRR
import Derived.Test.YtjelhdjckdcbaaaGreatDoorTreePrint
import Derived.Test.YtjelhdjckdcbaaaGreatDoorTreeLives
import Derived.Test.YtjelhdjckdcbaaaGreatDoorTreeWt
import Derived.Test.YtjelhdjckdcbaaaGreatDoorTreeLaid
import Derived.Test.YtjelhdjckdcbaaaGreatDoorHeld
namespace Go.Proofs.YtjelhdjckdcbaaaGreatDoor
open Go.RowKit

set_option maxHeartbeats 4000000 in
set_option maxRecDepth 100000 in
/-- the walk -/
theorem right_walk {w : World} (htab : Tab w) {p : QProg} {A1 A2 : Option Addr} {n1 k1 n2 k2 : Nat} (hL : ProgAt w [.slice A1 n1 k1, .slice A2 n2 k2] p) (hq : ∀ x ∈ p.nodes, (nodeX x).length ≤ 1048576) :
    Calls Tryz.prog 4 #[.agg #[.slice A1 n1 k1, .slice A2 n2 k2]] w (Lived w) := by
  have HTB := Lib.hid htab
  have HIT := Lib.hid (right_any true hL hq)
  have HIF := Lib.hid (right_any false hL hq)
  have HRT := Lib.hid (rRight_any true hL hq)
  have HRF := Lib.hid (rRight_any false hL hq)
  generalize rightL true p = nt at HIT HRT
  generalize rightL false p = nf at HIF HRF
  clear hL hq htab
  go_enter Tryz.func4, Tryz.ntmps4
  go_wp2_with fail
  generalize hV : w.alloc (.cells #[.slice A1 n1 k1, .slice A2 n2 k2] 33) = V
  have BA := Lib.hid (show V.heap[w.heap.size]? = some (.cells #[.slice A1 n1 k1, .slice A2 n2 k2] 33 (0, 0)) by rw [← hV]; exact alloc_at rfl)
  have HV := Lib.hid (show Below w.heap.size w V by rw [← hV]; exact (Below.refl _ w).alloc (Nat.le_refl _) _)
  clear hV
  obtain ⟨p0, p1⟩ := row2 BA.out
  refine wp_region_held_drew (S := (fun W => W.cell? ⟨w.heap.size, 0, none⟩ = some (.slice A1 n1 k1) ∧ W.cell? ⟨w.heap.size, 1, none⟩ = some (.slice A2 n2 k2))) (by kernel_rfl) ?_ (fun hHeld => ?_)
  · (try dsimp only); go_keep
  refine only_at 0 (by kernel_rfl) rfl (fun K hK => ?_)
  go_simp
  (go_at_call 6
   refine (lives_any _ (HTB.out.under (HV.out.drew))).mono ?_
   rintro e w7 ⟨rfl, hb7⟩
   obtain ⟨z0, rfl⟩ : ∃ W, W = w7 := ⟨_, rfl⟩
   have G0 := Lib.hid ((Below.refl V.heap.size V).drew.trans hb7)
   obtain ⟨p0, p1⟩ := row2 (box_next G0.out BA.out)
   clear hb7)
  refine hK.out _ _ ?_ (fun hHeld => ?_)
  · (try dsimp only); go_keep
  clear hK K
  try simp only [Act.put, List.setIfInBounds_toArray, List.set_cons_zero, List.set_cons_succ]
  refine take_at 1 (v := ?_) rfl (by kernel_rfl) (by kernel_rfl) (by kernel_rfl) (fun _ _ _ h => h) (by rfl) ?_ (by assumption) ?_
  rotate_left
  · intro w hSw; (try dsimp only at hSw); go_simp; (try with_reducible rfl)
  try simp only [Act.put, List.setIfInBounds_toArray, List.set_cons_zero, List.set_cons_succ]
  refine take_at 2 (v := ?_) rfl (by kernel_rfl) (by kernel_rfl) (by kernel_rfl) (fun _ _ _ h => h) (by rfl) ?_ (by assumption) ?_
  rotate_left
  · intro w hSw; (try dsimp only at hSw); go_simp; (try with_reducible rfl)
  try simp only [Act.put, List.setIfInBounds_toArray, List.set_cons_zero, List.set_cons_succ]
  refine take_at 4 (v := ?_) rfl (by kernel_rfl) (by kernel_rfl) (by kernel_rfl) (fun _ _ _ h => h) (by rfl) ?_ (by assumption) ?_
  rotate_left
  · intro w hSw; (try dsimp only at hSw); go_simp; (try with_reducible rfl)
  try simp only [Act.put, List.setIfInBounds_toArray, List.set_cons_zero, List.set_cons_succ]
  refine only_at 3 (by kernel_rfl) rfl (fun K hK => ?_)
  go_simp
  (go_at_call 15
   (with_reducible refine (HIT.out _ (HV.out.trans (G0.out.mono HV.out.size))).mono ?_)
   rintro e w7 ⟨rfl, hb7⟩
   obtain ⟨z1, rfl⟩ : ∃ W, W = w7 := ⟨_, rfl⟩
   have G1 := Lib.hid (G0.out.trans (hb7.mono G0.out.size))
   obtain ⟨p0, p1⟩ := row2 (box_next G1.out BA.out)
   clear hb7)
  refine hK.out _ _ ?_ (fun hHeld => ?_)
  · (try dsimp only); go_keep
  clear hK K
  try simp only [Act.put, List.setIfInBounds_toArray, List.set_cons_zero, List.set_cons_succ]
  refine only_at 5 (by kernel_rfl) rfl (fun K hK => ?_)
  go_simp
  (go_at_call 16
   (with_reducible refine (HRT.out _ (HV.out.trans (G1.out.mono HV.out.size))).mono ?_)
   rintro e w7 ⟨rfl, hb7⟩
   obtain ⟨z2, rfl⟩ : ∃ W, W = w7 := ⟨_, rfl⟩
   have G2 := Lib.hid (G1.out.trans (hb7.mono G1.out.size))
   obtain ⟨p0, p1⟩ := row2 (box_next G2.out BA.out)
   clear hb7)
  refine hK.out _ _ ?_ (fun hHeld => ?_)
  · (try dsimp only); go_keep
  clear hK K
  try simp only [Act.put, List.setIfInBounds_toArray, List.set_cons_zero, List.set_cons_succ]
  refine take_at 6 (v := ?_) rfl (by kernel_rfl) (by kernel_rfl) (by kernel_rfl) (fun _ _ _ h => h) (by rfl) ?_ (by assumption) ?_
  rotate_left
  · intro w hSw; (try dsimp only at hSw); go_simp; (try with_reducible rfl)
  try simp only [Act.put, List.setIfInBounds_toArray, List.set_cons_zero, List.set_cons_succ]
  refine take_at 7 (v := ?_) rfl (by kernel_rfl) (by kernel_rfl) (by kernel_rfl) (fun _ _ _ h => h) (by rfl) ?_ (by assumption) ?_
  rotate_left
  · intro w hSw; (try dsimp only at hSw); go_simp; (try with_reducible rfl)
  try simp only [Act.put, List.setIfInBounds_toArray, List.set_cons_zero, List.set_cons_succ]
  refine take_at 8 (v := ?_) rfl (by kernel_rfl) (by kernel_rfl) (by kernel_rfl) (fun _ _ _ h => h) (by rfl) ?_ (by assumption) ?_
  rotate_left
  · intro w hSw; (try dsimp only at hSw); go_simp; (try with_reducible rfl)
  try simp only [Act.put, List.setIfInBounds_toArray, List.set_cons_zero, List.set_cons_succ]
  refine take_at 9 (v := ?_) rfl (by kernel_rfl) (by kernel_rfl) (by kernel_rfl) (fun _ _ _ h => h) (by rfl) ?_ (by assumption) ?_
  rotate_left
  · intro w hSw; (try dsimp only at hSw); go_simp; (try with_reducible rfl)
  try simp only [Act.put, List.setIfInBounds_toArray, List.set_cons_zero, List.set_cons_succ]
  refine take_at 11 (v := ?_) rfl (by kernel_rfl) (by kernel_rfl) (by kernel_rfl) (fun _ _ _ h => h) (by rfl) ?_ (by assumption) ?_
  rotate_left
  · intro w hSw; (try dsimp only at hSw); go_simp; (try with_reducible rfl)
  try simp only [Act.put, List.setIfInBounds_toArray, List.set_cons_zero, List.set_cons_succ]
  refine only_at 10 (by kernel_rfl) rfl (fun K hK => ?_)
  go_simp
  (go_at_call 15
   (with_reducible refine (HIF.out _ (HV.out.trans (G2.out.mono HV.out.size))).mono ?_)
   rintro e w7 ⟨rfl, hb7⟩
   obtain ⟨z3, rfl⟩ : ∃ W, W = w7 := ⟨_, rfl⟩
   have G3 := Lib.hid (G2.out.trans (hb7.mono G2.out.size))
   obtain ⟨p0, p1⟩ := row2 (box_next G3.out BA.out)
   clear hb7)
  refine hK.out _ _ ?_ (fun hHeld => ?_)
  · (try dsimp only); go_keep
  clear hK K
  try simp only [Act.put, List.setIfInBounds_toArray, List.set_cons_zero, List.set_cons_succ]
  refine only_at 12 (by kernel_rfl) rfl (fun K hK => ?_)
  go_simp
  (go_at_call 16
   (with_reducible refine (HRF.out _ (HV.out.trans (G3.out.mono HV.out.size))).mono ?_)
   rintro e w7 ⟨rfl, hb7⟩
   obtain ⟨z4, rfl⟩ : ∃ W, W = w7 := ⟨_, rfl⟩
   have G4 := Lib.hid (G3.out.trans (hb7.mono G3.out.size))
   obtain ⟨p0, p1⟩ := row2 (box_next G4.out BA.out)
   clear hb7)
  refine hK.out _ _ ?_ (fun hHeld => ?_)
  · (try dsimp only); go_keep
  clear hK K
  try simp only [Act.put, List.setIfInBounds_toArray, List.set_cons_zero, List.set_cons_succ]
  refine take_at 13 (v := ?_) rfl (by kernel_rfl) (by kernel_rfl) (by kernel_rfl) (fun _ _ _ h => h) (by rfl) ?_ (by assumption) ?_
  rotate_left
  · intro w hSw; (try dsimp only at hSw); go_simp; (try with_reducible rfl)
  try simp only [Act.put, List.setIfInBounds_toArray, List.set_cons_zero, List.set_cons_succ]
  refine take_at 14 (v := ?_) rfl (by kernel_rfl) (by kernel_rfl) (by kernel_rfl) (fun _ _ _ h => h) (by rfl) ?_ (by assumption) ?_
  rotate_left
  · intro w hSw; (try dsimp only at hSw); go_simp; (try with_reducible rfl)
  try simp only [Act.put, List.setIfInBounds_toArray, List.set_cons_zero, List.set_cons_succ]
  refine take_at 15 (v := ?_) rfl (by kernel_rfl) (by kernel_rfl) (by kernel_rfl) (fun _ _ _ h => h) (by rfl) ?_ (by assumption) ?_
  rotate_left
  · intro w hSw; (try dsimp only at hSw); go_simp; (try with_reducible rfl)
  try simp only [Act.put, List.setIfInBounds_toArray, List.set_cons_zero, List.set_cons_succ]
  refine wpAnyH_done (by kernel_rfl) ?_ _
  go_wp2_with fail
  go_ret
  exact ⟨rfl, HV.out.trans (G4.out.mono HV.out.size)⟩
theorem laid_right {W : World} (h : laidMetH Tryz.prog Rows.treeRightUptoRow.laid W) : Tab W := by
  have h : laidMet Tryz.prog Rows.treeRightUptoRow.laid W := h
  exact tab_head h.tail.tail
theorem right_law (L : List Value) (p : QProg) (w : World) (hL : ProgAt w L p) (hp : wProg p ≤ 1048576) (htab : Tab w) : Calls Tryz.prog 4 #[.agg L.toArray] w (Lived w) := by
  obtain ⟨A1, n1, k1, A2, n2, k2, rfl⟩ := hL.shape
  exact right_walk htab hL (prog_few hp)
end Go.Proofs.YtjelhdjckdcbaaaGreatDoor
