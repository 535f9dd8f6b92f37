/-
  SugarSamples: the walk.
-/
import Derived.Test.YtaimagfdjbedeaaGreatDoorSugLiv
import Derived.Test.YtaimagfdjbedeaaGreatDoorSugRS
import Derived.Test.YtaimagfdjbedeaaGreatDoorSugSa2
import Derived.Test.YtaimagfdjbedeaaGreatDoorSugVar
import Derived.Test.YtaimagfdjbedeaaGreatDoorTreeSize
import Derived.Test.YtaimagfdjbedeaaGreatDoorTreeRSame
import Derived.Test.YtaimagfdjbedeaaGreatDoorTreeOpen
import Derived.Test.YtaimagfdjbedeaaGreatDoorSxLaid
namespace Go.Proofs.YtaimagfdjbedeaaGreatDoor
open Go.RowKit

def Lived (w : World) (e : Ending) (w' : World) : Prop := e = .returned (.bool true) ∧ Below w.heap.size w w'
theorem slimS_of : ∀ x : Ex, wX x ≤ 1048576 → Slim x := by
  intro x
  induction x using Ex.rec (motive_2 := fun l => wXs l ≤ 1048576 → SlimL l) with
  | mk o nm n cs ks ih =>
    intro h
    rw [wX] at h
    have h1 : cs.length ≤ wN cs := by
      clear h ih
      induction cs with
      | nil => simp
      | cons c r ih => simp only [wN] at ih ⊢; simp only [List.length_cons]; omega
    have h2 : ks.length ≤ wXs ks := by
      clear h ih
      induction ks with
      | nil => simp
      | cons k r ih => obtain ⟨o, a, b, c, d⟩ := k; rw [wXs, wX, List.length_cons]; omega
    rw [Slim]
    exact ⟨by omega, by omega, ih (by omega)⟩
  | nil h => rw [SlimL]; trivial
  | cons k r ih1 ih2 h =>
    rw [wXs] at h
    rw [SlimL]
    exact ⟨ih1 (by omega), ih2 (by omega)⟩
set_option maxRecDepth 100000 in
set_option maxHeartbeats 2000000 in
theorem samples_law {w : World} {L : List Value} {y : Ex} {x con : Tx} (hy : ExAt w L y) (hs : Slim y) (hx : x.length ≤ maxLen) (hcon : con.length ≤ maxLen) (htab : Tab w) : Calls Tryz.prog 3 #[.agg L.toArray, .string (str x), .string (str con)] w (Lived w) := by
  have HS := Lib.hid (sample_any hx hcon hy hs)
  have HRS := Lib.hid (rs_any hx hcon y L hy hs)
  have HSZ := Lib.hid (size_any hy)
  have HV := Lib.hid (vars_any hy)
  have HG := Lib.hid (grown_size x con y)
  have HY := Lib.hid hy
  obtain ⟨o1, s1, n1, A1, m1, k1, A2, m2, k2, rfl⟩ := hy.shape
  have hal := Lib.hid ((Below.refl w.heap.size w).alloc (Nat.le_refl _) (.cells #[.int .i64 o1, .string s1, .int .i64 n1, .slice A1 m1 k1, .slice A2 m2 k2] 25))
  have BP := Lib.hid (heap_alloc_new w (.cells #[.int .i64 o1, .string s1, .int .i64 n1, .slice A1 m1 k1, .slice A2 m2 k2] 25))
  have HT := Lib.hid (htab.under hal.out)
  clear hy hs hx hcon htab
  go_enter Tryz.func3, Tryz.ntmps3
  go_wp2_with (first
    | (go_at_call 4
       (with_reducible refine (lives6_any HT.out).mono ?_)
       rintro e w1 ⟨rfl, hb1⟩
       obtain ⟨V1, rfl⟩ : ∃ W, W = w1 := ⟨_, rfl⟩
       have HB1 := Lib.hid (hal.out.trans (hb1.mono hal.out.size))
       have BP1 := Lib.hid (box_next hb1 BP.out)
       obtain ⟨p0, p1, p2, p3, p4⟩ := row5 BP1.out
       clear hb1)
    | (go_at_call 5
       (with_reducible refine (HS.out _ HB1.out).mono ?_)
       rintro e w2 ⟨hb2, M, rfl, hM⟩
       obtain ⟨V2, rfl⟩ : ∃ W, W = w2 := ⟨_, rfl⟩
       have HM := Lib.hid (hM.sub (new_sub _ _))
       obtain ⟨o3, s3, n3, A3, m3, k3, A4, m4, k4, rfl⟩ := hM.shape
       have HB2 := Lib.hid ((HB1.out.trans (hb2.mono HB1.out.size)).alloc (Nat.le_trans HB1.out.size hb2.size) (.cells #[.int .i64 o3, .string s3, .int .i64 n3, .slice A3 m3 k3, .slice A4 m4 k4] 25))
       have BP2 := Lib.hid (heap_alloc_keep (o := .cells #[.int .i64 o3, .string s3, .int .i64 n3, .slice A3 m3 k3, .slice A4 m4 k4] 25) (box_next hb2 BP1.out))
       have BS2 := Lib.hid (heap_alloc_new V2 (.cells #[.int .i64 o3, .string s3, .int .i64 n3, .slice A3 m3 k3, .slice A4 m4 k4] 25))
       have HM2 := Lib.hid (HM.out.under ((Below.refl V2.heap.size V2).alloc (Nat.le_refl _) (.cells #[.int .i64 o3, .string s3, .int .i64 n3, .slice A3 m3 k3, .slice A4 m4 k4] 25)))
       clear hb2 hM))
  clear HM
  generalize hN : V2.heap.size = N at *
  generalize V2.alloc (.cells #[.int .i64 o3, .string s3, .int .i64 n3, .slice A3 m3 k3, .slice A4 m4 k4] 25) = V at *
  have KEEP := Lib.hid (show ∀ W, Below V.heap.size V W → (fun W => (W.cell? ⟨w.heap.size, 0, none⟩ = some (.int .i64 o1) ∧ W.cell? ⟨w.heap.size, 1, none⟩ = some (.string s1) ∧ W.cell? ⟨w.heap.size, 2, none⟩ = some (.int .i64 n1) ∧ W.cell? ⟨w.heap.size, 3, none⟩ = some (.slice A1 m1 k1) ∧ W.cell? ⟨w.heap.size, 4, none⟩ = some (.slice A2 m2 k2)) ∧ W.cell? ⟨N, 0, none⟩ = some (.int .i64 o3) ∧ W.cell? ⟨N, 1, none⟩ = some (.string s3) ∧ W.cell? ⟨N, 2, none⟩ = some (.int .i64 n3) ∧ W.cell? ⟨N, 3, none⟩ = some (.slice A3 m3 k3) ∧ W.cell? ⟨N, 4, none⟩ = some (.slice A4 m4 k4)) W from
    fun W hW => ⟨row5 (box_next hW BP2.out), row5 (box_next hW BS2.out)⟩)
  refine wp_region_held_drew (S := (fun W => (W.cell? ⟨w.heap.size, 0, none⟩ = some (.int .i64 o1) ∧ W.cell? ⟨w.heap.size, 1, none⟩ = some (.string s1) ∧ W.cell? ⟨w.heap.size, 2, none⟩ = some (.int .i64 n1) ∧ W.cell? ⟨w.heap.size, 3, none⟩ = some (.slice A1 m1 k1) ∧ W.cell? ⟨w.heap.size, 4, none⟩ = some (.slice A2 m2 k2)) ∧ W.cell? ⟨N, 0, none⟩ = some (.int .i64 o3) ∧ W.cell? ⟨N, 1, none⟩ = some (.string s3) ∧ W.cell? ⟨N, 2, none⟩ = some (.int .i64 n3) ∧ W.cell? ⟨N, 3, none⟩ = some (.slice A3 m3 k3) ∧ W.cell? ⟨N, 4, none⟩ = some (.slice A4 m4 k4))) (by kernel_rfl) ?_ (fun hHeld => ?_)
  · exact KEEP.out _ (Below.refl _ _).drew
  refine take_now 0 ?_
  refine take_now 1 ?_
  refine take_now 2 ?_
  refine take_now 3 ?_
  refine only_at 4 (by kernel_rfl) rfl (fun K hK => ?_)
  go_simp
  (go_at_call 7
   (with_reducible refine (HRS.out _ HB2.out.drew).mono ?_)
   rintro e w7 ⟨hb7, M, rfl, hM⟩
   obtain ⟨V3, rfl⟩ : ∃ W, W = w7 := ⟨_, rfl⟩
   have G1 := Lib.hid ((Below.refl V.heap.size V).drew.trans hb7)
   have HB3 := Lib.hid (HB2.out.trans (G1.out.mono HB2.out.size))
   obtain ⟨o5, s5, n5, A5, m5, k5, A6, m6, k6, rfl⟩ := hM.shape
   have HM7 := Lib.hid (hM.sub (Sub.trans (join_sub (new_sub _ _)) (join_of HB3.out)))
   clear hb7 hM)
  refine hK.out _ _ (KEEP.out _ ?_) (fun hHeld => ?_)
  · (repeat (first | exact Below.refl _ _ | exact G1.out | refine Below.drew ?_ | refine Below.alloc ?_ (by simp) _ | refine Below.setCell ?_ (by simp) _))
  clear hK K
  try simp only [Act.put, setA, setZ, setS]
  refine only_at 5 (by kernel_rfl) rfl (fun K hK => ?_)
  go_simp
  (go_at_call 6
   (with_reducible refine (rSameExpr_any _ _ _ _ (HM2.out.under G1.out) HM7.out _ (Below.refl _ _)).mono ?_)
   rintro e w7 ⟨rfl, hb7⟩
   obtain ⟨V4, rfl⟩ : ∃ W, W = w7 := ⟨_, rfl⟩
   rw [(sameX_iff _ _).2 rfl]
   have G2 := Lib.hid (G1.out.trans (hb7.mono G1.out.size))
   have HB4 := Lib.hid (HB2.out.trans (G2.out.mono HB2.out.size))
   clear hb7)
  refine hK.out _ _ (KEEP.out _ ?_) (fun hHeld => ?_)
  · (repeat (first | exact Below.refl _ _ | exact G2.out | refine Below.drew ?_ | refine Below.alloc ?_ (by simp) _ | refine Below.setCell ?_ (by simp) _))
  clear hK K
  try simp only [Act.put, setA, setZ, setS]
  refine take_now 6 ?_
  refine take_now 7 ?_
  refine take_now 9 ?_
  refine take_now 11 ?_
  refine only_at 8 (by kernel_rfl) rfl (fun K hK => ?_)
  go_simp
  (go_at_call 8
   (with_reducible refine (size_any HM2.out _ G2.out).mono ?_)
   rintro e w7 ⟨rfl, hb7⟩
   obtain ⟨V5, rfl⟩ : ∃ W, W = w7 := ⟨_, rfl⟩
   rw [HG.out]
   have G3 := Lib.hid (G2.out.trans (hb7.mono G2.out.size))
   have HB5 := Lib.hid (HB2.out.trans (G3.out.mono HB2.out.size))
   clear hb7)
  refine hK.out _ _ (KEEP.out _ ?_) (fun hHeld => ?_)
  · (repeat (first | exact Below.refl _ _ | exact G3.out | refine Below.drew ?_ | refine Below.alloc ?_ (by simp) _ | refine Below.setCell ?_ (by simp) _))
  clear hK K
  try simp only [Act.put, setA, setZ, setS]
  refine only_at 10 (by kernel_rfl) rfl (fun K hK => ?_)
  go_simp
  (go_at_call 8
   (with_reducible refine (HSZ.out _ HB5.out).mono ?_)
   rintro e w7 ⟨rfl, hb7⟩
   obtain ⟨V6, rfl⟩ : ∃ W, W = w7 := ⟨_, rfl⟩
   have G4 := Lib.hid (G3.out.trans (hb7.mono G3.out.size))
   have HB6 := Lib.hid (HB2.out.trans (G4.out.mono HB2.out.size))
   clear hb7)
  refine hK.out _ _ (KEEP.out _ ?_) (fun hHeld => ?_)
  · (repeat (first | exact Below.refl _ _ | exact G4.out | refine Below.drew ?_ | refine Below.alloc ?_ (by simp) _ | refine Below.setCell ?_ (by simp) _))
  clear hK K
  try simp only [Act.put, setA, setZ, setS]
  refine only_at 12 (by kernel_rfl) rfl (fun K hK => ?_)
  go_simp
  (go_at_call 9
   (with_reducible refine (HV.out _ HB6.out).mono ?_)
   rintro e w7 ⟨rfl, hb7⟩
   obtain ⟨V7, rfl⟩ : ∃ W, W = w7 := ⟨_, rfl⟩
   have G5 := Lib.hid (G4.out.trans (hb7.mono G4.out.size))
   have HB7 := Lib.hid (HB2.out.trans (G5.out.mono HB2.out.size))
   clear hb7)
  refine hK.out _ _ (KEEP.out _ ?_) (fun hHeld => ?_)
  · (repeat (first | exact Below.refl _ _ | exact G5.out | refine Below.drew ?_ | refine Below.alloc ?_ (by simp) _ | refine Below.setCell ?_ (by simp) _))
  clear hK K
  try simp only [Act.put, setA, setZ, setS]
  refine take_now 13 ?_
  refine take_now 14 ?_
  refine take_now 15 ?_
  refine take_now 16 ?_
  refine wpAnyH_done (by kernel_rfl) ?_ _
  go_wp2_with fail
  go_ret
  exact ⟨ret_bool (by rw [IntKind.wrap_i64]; unfold wrap64; exact beq_self_eq_true _), HB7.out⟩
end Go.Proofs.YtaimagfdjbedeaaGreatDoor
