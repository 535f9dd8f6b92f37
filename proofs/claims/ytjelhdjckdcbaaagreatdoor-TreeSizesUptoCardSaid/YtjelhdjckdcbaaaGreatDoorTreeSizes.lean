/-
  TreeSizes' walk, and TreeSizes at what came in.
-/
import Derived.Test.YtjelhdjckdcbaaaGreatDoorTreeRShD
import Derived.Test.YtjelhdjckdcbaaaGreatDoorTreeRSame
import Derived.Test.YtjelhdjckdcbaaaGreatDoorTreeSame
import Derived.Test.YtjelhdjckdcbaaaGreatDoorTreeLives
import Derived.Test.YtjelhdjckdcbaaaGreatDoorTreeLaid
namespace Go.Proofs.YtjelhdjckdcbaaaGreatDoor
open Go.RowKit

theorem str_self (s : Tx) : ((str s).toList == (str s).toList) = true := by simp
set_option maxHeartbeats 4000000 in
set_option maxRecDepth 100000 in
/-- the walk -/
theorem sizes_walk {w : World} (htab : Tab w) {o1 n1 o2 n2 : Int} {s1 s2 : ByteArray} {A1 A2 A3 A4 : Option Addr} {m1 k1 m2 k2 m3 k3 m4 k4 : Nat} {z : Int} {dz : Int} {S : Tx} {b : Bool}
    (HSZ : ∀ W, Below w.heap.size w W → Calls Tryz.prog 7 #[.agg #[.int .i64 o1, .string s1, .int .i64 n1, .slice A1 m1 k1, .slice A2 m2 k2]] W (IntPost z W))
    (HRZ : ∀ W, Below w.heap.size w W → Calls Tryz.prog 8 #[.agg #[.int .i64 o1, .string s1, .int .i64 n1, .slice A1 m1 k1, .slice A2 m2 k2]] W (IntPost z W))
    (HDP : ∀ W, Below w.heap.size w W → Calls Tryz.prog 9 #[.agg #[.int .i64 o1, .string s1, .int .i64 n1, .slice A1 m1 k1, .slice A2 m2 k2]] W (IntPost dz W))
    (HRD : ∀ W, Below w.heap.size w W → Calls Tryz.prog 10 #[.agg #[.int .i64 o1, .string s1, .int .i64 n1, .slice A1 m1 k1, .slice A2 m2 k2]] W (IntPost dz W))
    (HSH : ∀ W, Below w.heap.size w W → Calls Tryz.prog 11 #[.agg #[.int .i64 o1, .string s1, .int .i64 n1, .slice A1 m1 k1, .slice A2 m2 k2]] W (StrPost S W))
    (HRS : ∀ W, Below w.heap.size w W → Calls Tryz.prog 12 #[.agg #[.int .i64 o1, .string s1, .int .i64 n1, .slice A1 m1 k1, .slice A2 m2 k2]] W (StrPost S W))
    (HSE : ∀ W, Below w.heap.size w W → Calls Tryz.prog 13 #[.agg #[.int .i64 o1, .string s1, .int .i64 n1, .slice A1 m1 k1, .slice A2 m2 k2], .agg #[.int .i64 o2, .string s2, .int .i64 n2, .slice A3 m3 k3, .slice A4 m4 k4]] W (BoolPost b W))
    (HRE : ∀ W, Below w.heap.size w W → Calls Tryz.prog 14 #[.agg #[.int .i64 o1, .string s1, .int .i64 n1, .slice A1 m1 k1, .slice A2 m2 k2], .agg #[.int .i64 o2, .string s2, .int .i64 n2, .slice A3 m3 k3, .slice A4 m4 k4]] W (BoolPost b W))
    (HSA : ∀ W, Below w.heap.size w W → Calls Tryz.prog 13 #[.agg #[.int .i64 o1, .string s1, .int .i64 n1, .slice A1 m1 k1, .slice A2 m2 k2], .agg #[.int .i64 o1, .string s1, .int .i64 n1, .slice A1 m1 k1, .slice A2 m2 k2]] W (BoolPost true W)) :
    Calls Tryz.prog 3 #[.agg #[.int .i64 o1, .string s1, .int .i64 n1, .slice A1 m1 k1, .slice A2 m2 k2], .agg #[.int .i64 o2, .string s2, .int .i64 n2, .slice A3 m3 k3, .slice A4 m4 k4]] w (Lived w) := by
  have HTB := Lib.hid htab
  have HSZ := Lib.hid HSZ
  have HRZ := Lib.hid HRZ
  have HDP := Lib.hid HDP
  have HRD := Lib.hid HRD
  have HSH := Lib.hid HSH
  have HRS := Lib.hid HRS
  have HSE := Lib.hid HSE
  have HRE := Lib.hid HRE
  have HSA := Lib.hid HSA
  have hself := str_self S
  clear htab
  go_enter Tryz.func3, Tryz.ntmps3
  go_wp2_with (go_at_call 6
               refine (lives_any _ (HTB.out.under (((Below.refl _ w).alloc (Nat.le_refl _) _).alloc (by simp) _))).mono ?_
               rintro e w1 ⟨rfl, hb1⟩
               obtain ⟨V, rfl⟩ : ∃ W, W = w1 := ⟨_, rfl⟩
               have HV := Lib.hid ((((Below.refl _ w).alloc (Nat.le_refl _) _).alloc (by simp) _).trans (hb1.mono (by simp; omega)))
               have BA := Lib.hid (show V.heap[w.heap.size]? = some (.cells #[.int .i64 o1, .string s1, .int .i64 n1, .slice A1 m1 k1, .slice A2 m2 k2] 25 (0, 0)) from box_next hb1 (alloc_below (alloc_at rfl)))
               have BB := Lib.hid (show V.heap[w.heap.size + 1]? = some (.cells #[.int .i64 o2, .string s2, .int .i64 n2, .slice A3 m3 k3, .slice A4 m4 k4] 25 (0, 0)) from box_next hb1 (alloc_at (by simp)))
               clear hb1)
  obtain ⟨p0, p1, p2, p3, p4⟩ := row5 BA.out
  obtain ⟨r0, r1, r2, r3, r4⟩ := row5 BB.out
  have G0 := Lib.hid (Below.refl V.heap.size V).drew
  refine wp_region_held_drew (S := (fun W => W.cell? ⟨w.heap.size, 0, none⟩ = some (.int .i64 o1) ∧ W.cell? ⟨w.heap.size, 1, none⟩ = some (.string s1) ∧ W.cell? ⟨w.heap.size, 2, none⟩ = some (.int .i64 n1) ∧ W.cell? ⟨w.heap.size, 3, none⟩ = some (.slice A1 m1 k1) ∧ W.cell? ⟨w.heap.size, 4, none⟩ = some (.slice A2 m2 k2) ∧ W.cell? ⟨w.heap.size + 1, 0, none⟩ = some (.int .i64 o2) ∧ W.cell? ⟨w.heap.size + 1, 1, none⟩ = some (.string s2) ∧ W.cell? ⟨w.heap.size + 1, 2, none⟩ = some (.int .i64 n2) ∧ W.cell? ⟨w.heap.size + 1, 3, none⟩ = some (.slice A3 m3 k3) ∧ W.cell? ⟨w.heap.size + 1, 4, none⟩ = some (.slice A4 m4 k4))) (by kernel_rfl) ?_ (fun hHeld => ?_)
  · (try dsimp only); go_keep
  refine take_at 0 (v := ?_) rfl (by kernel_rfl) (by kernel_rfl) (by kernel_rfl) (fun _ _ _ h => h) (by rfl) ?_ (by assumption) ?_
  rotate_left
  · intro w hSw; (try dsimp only at hSw); go_simp; (try rw [if_neg (by assumption)]); (try rw [if_pos (by omega)]); (try simp only [hSw]); (try with_reducible rfl)
  try simp only [Act.put, List.setIfInBounds_toArray, List.set_cons_zero, List.set_cons_succ]
  refine take_at 2 (v := ?_) rfl (by kernel_rfl) (by kernel_rfl) (by kernel_rfl) (fun _ _ _ h => h) (by rfl) ?_ (by assumption) ?_
  rotate_left
  · intro w hSw; (try dsimp only at hSw); go_simp; (try rw [if_neg (by assumption)]); (try rw [if_pos (by omega)]); (try simp only [hSw]); (try with_reducible rfl)
  try simp only [Act.put, List.setIfInBounds_toArray, List.set_cons_zero, List.set_cons_succ]
  refine only_at 1 (by kernel_rfl) rfl (fun K hK => ?_)
  go_simp
  (go_at_call 7
   (with_reducible refine (HSZ.out _ (HV.out.trans (G0.out.mono HV.out.size))).mono ?_)
   rintro e w7 ⟨rfl, hb7⟩
   obtain ⟨z0, rfl⟩ : ∃ W, W = w7 := ⟨_, rfl⟩
   have G1 := Lib.hid (G0.out.trans (hb7.mono G0.out.size))
   obtain ⟨p0, p1, p2, p3, p4⟩ := row5 (box_next G1.out BA.out)
   obtain ⟨r0, r1, r2, r3, r4⟩ := row5 (box_next G1.out BB.out)
   clear hb7)
  refine hK.out _ _ ?_ (fun hHeld => ?_)
  · (try dsimp only); go_keep
  clear hK K
  try simp only [Act.put, List.setIfInBounds_toArray, List.set_cons_zero, List.set_cons_succ]
  refine only_at 3 (by kernel_rfl) rfl (fun K hK => ?_)
  go_simp
  (go_at_call 8
   (with_reducible refine (HRZ.out _ (HV.out.trans (G1.out.mono HV.out.size))).mono ?_)
   rintro e w7 ⟨rfl, hb7⟩
   obtain ⟨z1, rfl⟩ : ∃ W, W = w7 := ⟨_, rfl⟩
   have G2 := Lib.hid (G1.out.trans (hb7.mono G1.out.size))
   obtain ⟨p0, p1, p2, p3, p4⟩ := row5 (box_next G2.out BA.out)
   obtain ⟨r0, r1, r2, r3, r4⟩ := row5 (box_next G2.out BB.out)
   clear hb7)
  refine hK.out _ _ ?_ (fun hHeld => ?_)
  · (try dsimp only); go_keep
  clear hK K
  try simp only [Act.put, List.setIfInBounds_toArray, List.set_cons_zero, List.set_cons_succ]
  refine take_at 4 (v := ?_) rfl (by kernel_rfl) (by kernel_rfl) (by kernel_rfl) (fun _ _ _ h => h) (by rfl) ?_ (by assumption) ?_
  rotate_left
  · intro w hSw; (try dsimp only at hSw); go_simp; (try rw [if_neg (by assumption)]); (try rw [if_pos (by omega)]); (try simp only [hSw]); (try with_reducible rfl)
  try simp only [Act.put, List.setIfInBounds_toArray, List.set_cons_zero, List.set_cons_succ]
  refine take_at 5 (v := ?_) rfl (by kernel_rfl) (by kernel_rfl) (by kernel_rfl) (fun _ _ _ h => h) (by rfl) ?_ (by assumption) ?_
  rotate_left
  · intro w hSw; (try dsimp only at hSw); go_simp; (try rw [if_neg (by assumption)]); (try rw [if_pos (by omega)]); (try simp only [hSw]); (try with_reducible rfl)
  try simp only [Act.put, List.setIfInBounds_toArray, List.set_cons_zero, List.set_cons_succ]
  refine take_at 6 (v := ?_) rfl (by kernel_rfl) (by kernel_rfl) (by kernel_rfl) (fun _ _ _ h => h) (by rfl) ?_ (by assumption) ?_
  rotate_left
  · intro w hSw; (try dsimp only at hSw); go_simp; (try rw [if_neg (by assumption)]); (try rw [if_pos (by omega)]); (try simp only [hSw]); (try with_reducible rfl)
  try simp only [Act.put, List.setIfInBounds_toArray, List.set_cons_zero, List.set_cons_succ]
  refine take_at 8 (v := ?_) rfl (by kernel_rfl) (by kernel_rfl) (by kernel_rfl) (fun _ _ _ h => h) (by rfl) ?_ (by assumption) ?_
  rotate_left
  · intro w hSw; (try dsimp only at hSw); go_simp; (try rw [if_neg (by assumption)]); (try rw [if_pos (by omega)]); (try simp only [hSw]); (try with_reducible rfl)
  try simp only [Act.put, List.setIfInBounds_toArray, List.set_cons_zero, List.set_cons_succ]
  refine only_at 7 (by kernel_rfl) rfl (fun K hK => ?_)
  go_simp
  (go_at_call 9
   (with_reducible refine (HDP.out _ (HV.out.trans (G2.out.mono HV.out.size))).mono ?_)
   rintro e w7 ⟨rfl, hb7⟩
   obtain ⟨z2, rfl⟩ : ∃ W, W = w7 := ⟨_, rfl⟩
   have G3 := Lib.hid (G2.out.trans (hb7.mono G2.out.size))
   obtain ⟨p0, p1, p2, p3, p4⟩ := row5 (box_next G3.out BA.out)
   obtain ⟨r0, r1, r2, r3, r4⟩ := row5 (box_next G3.out BB.out)
   clear hb7)
  refine hK.out _ _ ?_ (fun hHeld => ?_)
  · (try dsimp only); go_keep
  clear hK K
  try simp only [Act.put, List.setIfInBounds_toArray, List.set_cons_zero, List.set_cons_succ]
  refine only_at 9 (by kernel_rfl) rfl (fun K hK => ?_)
  go_simp
  (go_at_call 10
   (with_reducible refine (HRD.out _ (HV.out.trans (G3.out.mono HV.out.size))).mono ?_)
   rintro e w7 ⟨rfl, hb7⟩
   obtain ⟨z3, rfl⟩ : ∃ W, W = w7 := ⟨_, rfl⟩
   have G4 := Lib.hid (G3.out.trans (hb7.mono G3.out.size))
   obtain ⟨p0, p1, p2, p3, p4⟩ := row5 (box_next G4.out BA.out)
   obtain ⟨r0, r1, r2, r3, r4⟩ := row5 (box_next G4.out BB.out)
   clear hb7)
  refine hK.out _ _ ?_ (fun hHeld => ?_)
  · (try dsimp only); go_keep
  clear hK K
  try simp only [Act.put, List.setIfInBounds_toArray, List.set_cons_zero, List.set_cons_succ]
  refine take_at 10 (v := ?_) rfl (by kernel_rfl) (by kernel_rfl) (by kernel_rfl) (fun _ _ _ h => h) (by rfl) ?_ (by assumption) ?_
  rotate_left
  · intro w hSw; (try dsimp only at hSw); go_simp; (try rw [if_neg (by assumption)]); (try rw [if_pos (by omega)]); (try simp only [hSw]); (try with_reducible rfl)
  try simp only [Act.put, List.setIfInBounds_toArray, List.set_cons_zero, List.set_cons_succ]
  refine take_at 11 (v := ?_) rfl (by kernel_rfl) (by kernel_rfl) (by kernel_rfl) (fun _ _ _ h => h) (by rfl) ?_ (by assumption) ?_
  rotate_left
  · intro w hSw; (try dsimp only at hSw); go_simp; (try rw [if_neg (by assumption)]); (try rw [if_pos (by omega)]); (try simp only [hSw]); (try with_reducible rfl)
  try simp only [Act.put, List.setIfInBounds_toArray, List.set_cons_zero, List.set_cons_succ]
  refine take_at 12 (v := ?_) rfl (by kernel_rfl) (by kernel_rfl) (by kernel_rfl) (fun _ _ _ h => h) (by rfl) ?_ (by assumption) ?_
  rotate_left
  · intro w hSw; (try dsimp only at hSw); go_simp; (try rw [if_neg (by assumption)]); (try rw [if_pos (by omega)]); (try simp only [hSw]); (try with_reducible rfl)
  try simp only [Act.put, List.setIfInBounds_toArray, List.set_cons_zero, List.set_cons_succ]
  refine take_at 13 (v := ?_) rfl (by kernel_rfl) (by kernel_rfl) (by kernel_rfl) (fun _ _ _ h => h) (by rfl) ?_ (by assumption) ?_
  rotate_left
  · intro w hSw; (try dsimp only at hSw); go_simp; (try rw [if_neg (by assumption)]); (try rw [if_pos (by omega)]); (try simp only [hSw]); (try with_reducible rfl)
  try simp only [Act.put, List.setIfInBounds_toArray, List.set_cons_zero, List.set_cons_succ]
  refine take_at 15 (v := ?_) rfl (by kernel_rfl) (by kernel_rfl) (by kernel_rfl) (fun _ _ _ h => h) (by rfl) ?_ (by assumption) ?_
  rotate_left
  · intro w hSw; (try dsimp only at hSw); go_simp; (try rw [if_neg (by assumption)]); (try rw [if_pos (by omega)]); (try simp only [hSw]); (try with_reducible rfl)
  try simp only [Act.put, List.setIfInBounds_toArray, List.set_cons_zero, List.set_cons_succ]
  refine only_at 14 (by kernel_rfl) rfl (fun K hK => ?_)
  go_simp
  (go_at_call 11
   (with_reducible refine (HSH.out _ (HV.out.trans (G4.out.mono HV.out.size))).mono ?_)
   rintro e w7 ⟨rfl, hb7⟩
   obtain ⟨z4, rfl⟩ : ∃ W, W = w7 := ⟨_, rfl⟩
   have G5 := Lib.hid (G4.out.trans (hb7.mono G4.out.size))
   obtain ⟨p0, p1, p2, p3, p4⟩ := row5 (box_next G5.out BA.out)
   obtain ⟨r0, r1, r2, r3, r4⟩ := row5 (box_next G5.out BB.out)
   clear hb7)
  refine hK.out _ _ ?_ (fun hHeld => ?_)
  · (try dsimp only); go_keep
  clear hK K
  try simp only [Act.put, List.setIfInBounds_toArray, List.set_cons_zero, List.set_cons_succ]
  refine only_at 16 (by kernel_rfl) rfl (fun K hK => ?_)
  go_simp
  (go_at_call 12
   (with_reducible refine (HRS.out _ (HV.out.trans (G5.out.mono HV.out.size))).mono ?_)
   rintro e w7 ⟨rfl, hb7⟩
   obtain ⟨z5, rfl⟩ : ∃ W, W = w7 := ⟨_, rfl⟩
   have G6 := Lib.hid (G5.out.trans (hb7.mono G5.out.size))
   obtain ⟨p0, p1, p2, p3, p4⟩ := row5 (box_next G6.out BA.out)
   obtain ⟨r0, r1, r2, r3, r4⟩ := row5 (box_next G6.out BB.out)
   clear hb7)
  refine hK.out _ _ ?_ (fun hHeld => ?_)
  · (try dsimp only); go_keep
  clear hK K
  try simp only [Act.put, List.setIfInBounds_toArray, List.set_cons_zero, List.set_cons_succ]
  refine take_at 17 (v := ?_) rfl (by kernel_rfl) (by kernel_rfl) (by kernel_rfl) (fun _ _ _ h => h) (by rfl) ?_ (by assumption) ?_
  rotate_left
  · intro w hSw; (try dsimp only at hSw); go_simp; (try rw [if_neg (by assumption)]); (try rw [if_pos (by omega)]); (try simp only [hSw]); (try with_reducible rfl)
  try simp only [Act.put, List.setIfInBounds_toArray, List.set_cons_zero, List.set_cons_succ]
  refine take_at 18 (v := ?_) rfl (by kernel_rfl) (by kernel_rfl) (by kernel_rfl) (fun _ _ _ h => h) (by rfl) ?_ (by assumption) ?_
  rotate_left
  · intro w hSw; (try dsimp only at hSw); go_simp; (try rw [if_neg (by assumption)]); (try rw [if_pos (by omega)]); (try simp only [hSw]); (try with_reducible rfl)
  try simp only [Act.put, List.setIfInBounds_toArray, List.set_cons_zero, List.set_cons_succ]
  refine take_at 19 (v := ?_) rfl (by kernel_rfl) (by kernel_rfl) (by kernel_rfl) (fun _ _ _ h => h) (by rfl) ?_ (by assumption) ?_
  rotate_left
  · intro w hSw; (try dsimp only at hSw); go_simp; (try rw [if_neg (by assumption)]); (try rw [if_pos (by omega)]); (try simp only [hSw]); (try with_reducible rfl)
  try simp only [Act.put, List.setIfInBounds_toArray, List.set_cons_zero, List.set_cons_succ]
  refine take_at 20 (v := ?_) rfl (by kernel_rfl) (by kernel_rfl) (by kernel_rfl) (fun _ _ _ h => h) (by rfl) ?_ (by assumption) ?_
  rotate_left
  · intro w hSw; (try dsimp only at hSw); go_simp; (try rw [if_neg (by assumption)]); (try rw [if_pos (by omega)]); (try simp only [hSw]); (try with_reducible rfl)
  try simp only [Act.put, List.setIfInBounds_toArray, List.set_cons_zero, List.set_cons_succ]
  refine take_at 21 (v := ?_) rfl (by kernel_rfl) (by kernel_rfl) (by kernel_rfl) (fun _ _ _ h => h) (by rfl) ?_ (by assumption) ?_
  rotate_left
  · intro w hSw; (try dsimp only at hSw); go_simp; (try rw [if_neg (by assumption)]); (try rw [if_pos (by omega)]); (try simp only [hSw]); (try with_reducible rfl)
  try simp only [Act.put, List.setIfInBounds_toArray, List.set_cons_zero, List.set_cons_succ]
  refine take_at 23 (v := ?_) rfl (by kernel_rfl) (by kernel_rfl) (by kernel_rfl) (fun _ _ _ h => h) (by rfl) ?_ (by assumption) ?_
  rotate_left
  · intro w hSw; (try dsimp only at hSw); go_simp; (try rw [if_neg (by assumption)]); (try rw [if_pos (by omega)]); (try simp only [hSw]); (try with_reducible rfl)
  try simp only [Act.put, List.setIfInBounds_toArray, List.set_cons_zero, List.set_cons_succ]
  refine take_at 24 (v := ?_) rfl (by kernel_rfl) (by kernel_rfl) (by kernel_rfl) (fun _ _ _ h => h) (by rfl) ?_ (by assumption) ?_
  rotate_left
  · intro w hSw; (try dsimp only at hSw); go_simp; (try rw [if_neg (by assumption)]); (try rw [if_pos (by omega)]); (try simp only [hSw]); (try with_reducible rfl)
  try simp only [Act.put, List.setIfInBounds_toArray, List.set_cons_zero, List.set_cons_succ]
  refine only_at 22 (by kernel_rfl) rfl (fun K hK => ?_)
  go_simp
  (go_at_call 13
   (with_reducible refine (HSE.out _ (HV.out.trans (G6.out.mono HV.out.size))).mono ?_)
   rintro e w7 ⟨rfl, hb7⟩
   obtain ⟨z6, rfl⟩ : ∃ W, W = w7 := ⟨_, rfl⟩
   have G7 := Lib.hid (G6.out.trans (hb7.mono G6.out.size))
   obtain ⟨p0, p1, p2, p3, p4⟩ := row5 (box_next G7.out BA.out)
   obtain ⟨r0, r1, r2, r3, r4⟩ := row5 (box_next G7.out BB.out)
   clear hb7)
  refine hK.out _ _ ?_ (fun hHeld => ?_)
  · (try dsimp only); go_keep
  clear hK K
  try simp only [Act.put, List.setIfInBounds_toArray, List.set_cons_zero, List.set_cons_succ]
  refine only_at 25 (by kernel_rfl) rfl (fun K hK => ?_)
  go_simp
  (go_at_call 14
   (with_reducible refine (HRE.out _ (HV.out.trans (G7.out.mono HV.out.size))).mono ?_)
   rintro e w7 ⟨rfl, hb7⟩
   obtain ⟨z7, rfl⟩ : ∃ W, W = w7 := ⟨_, rfl⟩
   have G8 := Lib.hid (G7.out.trans (hb7.mono G7.out.size))
   obtain ⟨p0, p1, p2, p3, p4⟩ := row5 (box_next G8.out BA.out)
   obtain ⟨r0, r1, r2, r3, r4⟩ := row5 (box_next G8.out BB.out)
   clear hb7)
  refine hK.out _ _ ?_ (fun hHeld => ?_)
  · (try dsimp only); go_keep
  clear hK K
  try simp only [Act.put, List.setIfInBounds_toArray, List.set_cons_zero, List.set_cons_succ]
  refine take_at 26 (v := ?_) rfl (by kernel_rfl) (by kernel_rfl) (by kernel_rfl) (fun _ _ _ h => h) (by rfl) ?_ (by assumption) ?_
  rotate_left
  · intro w hSw; (try dsimp only at hSw); go_simp; (try rw [if_neg (by assumption)]); (try rw [if_pos (by omega)]); (try simp only [hSw]); (try with_reducible rfl)
  try simp only [Act.put, List.setIfInBounds_toArray, List.set_cons_zero, List.set_cons_succ]
  refine take_at 27 (v := ?_) rfl (by kernel_rfl) (by kernel_rfl) (by kernel_rfl) (fun _ _ _ h => h) (by rfl) ?_ (by assumption) ?_
  rotate_left
  · intro w hSw; (try dsimp only at hSw); go_simp; (try rw [if_neg (by assumption)]); (try rw [if_pos (by omega)]); (try simp only [hSw]); (try with_reducible rfl)
  try simp only [Act.put, List.setIfInBounds_toArray, List.set_cons_zero, List.set_cons_succ]
  refine take_at 28 (v := ?_) rfl (by kernel_rfl) (by kernel_rfl) (by kernel_rfl) (fun _ _ _ h => h) (by rfl) ?_ (by assumption) ?_
  rotate_left
  · intro w hSw; (try dsimp only at hSw); go_simp; (try rw [if_neg (by assumption)]); (try rw [if_pos (by omega)]); (try simp only [hSw]); (try with_reducible rfl)
  try simp only [Act.put, List.setIfInBounds_toArray, List.set_cons_zero, List.set_cons_succ]
  refine take_at 29 (v := ?_) rfl (by kernel_rfl) (by kernel_rfl) (by kernel_rfl) (fun _ _ _ h => h) (by rfl) ?_ (by assumption) ?_
  rotate_left
  · intro w hSw; (try dsimp only at hSw); go_simp; (try rw [if_neg (by assumption)]); (try rw [if_pos (by omega)]); (try simp only [hSw]); (try with_reducible rfl)
  try simp only [Act.put, List.setIfInBounds_toArray, List.set_cons_zero, List.set_cons_succ]
  refine take_at 30 (v := ?_) rfl (by kernel_rfl) (by kernel_rfl) (by kernel_rfl) (fun _ _ _ h => h) (by rfl) ?_ (by assumption) ?_
  rotate_left
  · intro w hSw; (try dsimp only at hSw); go_simp; (try rw [if_neg (by assumption)]); (try rw [if_pos (by omega)]); (try simp only [hSw]); (try with_reducible rfl)
  try simp only [Act.put, List.setIfInBounds_toArray, List.set_cons_zero, List.set_cons_succ]
  refine only_at 31 (by kernel_rfl) rfl (fun K hK => ?_)
  go_simp
  (go_at_call 13
   (with_reducible refine (HSA.out _ (HV.out.trans (G8.out.mono HV.out.size))).mono ?_)
   rintro e w7 ⟨rfl, hb7⟩
   obtain ⟨z8, rfl⟩ : ∃ W, W = w7 := ⟨_, rfl⟩
   have G9 := Lib.hid (G8.out.trans (hb7.mono G8.out.size))
   obtain ⟨p0, p1, p2, p3, p4⟩ := row5 (box_next G9.out BA.out)
   obtain ⟨r0, r1, r2, r3, r4⟩ := row5 (box_next G9.out BB.out)
   clear hb7)
  refine hK.out _ _ ?_ (fun hHeld => ?_)
  · (try dsimp only); go_keep
  clear hK K
  try simp only [Act.put, List.setIfInBounds_toArray, List.set_cons_zero, List.set_cons_succ]
  refine take_at 32 (v := ?_) rfl (by kernel_rfl) (by kernel_rfl) (by kernel_rfl) (fun _ _ _ h => h) (by rfl) ?_ (by assumption) ?_
  rotate_left
  · intro w hSw; (try dsimp only at hSw); go_simp; (try rw [if_neg (by assumption)]); (try rw [if_pos (by omega)]); (try simp only [hSw]); (try with_reducible rfl)
  try simp only [Act.put, List.setIfInBounds_toArray, List.set_cons_zero, List.set_cons_succ]
  refine take_at 33 (v := ?_) rfl (by kernel_rfl) (by kernel_rfl) (by kernel_rfl) (fun _ _ _ h => h) (by rfl) ?_ (by assumption) ?_
  rotate_left
  · intro w hSw; (try dsimp only at hSw); go_simp; (try rw [if_neg (by assumption)]); (try rw [if_pos (by omega)]); (try simp only [hSw]); (try with_reducible rfl)
  try simp only [Act.put, List.setIfInBounds_toArray, List.set_cons_zero, List.set_cons_succ]
  refine wpAnyH_done (by kernel_rfl) ?_ _
  go_wp2_with fail
  go_ret
  exact ⟨rfl, HV.out.trans (G9.out.mono HV.out.size)⟩
theorem laid_sizes {W : World} (h : laidMetH Tryz.prog Rows.treeSizesUptoRow.laid W) : Tab W := by
  have h : laidMet Tryz.prog Rows.treeSizesUptoRow.laid W := h
  exact tab_head h.tail.tail
theorem sizes_law (L : List Value) (x : Ex) (M : List Value) (y : Ex) (w : World) (hx : ExAt w L x) (hq : wX x ≤ 1048576) (hy : ExAt w M y) (_ : wX y ≤ 1048576) (htab : Tab w) : Calls Tryz.prog 3 #[.agg L.toArray, .agg M.toArray] w (Lived w) := by
  have hs : SizeOk (toksX x) := size_of_wN (by have := toks_wN x hx.i64; omega)
  obtain ⟨o1, s1, n1, A1, m1, k1, A2, m2, k2, rfl⟩ := hx.shape
  obtain ⟨o2, s2, n2, A3, m3, k3, A4, m4, k4, rfl⟩ := hy.shape
  refine sizes_walk htab (z := sizeW x) (dz := depthW x) (S := txt x) (b := sameX x y) (fun W h => size_any hx W h) (fun W h => rSize_any hx W h) (fun W h => depth_any hx W h) (fun W h => rDepth_any hx W h)
    (fun W h => show_any htab hx hs h) (fun W h => rShow_any htab hx hq W h) (fun W h => sameExpr_any x y _ _ hx hy W h) (fun W h => rSameExpr_any x y _ _ hx hy W h) (fun W h => ?_)
  have := sameExpr_any x x _ _ hx hx W h
  rwa [(sameX_iff x x).2 rfl] at this
end Go.Proofs.YtjelhdjckdcbaaaGreatDoor
