/-
  CauseReads: the walk.
-/
import Derived.Test.YtifbdglhfoimjaaGreatDoorCauRef
import Derived.Test.YtifbdglhfoimjaaGreatDoorTreeRNm
import Derived.Test.YtifbdglhfoimjaaGreatDoorTreeOpen
import Derived.Test.YtifbdglhfoimjaaGreatDoorHeld
import Derived.Test.YtifbdglhfoimjaaGreatDoorCauLives
namespace Go.Proofs.YtifbdglhfoimjaaGreatDoor
open Go.RowKit

def Lived (w : World) (e : Ending) (w' : World) : Prop := e = .returned (.bool true) ∧ Below w.heap.size w w'
theorem occ_wX : ∀ x : Ex, (occX x).length ≤ wX x := by
  intro x
  induction x using Ex.ind with
  | h op nm n cs ks ih =>
    have hl : ∀ l : List Ex, (∀ k ∈ l, (occX k).length ≤ wX k) → (l.flatMap occX).length ≤ wXs l := by
      intro l
      induction l with
      | nil => intro _; simp [wXs]
      | cons y r ihr =>
        intro h
        have h1 := h y (by simp)
        have h2 := ihr (fun k hk => h k (by simp [hk]))
        rw [List.flatMap_cons, List.length_append, wXs]
        omega
    have h1 : ((readK op ks).flatMap occX).length ≤ (ks.flatMap occX).length := by
      unfold readK
      split
      · simp
      · split
        · exact flatK_le occX ks 1
        · exact Nat.le_refl _
    have h2 := hl ks ih
    have h3 : (hereX op nm).length ≤ 1 := by unfold hereX; split <;> simp
    rw [occX_mk, List.length_append, wX]
    omega
set_option maxRecDepth 100000 in
set_option maxHeartbeats 2000000 in
theorem reads_law {w : World} {L : List Value} {x : Ex} (hx : ExAt w L x) (hq : wX x ≤ 1048576) : Calls Tryz.prog 3 #[.agg L.toArray] w (Lived w) := by
  have hoc : (occX x).length ≤ 2097152 := by have := occ_wX x; omega
  have HR := Lib.hid (reads_any hx hoc)
  have HQ := Lib.hid (readsR_all hx hoc)
  obtain ⟨o1, s1, n1, A1, m1, k1, A2, m2, k2, rfl⟩ := hx.shape
  have hal := Lib.hid ((Below.refl w.heap.size w).alloc (Nat.le_refl _) (.cells #[.int .i64 o1, .string s1, .int .i64 n1, .slice A1 m1 k1, .slice A2 m2 k2] 25))
  have BP := Lib.hid (heap_alloc_new w (.cells #[.int .i64 o1, .string s1, .int .i64 n1, .slice A1 m1 k1, .slice A2 m2 k2] 25))
  clear hx hq hoc
  go_enter Tryz.func3, Tryz.ntmps3
  go_wp2_with fail
  generalize w.alloc (.cells #[.int .i64 o1, .string s1, .int .i64 n1, .slice A1 m1 k1, .slice A2 m2 k2] 25) = V at *
  have KEEP := Lib.hid (show ∀ W, Below V.heap.size V W → (fun W => W.cell? ⟨w.heap.size, 0, none⟩ = some (.int .i64 o1) ∧ W.cell? ⟨w.heap.size, 1, none⟩ = some (.string s1) ∧ W.cell? ⟨w.heap.size, 2, none⟩ = some (.int .i64 n1) ∧ W.cell? ⟨w.heap.size, 3, none⟩ = some (.slice A1 m1 k1) ∧ W.cell? ⟨w.heap.size, 4, none⟩ = some (.slice A2 m2 k2)) W from
    fun W hW => by
      obtain ⟨p0, p1, p2, p3, p4⟩ := row5 (box_next hW BP.out)
      exact ⟨p0, p1, p2, p3, p4⟩)
  refine wp_region_held_drew (S := (fun W => W.cell? ⟨w.heap.size, 0, none⟩ = some (.int .i64 o1) ∧ W.cell? ⟨w.heap.size, 1, none⟩ = some (.string s1) ∧ W.cell? ⟨w.heap.size, 2, none⟩ = some (.int .i64 n1) ∧ W.cell? ⟨w.heap.size, 3, none⟩ = some (.slice A1 m1 k1) ∧ W.cell? ⟨w.heap.size, 4, none⟩ = some (.slice A2 m2 k2))) (by kernel_rfl) ?_ (fun hHeld => ?_)
  · exact KEEP.out _ (Below.refl _ _).drew
  refine only_at 0 (by kernel_rfl) rfl (fun K hK => ?_)
  go_simp
  (go_at_call 6
   (with_reducible refine (lives11_any _).mono ?_)
   rintro e w7 ⟨rfl, hb7⟩
   obtain ⟨V1, rfl⟩ : ∃ W, W = w7 := ⟨_, rfl⟩
   have G1 := Lib.hid ((Below.refl V.heap.size V).drew.trans hb7)
   have HB1 := Lib.hid (hal.out.trans (G1.out.mono hal.out.size))
   clear hb7)
  refine hK.out _ _ (KEEP.out _ ?_) (fun hHeld => ?_)
  · (repeat (first | exact Below.refl _ _ | exact G1.out | refine Below.drew ?_ | refine Below.alloc ?_ (by simp) _ | refine Below.setCell ?_ (by simp) _))
  clear hK K
  try simp only [Act.put, setA, setZ, setS]
  refine take_now 1 rfl ?_
  try simp only [Act.put, setA, setZ, setS]
  refine take_now 2 rfl ?_
  try simp only [Act.put, setA, setZ, setS]
  refine take_now 4 rfl ?_
  try simp only [Act.put, setA, setZ, setS]
  refine only_at 3 (by kernel_rfl) rfl (fun K hK => ?_)
  go_simp
  (go_at_call 8
   (with_reducible refine (HR.out _ HB1.out).mono ?_)
   rintro e w7 ⟨v7, rfl, ho7, hb7⟩
   obtain ⟨V2, rfl⟩ : ∃ W, W = w7 := ⟨_, rfl⟩
   have HS1 := Lib.hid ho7.strs
   obtain ⟨A7, n7, c7, rfl, rfl⟩ := ho7.shape
   have G2 := Lib.hid (G1.out.trans (hb7.mono G1.out.size))
   have HB2 := Lib.hid (hal.out.trans (G2.out.mono hal.out.size))
   clear hb7 ho7)
  refine hK.out _ _ (KEEP.out _ ?_) (fun hHeld => ?_)
  · (repeat (first | exact Below.refl _ _ | exact G2.out | refine Below.drew ?_ | refine Below.alloc ?_ (by simp) _ | refine Below.setCell ?_ (by simp) _))
  clear hK K
  refine only_at 5 (by kernel_rfl) rfl (fun K hK => ?_)
  go_simp
  (go_at_call 9
   (with_reducible refine (HQ.out _ HB2.out).mono ?_)
   rintro e w7 ⟨v8, rfl, ho8, hb8⟩
   obtain ⟨V3, rfl⟩ : ∃ W, W = w7 := ⟨_, rfl⟩
   have HS2 := Lib.hid ho8.strs
   have HS3 := Lib.hid (HS1.out.under hb8)
   obtain ⟨A8, n8, c8, rfl, rfl⟩ := ho8.shape
   have G3 := Lib.hid (G2.out.trans (hb8.mono G2.out.size))
   have HB3 := Lib.hid (hal.out.trans (G3.out.mono hal.out.size))
   clear hb8 ho8)
  refine hK.out _ _ (KEEP.out _ ?_) (fun hHeld => ?_)
  · (repeat (first | exact Below.refl _ _ | exact G3.out | refine Below.drew ?_ | refine Below.alloc ?_ (by simp) _ | refine Below.setCell ?_ (by simp) _))
  clear hK K
  refine only_at 6 (by kernel_rfl) rfl (fun K hK => ?_)
  go_simp
  (go_at_call 7
   (with_reducible refine (rSameNames_any HS3.out HS2.out _ (Below.refl _ _)).mono ?_)
   rintro e w7 ⟨rfl, hb9⟩
   obtain ⟨V4, rfl⟩ : ∃ W, W = w7 := ⟨_, rfl⟩
   rw [show (readsX x == readsX x) = true by simp]
   have G4 := Lib.hid (G3.out.trans (hb9.mono G3.out.size))
   have HB4 := Lib.hid (hal.out.trans (G4.out.mono hal.out.size))
   clear hb9)
  refine hK.out _ _ (KEEP.out _ ?_) (fun hHeld => ?_)
  · (repeat (first | exact Below.refl _ _ | exact G4.out | refine Below.drew ?_ | refine Below.alloc ?_ (by simp) _ | refine Below.setCell ?_ (by simp) _))
  clear hK K
  refine take_now 7 rfl ?_
  try simp only [Act.put, setA, setZ, setS]
  refine take_now 8 rfl ?_
  try simp only [Act.put, setA, setZ, setS]
  refine wpAnyH_done (by kernel_rfl) ?_ _
  go_wp2_with fail
  go_ret
  exact ⟨rfl, HB4.out⟩
theorem reads_call (L : List Value) (x : Ex) (w : World) (hx : ExAt w L x) (hq : wX x ≤ 1048576) : Calls Tryz.prog 3 #[.agg L.toArray] w (Lived w) := reads_law hx hq
end Go.Proofs.YtifbdglhfoimjaaGreatDoor
