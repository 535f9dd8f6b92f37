/-
  slices.Grow of no slice at all: a row of the call's own.
-/
import Derived.Test.YtbpbnebcbjacdaaGreatOwnStr
import Derived.Shelf.Spec.SlicesGrow
namespace Go.Proofs
open Go.Shelf
shelf_lay_g Lays8.n4 Nm8 4 at Tryz 117 as Tryz.growS
end Go.Proofs
namespace Go.Proofs.YtbpbnebcbjacdaaGreat
open Go.RowKit

/-- a row of the call's own -/
def OwnPost (l : List Tx) (w : World) (e : Ending) (w' : World) : Prop := ∃ v, e = .returned v ∧ OwnS w.heap.size w' v l ∧ Below w.heap.size w w'
theorem grow_zero (w : World) : Calls Tryz.prog 117 #[.slice none 0 0, .int .i64 0] w (OwnPost [] w) :=
  (Any8.slices_Grow_room Tryz.growS none 0 0 0 w (by omega) (by omega) (by omega) (by omega)).mono fun e w' ⟨h1, h2⟩ => ⟨_, h1, OwnS.nil _ _, by rw [h2]; exact Below.refl _ _⟩
theorem grow_some {n : Nat} (h0 : 0 < n) (hn : n ≤ 4194304) (w : World) : Calls Tryz.prog 117 #[.slice none 0 0, .int .i64 n] w (OwnPost [] w) := by
  obtain ⟨i0, hi, hz0, hz1, hz2⟩ := info_parts str_info
  refine (Any8.slices_Grow_grow Tryz.growS i0 (.string ⟨#[]⟩) hi hz0 (by omega) none 0 0 n [] w (by omega) (by omega) (by rw [hz2]; omega) (by omega) (by simp) (by simp) (by simp)).mono fun e w' ⟨h1, h2⟩ => ⟨_, h1, ?_, ?_⟩
  · have ht : Tryz.growS_ren.t 25 = 9 := rfl
    rw [ht] at h2 ⊢
    have hge := grownCap_ge w (0 + n) 0 9
    have hcm : grownCap w (0 + n) 0 9 ≤ maxLen := grownCap_le_maxLen w _ _ _ (by unfold maxLen; omega)
    rw [h2]
    refine ⟨⟨rfl, .inr ⟨w.heap.size, _, _, rfl, Nat.le_refl _, heap_alloc_new w.drew _, Nat.zero_le _, hcm, ?_, by simp⟩⟩, by simp⟩
    simp [Builtin.zeroCells, Value.cells] at hge ⊢
    omega
  · rw [h2]
    exact (Below.refl _ w).drew.alloc (Nat.le_refl _) _
end Go.Proofs.YtbpbnebcbjacdaaGreat
