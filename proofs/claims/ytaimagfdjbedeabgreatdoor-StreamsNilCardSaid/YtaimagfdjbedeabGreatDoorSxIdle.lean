/-
  What a closed run takes as told: what parse.whole puts off does nothing where no panic came, and strings.Clone answers its string.
-/
import Derived.Test.YtaimagfdjbedeabGreatDoorSx23
import Derived.Test.YtaimagfdjbedeabGreatDoorChecked
import Derived.Test.YtaimagfdjbedeabGreatDoorShelf
import Derived.WalkKit
import Derived.Lib.Hide
import Derived.Defers
import Derived.Recover
namespace Go.Proofs.YtaimagfdjbedeabGreatDoor
open Go.RowKit

theorem assert_nil (w : World) : Sem.run Tryz.prog (Instr.typeAssert .nilIface 20 35 true) w = .ok (.tuple #[.agg #[.int .i64 0, .int .i64 0, .int .i64 0], .bool false]) w := by kernel_rfl
set_option maxRecDepth 10000 in
set_option maxHeartbeats 1000000 in
theorem whole_idle : Sx.Idle Tryz.prog 24 := by
  refine ⟨fun xs w => by kernel_rfl, fun p w => ?_⟩
  refine callsD_of_wpS Tryz.func24 rfl fun c₀ cs hu => ?_
  have hr : recoverD (c₀ :: cs) = none := by simp [recoverD, hu]
  have ha := assert_nil
  have HU := Lib.hid hu
  clear hu
  apply wpS_seq
  apply wpS_region
  simp [wpOpsS, go_sem, hr, ha, Tryz.ntmps24, Exit.thenS]
  have ht : ∀ V : Value, V = .agg #[.int .i64 0, .int .i64 0, .int .i64 0] → (#[Value.pointer (some p)] ++ (((((((Array.replicate 9 undef).setIfInBounds 3 .nilIface).setIfInBounds 4 (.tuple #[V, .bool false])).setIfInBounds 2 (.tuple #[V, .bool false])).setIfInBounds 5 V).setIfInBounds 6 (.bool false)).setIfInBounds 0 (.pointer (some ⟨w.heap.size, 0, none⟩))).setIfInBounds 1 (.bool false)) =
    #[.pointer (some p), .pointer (some ⟨w.heap.size, 0, none⟩), .bool false, .tuple #[V, .bool false], .nilIface, .tuple #[V, .bool false], V, .bool false, undef, undef] := fun V _ => by simp [Array.replicate]
  rw [ht _ rfl]
  clear ht ha hr
  refine wpS_of_wp ?_
  go_wp2
  exact ⟨rfl, _, by rw [← HU.out], _, results_none rfl _ _ _, ⟨_, rfl⟩, rfl, (Below.refl _ w).alloc (Nat.le_refl _) _⟩
theorem clone_same : Sx.SameStr Tryz.prog 46 := by
  refine ⟨fun xs w => by kernel_rfl, fun s w hs => ?_⟩
  go_enter Tryz.func46, Tryz.ntmps46
  go_wp2_with (go_at_call 94; refine (Any.stringslite_Clone Tryz.laysM316 _ _ (by omega)).mono ?_; rintro e w' ⟨rfl, hb⟩)
  go_ret
  exact ⟨rfl, hb⟩
theorem idle_all : ∀ f, Sx.hasN f [24] = true → Sx.Idle Tryz.prog f := fun f h => by
  have h : Sx.ifB (Nat.beq 24 f) true false = true := h
  cases hb : Nat.beq 24 f with
  | false => rw [hb] at h; cases h
  | true => rw [← Nat.eq_of_beq_eq_true hb]; exact whole_idle
theorem same_all : ∀ f, Sx.hasN f [46] = true → Sx.SameStr Tryz.prog f := fun f h => by
  have h : Sx.ifB (Nat.beq 46 f) true false = true := h
  cases hb : Nat.beq 46 f with
  | false => rw [hb] at h; cases h
  | true => rw [← Nat.eq_of_beq_eq_true hb]; exact clone_same
end Go.Proofs.YtaimagfdjbedeabGreatDoor
