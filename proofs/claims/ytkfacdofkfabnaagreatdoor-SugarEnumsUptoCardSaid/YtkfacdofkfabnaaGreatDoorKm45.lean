import Derived.Lib.Hide
import Derived.Test.YtkfacdofkfabnaaGreatDoorChecked
import Derived.Test.YtkfacdofkfabnaaGreatDoorShelf
import Derived.WalkKit
import Derived.Test.YtkfacdofkfabnaaGreatDoorKm03
set_option maxHeartbeats 1000000
set_option maxRecDepth 10000
namespace Go.Proofs.YtkfacdofkfabnaaGreatDoor
open _root_.Go.Proofs.Tryz
open Go.RowKit
theorem zt (w : World) : Sem.run prog (Instr.typeAssert .nilIface 20 29 true) w = .ok (.tuple #[.agg #[.int .i64 0, .int .i64 0, .int .i64 0], .bool false]) w := by kernel_rfl
theorem xo : Sx.Idle prog 35 := by
 refine ⟨λ xs w => by kernel_rfl, λ p w => ?_⟩; refine callsD_of_wpS func35 rfl λ c₀ cs hu => ?_; have hr : recoverD (c₀ :: cs) = none := (by simp [recoverD, hu]); have ha := zt; have HU := zH hu; clear hu; apply wpS_seq; apply wpS_region; simp [wpOpsS, go_sem, hr, ha, ntmps35, Exit.thenS]; have ht : ∀ V : Value, V = .agg #[.int .i64 0, .int .i64 0, .int .i64 0] -> (#[Value.pointer (some p)] ++ (((((((Array.replicate 9 undef).setIfInBounds 3 .nilIface).setIfInBounds 4 (.tuple #[V, .bool false])).setIfInBounds 2 (.tuple #[V, .bool false])).setIfInBounds 5 V).setIfInBounds 6 (.bool false)).setIfInBounds 0 (.pointer (some ⟨w.heap.size, 0, none⟩))).setIfInBounds 1 (.bool false)) =
  #[.pointer (some p), .pointer (some ⟨w.heap.size, 0, none⟩), .bool false, .tuple #[V, .bool false], .nilIface, .tuple #[V, .bool false], V, .bool false, undef, undef] := λ V _ => by simp [Array.replicate]
 rw [ht _ rfl]; clear ht ha hr; refine wpS_of_wp ?_; go_wp2; exact ⟨rfl, _, by rw [<- HU.o], _, results_none rfl _ _ _, ⟨_, rfl⟩, rfl, (Below.refl _ w).alloc (Nat.le_refl _) _⟩
theorem zg : Sx.SameStr prog 79 := by
 refine ⟨λ xs w => by kernel_rfl, λ s w hs => ?_⟩; go_enter func79, ntmps79
 go_wp2_with (go_at_call 124; refine (Any.stringslite_Clone laysM316 _ _ zO).mono ?_; rintro e w' ⟨rfl, hb⟩)
 go_ret; exact ⟨rfl, hb⟩
theorem vY : ∀ f, Sx.hasN f [35] = true -> Sx.Idle prog f := λ f h => by
 have h : Sx.ifB (Nat.beq 35 f) true false = true := h
 cases hb : Nat.beq 35 f with
 | false => rw [hb] at h; cases h
 | true => rw [<- Nat.eq_of_beq_eq_true hb]; exact xo
theorem uL : ∀ f, Sx.hasN f [79] = true -> Sx.SameStr prog f := λ f h => by
 have h : Sx.ifB (Nat.beq 79 f) true false = true := h
 cases hb : Nat.beq 79 f with
 | false => rw [hb] at h; cases h
 | true => rw [<- Nat.eq_of_beq_eq_true hb]; exact zg
end Go.Proofs.YtkfacdofkfabnaaGreatDoor
