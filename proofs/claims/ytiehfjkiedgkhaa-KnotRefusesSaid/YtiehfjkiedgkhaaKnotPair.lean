/-
  Two numbers beside each other, held against two.
-/
import Derived.Test.YtiehfjkiedgkhaaKnotAlike
import Derived.Laws.StructEq
namespace Go.Proofs.Ytiehfjkiedgkhaa
open Go.RowKit

theorem pair_info : (Try.prog.info? 40).map (fun i => (i.zero, i.size, i.bytes)) = some (some (.agg #[.int .i64 0, .int .i64 0]), 2, 16) := by kernel_rfl
theorem int_size : (Try.prog.info? 3).map (·.size) = some 1 := by kernel_rfl
theorem neq_pair (a b : Int) (w : World) : (binOp .neq 40 (.agg #[.int .i64 a, .int .i64 b]) (.agg #[.int .i64 a, .int .i64 b])).run Try.prog w = .ok (.bool false) w := by
  obtain ⟨i, hi, hs⟩ := Option.map_eq_some_iff.1 int_size
  rw [run_neq_struct]
  have h : ∀ d : Nat, (Op.equalIn (d + 2) 40 (.agg #[.int .i64 a, .int .i64 b]) (.agg #[.int .i64 a, .int .i64 b])).run Try.prog w = .ok true w := fun d => by
    simp [Op.equalIn, run_underlying Try.underlying40, run_underlying Try.underlying3, sizeOf, typeInfo, hi, hs, part, go_sem, List.range', Std.Legacy.Range.forIn_eq_forIn_range']
  rw [h 9998]
  rfl
end Go.Proofs.Ytiehfjkiedgkhaa
