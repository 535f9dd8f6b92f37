/-
  Texts joined.
-/
import Derived.Test.YtlhmdjhfmhkllaaGreatDoorKb12
import Derived.Test.YtlhmdjhfmhkllaaGreatDoorKb50
namespace Go.Proofs.YtlhmdjhfmhkllaaGreatDoor
open Go.RowKit
def Ex3At (w : World) (L : List Value) (x : Ex × Ex × Ex) : Prop := ∃ L0 L1 L2, L = L0 ++ L1 ++ L2 ∧ ExAt w L0 x.1 ∧ ExAt w L1 x.2.1 ∧ ExAt w L2 x.2.2
def wX3 (x : Ex × Ex × Ex) : Nat := max (wX x.1) (max (wX x.2.1) (wX x.2.2))
theorem laid_binds {W : World} (h : laidMetH Tryz.prog Rows.parseBindsUptoRow.laid W) : Tab W ∧ Errs W := by
  have h : laidMet Tryz.prog Rows.parseBindsUptoRow.laid W := h; exact ⟨tab_head h.tail.tail, laid_iface h.tail.tail.tail.tail (by kernel_rfl) (by kernel_rfl) Tryz.underlying145, laid_iface h.tail.tail.tail (by kernel_rfl) (by kernel_rfl) Tryz.underlying145⟩
theorem binds_law (L : List Value) (x : Ex × Ex × Ex) (a b : Int) (w : World) (hL : Ex3At w L x) (hq : wX3 x ≤ 1048576) (h : Tab w ∧ Errs w) : Calls Tryz.prog 5 #[.agg L.toArray, .agg #[.int .i64 a, .int .i64 b]] w (Lived w) := by
  obtain ⟨L0, L1, L2, rfl, h0, h1, h2⟩ := hL; unfold wX3 at hq; exact binds_any h.1 h.2 h0 h1 h2 (by omega) (by omega) (by omega) a b
section
open Go.WideShapes
variable {H : Type} {enc : TypeId × Value → H} {W : World} {base : Nat} {spare : Nat → Bool} {held : Bool}
theorem ex3_opened1 {fuel : Nat} {cs : List Value} {x : DataW H × List MemPlace} (h : DataW.trod enc Tryz.prog W base spare held fuel 41 cs = some x) : ∃ y, Ex3At W cs y ∧ wX3 y ≤ Rows.uptoBulk x.1 := by
  obtain ⟨L0, L1, L2, y0, y1, y2, rfl, h0, h1, h2, w0, w1, w2⟩ := ex3_opened h; exact ⟨(y0, y1, y2), ⟨L0, L1, L2, rfl, h0, h1, h2⟩, by show max (wX y0) (max (wX y1) (wX y2)) ≤ _; omega⟩
end
end Go.Proofs.YtlhmdjhfmhkllaaGreatDoor
