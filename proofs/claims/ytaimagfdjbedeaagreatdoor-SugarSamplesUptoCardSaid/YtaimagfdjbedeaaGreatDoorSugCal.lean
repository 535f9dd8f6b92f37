/-
  SugarSamples: the walk, of what came in.
-/
import Derived.Test.YtaimagfdjbedeaaGreatDoorSugLaw
namespace Go.Proofs.YtaimagfdjbedeaaGreatDoor
open Go.RowKit Go.ChangeShapes Go.WideShapes Go.ChangeAt

theorem tab_head {rest : List (String × DataW Unit)} {W : World} (h : laidMet Tryz.prog (("internal/strconv.uint64pow10", Rows.laid_internal_strconv_uint64pow10) :: rest) W) : Tab W :=
  Lib.tabIs_of_head (g := 0) (t := 219) (e := 187) (n := 20) (by kernel_rfl) (by kernel_rfl) (by kernel_rfl) (by kernel_rfl) (by kernel_rfl) (by kernel_rfl) h
theorem laid_samples {W : World} (h : laidMetH Tryz.prog Rows.sugarSamplesUptoRow.laid W) : Tab W := by
  have h : laidMet Tryz.prog Rows.sugarSamplesUptoRow.laid W := h
  exact tab_head h.tail.tail
theorem samples_call (L : List Value) (y : Ex) (s t : ByteArray) (w : World) (hy : ExAt w L y) (hq : wX y ≤ 1048576) (hs : s.data.toList.length ≤ 1048576) (ht : t.data.toList.length ≤ 1048576) (htab : Tab w) :
    Calls Tryz.prog 3 #[.agg L.toArray, .string s, .string t] w (Lived w) := by
  have h := samples_law (x := s.data.toList) (con := t.data.toList) hy (slimS_of y hq) (by unfold maxLen; omega) (by unfold maxLen; omega) htab
  rwa [str_eq, str_eq] at h
end Go.Proofs.YtaimagfdjbedeaaGreatDoor
