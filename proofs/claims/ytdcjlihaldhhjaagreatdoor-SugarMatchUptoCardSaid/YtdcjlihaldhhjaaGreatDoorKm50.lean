import Derived.Test.YtdcjlihaldhhjaaGreatDoorKm49
namespace Go.Proofs.YtdcjlihaldhhjaaGreatDoor
open _root_.Go.Proofs.Tryz
open Go.RowKit Go.ChangeShapes Go.WideShapes Go.ChangeAt
theorem zP {rest : List (String × DataW Unit)} {W : World} (h : laidMet prog (("internal/strconv.uint64pow10", Rows.laid_internal_strconv_uint64pow10) :: rest) W) : Tab W :=
 Lib.tabIs_of_head (g := 0) (t := 218) (e := 186) (n := 20) zK zK zK zK zK zK h
theorem vA {W : World} (h : laidMetH prog Rows.sugarMatchUptoRow.laid W) : Tab W := by
 have h : laidMet prog Rows.sugarMatchUptoRow.laid W := h; exact zP h.tail.tail
theorem vt (L : List Value) (x : Ex) (M : List Value) (y : Ex) (w : World) (hx : aT w L x) (hq : wX x <= 1048576) (hy : aT w M y) (hr : wX y <= 1048576) (htab : Tab w) :
  Calls prog 3 #[.agg L.toArray, .agg M.toArray] w (Cr w) := yC hx hy (sK x hq) (sK y hr) htab
end Go.Proofs.YtdcjlihaldhhjaaGreatDoor
