/-
  TreeGrows at what came in.
-/
import Derived.Test.YthffigagnodnmaaGreatDoorTreeGrows
import Derived.Test.YthffigagnodnmaaGreatDoorTreeWt
import Derived.Test.YthffigagnodnmaaGreatDoorTreeLaid
namespace Go.Proofs.YthffigagnodnmaaGreatDoor
open Go.RowKit

theorem kids_few {x : Ex} (h : wX x ≤ 1048576) : x.kids.length ≤ 2097152 := by
  obtain ⟨op, nm, n, cs, ks⟩ := x
  rw [wX, wXs_L] at h
  have := len_wL (f := wX) (l := ks) (fun k _ => by obtain ⟨_, _, _, _, _⟩ := k; rw [wX]; omega)
  show ks.length ≤ 2097152
  omega
theorem grows_law (L : List Value) (x : Ex) (M : List Value) (y : Ex) (w : World) (hx : ExAt w L x) (hq : wX x ≤ 1048576) (hy : ExAt w M y) (_ : wX y ≤ 1048576) (h : Tab w) : Calls Tryz.prog 8 #[.agg L.toArray, .agg M.toArray] w (Lived w) :=
  grows_any h hx hy (kids_few hq)
end Go.Proofs.YthffigagnodnmaaGreatDoor
