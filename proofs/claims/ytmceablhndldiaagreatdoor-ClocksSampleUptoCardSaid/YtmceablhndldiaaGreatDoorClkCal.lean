/-
  ClocksSample: the walk, of what came in.
-/
import Derived.Test.YtmceablhndldiaaGreatDoorClkLaw
import Derived.Test.YtmceablhndldiaaGreatDoorClkOpen
import Derived.Test.YtmceablhndldiaaGreatDoorSxLaid
namespace Go.Proofs.YtmceablhndldiaaGreatDoor
open Go.RowKit

theorem sample_call (va : Value) (vs : List Vr) (L : List Value) (y : Ex) (s : ByteArray) (w : World) (ha : VarsAt w va vs) (hvl : ∀ v ∈ vs, v.2.length ≤ 2097151) (hy : ExAt w L y) (hq : wX y ≤ 1048576) (hs : s.data.toList.length ≤ 1048576) :
    Calls Tryz.prog 4 #[va, .agg L.toArray, .string s] w (Lived w) := by
  have h := sample_law (x := s.data.toList) ha hvl hy (slim_of y hq) (by unfold maxLen; omega)
  rwa [str_eq] at h
end Go.Proofs.YtmceablhndldiaaGreatDoor
