/-
  The look of the laws of layer 9 answers true: one run.
-/
import Derived.Test.YtmceablhndldiaaGreatDoorSxIdle
namespace Go.Proofs.YtmceablhndldiaaGreatDoor
open Go.RowKit

set_option maxRecDepth 1000000 in
theorem lives9_run : Sx.saysTrue (Sx.evCall Tryz.prog [41] [75] 300 8 [] 1000 .leaf) = true := by decide +kernel
theorem lives9_any (w : World) : Calls Tryz.prog 8 #[] w fun e w' => e = .returned (.bool true) ∧ Below w.heap.size w w' := Sx.closed_true idle_all same_all lives9_run w
end Go.Proofs.YtmceablhndldiaaGreatDoor
