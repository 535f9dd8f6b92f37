/-
  The look of the laws of layer 11 answers true: one run.
-/
import Derived.Test.YtifbdglhfoimjaaGreatDoorSxIdle
namespace Go.Proofs.YtifbdglhfoimjaaGreatDoor
open Go.RowKit

set_option maxRecDepth 1000000 in
theorem lives11_run : Sx.saysTrue (Sx.evCall Tryz.prog [36] [55] 300 6 [] 1000 .leaf) = true := by decide +kernel
theorem lives11_any (w : World) : Calls Tryz.prog 6 #[] w fun e w' => e = .returned (.bool true) ∧ Below w.heap.size w w' := Sx.closed_true idle_all same_all lives11_run w
end Go.Proofs.YtifbdglhfoimjaaGreatDoor
