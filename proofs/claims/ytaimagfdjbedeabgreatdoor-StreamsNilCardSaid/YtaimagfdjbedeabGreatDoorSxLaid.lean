/-
  What the last texts of the laws share: no knob of the program's own; how a value lies.
-/
import Derived.Test.YtaimagfdjbedeabGreatDoorCards
import Derived.Test.YtaimagfdjbedeabGreatDoorTie
import Derived.Test.YtaimagfdjbedeabGreatDoorSxIdle
import Derived.ProofKit
import Derived.OpenShut
import Derived.LaidMore
import Derived.LaidHandle
import Derived.Stop.LaidErr
import Derived.Deep.DeepHandedRow
import Derived.Deep.DeepWitnessRowRef
namespace Go.Proofs.YtaimagfdjbedeabGreatDoor
open Go.ChangeShapes Go.WideShapes Go.ChangeAt Go.RowKit

theorem own : ownKnob Tryz.prog.godebug = none := by kernel_rfl
theorem laidOut : laidOutB Tryz.prog = true := by kernel_rfl
end Go.Proofs.YtaimagfdjbedeabGreatDoor
