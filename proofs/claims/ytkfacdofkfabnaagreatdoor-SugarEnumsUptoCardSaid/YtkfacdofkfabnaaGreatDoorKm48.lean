import Derived.Deep.DeepHandedRow
import Derived.Deep.DeepWitnessRowRef
import Derived.LaidHandle
import Derived.LaidMore
import Derived.OpenShut
import Derived.ProofKit
import Derived.Stop.LaidErr
import Derived.Test.YtkfacdofkfabnaaGreatDoorCards
import Derived.Test.YtkfacdofkfabnaaGreatDoorTie
import Derived.Test.YtkfacdofkfabnaaGreatDoorKm45
namespace Go.Proofs.YtkfacdofkfabnaaGreatDoor
open _root_.Go.Proofs.Tryz
open Go.ChangeShapes Go.WideShapes Go.ChangeAt Go.RowKit
theorem own : ownKnob prog.godebug = none := by kernel_rfl
theorem GM : laidOutB prog = true := by kernel_rfl
end Go.Proofs.YtkfacdofkfabnaaGreatDoor
