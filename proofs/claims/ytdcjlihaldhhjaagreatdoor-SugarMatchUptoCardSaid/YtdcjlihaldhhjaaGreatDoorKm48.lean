import Derived.Deep.DeepHandedRow
import Derived.Deep.DeepWitnessRowRef
import Derived.LaidHandle
import Derived.LaidMore
import Derived.OpenShut
import Derived.ProofKit
import Derived.Stop.LaidErr
import Derived.Test.YtdcjlihaldhhjaaGreatDoorCards
import Derived.Test.YtdcjlihaldhhjaaGreatDoorTie
import Derived.Test.YtdcjlihaldhhjaaGreatDoorKm44
namespace Go.Proofs.YtdcjlihaldhhjaaGreatDoor
open _root_.Go.Proofs.Tryz
open Go.ChangeShapes Go.WideShapes Go.ChangeAt Go.RowKit
theorem own : ownKnob prog.godebug = none := by kernel_rfl
theorem xo : laidOutB prog = true := by kernel_rfl
end Go.Proofs.YtdcjlihaldhhjaaGreatDoor
