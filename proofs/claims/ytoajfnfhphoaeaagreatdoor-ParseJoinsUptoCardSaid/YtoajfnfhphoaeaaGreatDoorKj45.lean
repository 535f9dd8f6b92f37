/-
  Texts joined.
-/
import Derived.Carry
import Derived.ChangeSame
import Derived.Deep.Fields
import Derived.Deep.Slices
import Derived.OpenShut
import Derived.Test.YtoajfnfhphoaeaaGreatDoorRows
import Derived.Test.YtoajfnfhphoaeaaGreatDoorKj03
namespace Go.Proofs.YtoajfnfhphoaeaaGreatDoor
open Go.ChangeShapes Go.WideShapes Go.Deep Go.RowKit
section
variable {H : Type} {enc : TypeId × Value → H} {W : World} {base : Nat} {spare : Nat → Bool} {held : Bool}
theorem five {α : Type _} {l : List α} (h : l.length = 5) : ∃ a b c d e, l = [a, b, c, d, e] := by
  match l, h with
  | [a, b, c, d, e], _ => exact ⟨a, b, c, d, e, rfl⟩
end
end Go.Proofs.YtoajfnfhphoaeaaGreatDoor
namespace Go.Proofs.YtoajfnfhphoaeaaGreatDoor
end Go.Proofs.YtoajfnfhphoaeaaGreatDoor
namespace Go.Proofs.YtoajfnfhphoaeaaGreatDoor
open Go.ChangeShapes Go.WideShapes Go.Deep Go.RowKit
section
variable {H : Type} {enc : TypeId × Value → H} {W : World} {base : Nat} {spare : Nat → Bool} {held : Bool}
end
end Go.Proofs.YtoajfnfhphoaeaaGreatDoor
