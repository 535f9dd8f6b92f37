/-
  DERIVED. GIVEN WITH THE SEED: THE CARDS: each row of YtccihplmmfmonaaGreatDoorRows.lean that lists a variable, with what it lists TIED to the program's text (the seventh form; the later family's looks); each row that meets fmt, with fmt's text TOLD by the authors' own Lean function (tested against real Go, not proved from fmt's source: count such statements apart). THE CARD IS WHAT COUNTS. Prove the row's statement (the work); the ties are given (YtccihplmmfmonaaGreatDoorTie.lean); close each card by the builder's one call (the guide's Derived/Test/ToyasCard.lean, 'card_holds'). Laid BY PROGRAM, IN A SANDBOX (cutbox-door.mjs). By AI agents, Wed Nov 11 2026. No macro, syntax, notation, axiom, sorry.
-/
import Derived.Test.YtccihplmmfmonaaGreatDoorRows
import GoSem.ClaimSeven
namespace Go.Proofs.YtccihplmmfmonaaGreatDoor
namespace Rows

/-- THE TIED CARD OF 'pendulelaw08.TypesNumber'. -/
def typesNumberCard : Claim7 := { stood := { row := typesNumberRow, standIns := [], harness := (true, "07717e787237a36eeb626d951a18bf92064cd6beac15b3282aa6993c051cb47c"), looks := true }, kinds := [], alts := [], laidByText := true, laidKinds := [.data, .data, .data, .sentinel, .sentinel], laidTests := true, laidLooks := .later }
def TypesNumberCardSaid : Prop := Claim7.holds Tryz.pinned (.plain (OpenSpec.ofChange typesNumberSpec)) typesNumberCard

/-- THE SECOND FORM's CARD OF 'pendulelaw08.TypesNumber'. -/
def typesNumberUptoCard : Claim7 := { stood := { row := typesNumberUptoRow, standIns := [], harness := (true, "07717e787237a36eeb626d951a18bf92064cd6beac15b3282aa6993c051cb47c"), looks := true }, kinds := [], alts := [], laidByText := true, laidKinds := [.data, .data, .data, .sentinel, .sentinel], laidTests := true, laidLooks := .later }
def TypesNumberUptoCardSaid : Prop := Claim7.holds Tryz.pinned (.plain (OpenSpec.upto typesNumberSpec)) typesNumberUptoCard
end Rows
end Go.Proofs.YtccihplmmfmonaaGreatDoor
