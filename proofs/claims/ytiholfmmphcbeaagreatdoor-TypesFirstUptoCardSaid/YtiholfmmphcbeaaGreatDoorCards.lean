/-
  DERIVED. GIVEN WITH THE SEED: THE CARDS: each row of YtiholfmmphcbeaaGreatDoorRows.lean that lists a variable, with what it lists TIED to the program's text (the seventh form; the later family's looks); each row that meets fmt, with fmt's text TOLD by the authors' own Lean function (tested against real Go, not proved from fmt's source: count such statements apart). THE CARD IS WHAT COUNTS. Prove the row's statement (the work); the ties are given (YtiholfmmphcbeaaGreatDoorTie.lean); close each card by the builder's one call (the guide's Derived/Test/ToyasCard.lean, 'card_holds'). Laid BY PROGRAM, IN A SANDBOX (cutbox-door.mjs). By AI agents, Wed Nov 11 2026. No macro, syntax, notation, axiom, sorry.
-/
import Derived.Test.YtiholfmmphcbeaaGreatDoorRows
import GoSem.ClaimSeven
namespace Go.Proofs.YtiholfmmphcbeaaGreatDoor
namespace Rows

/-- THE TIED CARD OF 'pendulelaw08.TypesFirst'. -/
def typesFirstCard : Claim7 := { stood := { row := typesFirstRow, standIns := [], harness := (true, "4babd20770f509be310b49f4fdd9af51d3f70ce0017a7dc5d7b8367d494ecdbf"), looks := true }, kinds := [], alts := [], laidByText := true, laidKinds := [.data, .data, .data, .sentinel, .sentinel], laidTests := true, laidLooks := .later }
def TypesFirstCardSaid : Prop := Claim7.holds Tryz.pinned (.plain (OpenSpec.ofChange typesFirstSpec)) typesFirstCard

/-- THE SECOND FORM's CARD OF 'pendulelaw08.TypesFirst'. -/
def typesFirstUptoCard : Claim7 := { stood := { row := typesFirstUptoRow, standIns := [], harness := (true, "4babd20770f509be310b49f4fdd9af51d3f70ce0017a7dc5d7b8367d494ecdbf"), looks := true }, kinds := [], alts := [], laidByText := true, laidKinds := [.data, .data, .data, .sentinel, .sentinel], laidTests := true, laidLooks := .later }
def TypesFirstUptoCardSaid : Prop := Claim7.holds Tryz.pinned (.plain (OpenSpec.upto typesFirstSpec)) typesFirstUptoCard
end Rows
end Go.Proofs.YtiholfmmphcbeaaGreatDoor
