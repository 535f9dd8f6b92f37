/-
  DERIVED. GIVEN WITH THE SEED: THE CARDS: each row of YtaimagfdjbedeabGreatDoorRows.lean that lists a variable, with what it lists TIED to the program's text (the seventh form; the later family's looks); each row that meets fmt, with fmt's text TOLD by the authors' own Lean function (tested against real Go, not proved from fmt's source: count such statements apart). THE CARD IS WHAT COUNTS. Prove the row's statement (the work); the ties are given (YtaimagfdjbedeabGreatDoorTie.lean); close each card by the builder's one call (the guide's Derived/Test/ToyasCard.lean, 'card_holds'). Laid BY PROGRAM, IN A SANDBOX (cutbox-door.mjs). By AI agents, Wed Nov 11 2026. No macro, syntax, notation, axiom, sorry.
-/
import Derived.Test.YtaimagfdjbedeabGreatDoorRows
import GoSem.ClaimSeven
namespace Go.Proofs.YtaimagfdjbedeabGreatDoor
namespace Rows

/-- THE TIED CARD OF 'pendulelaw13.StreamsNil'. -/
def streamsNilCard : Claim7 := { stood := { row := streamsNilRow, standIns := [], harness := (true, "bf2ea63f4ecb707a869c1bfc6a17e1bedef2f841ddfc2aca514bc6cc8604d2f6"), looks := true }, kinds := [], alts := [], laidByText := true, laidKinds := [.data, .data, .data, .sentinel, .sentinel], laidTests := true, laidLooks := .later }
def StreamsNilCardSaid : Prop := Claim7.holds Tryz.pinned (.plain (OpenSpec.ofChange streamsNilSpec)) streamsNilCard

/-- THE SECOND FORM's CARD OF 'pendulelaw13.StreamsNil'. -/
def streamsNilUptoCard : Claim7 := { stood := { row := streamsNilUptoRow, standIns := [], harness := (true, "bf2ea63f4ecb707a869c1bfc6a17e1bedef2f841ddfc2aca514bc6cc8604d2f6"), looks := true }, kinds := [], alts := [], laidByText := true, laidKinds := [.data, .data, .data, .sentinel, .sentinel], laidTests := true, laidLooks := .later }
def StreamsNilUptoCardSaid : Prop := Claim7.holds Tryz.pinned (.plain (OpenSpec.upto streamsNilSpec)) streamsNilUptoCard
end Rows
end Go.Proofs.YtaimagfdjbedeabGreatDoor
