/-
  DERIVED. GIVEN WITH THE SEED: THE CARDS: each row of YtaimagfdjbedeaaGreatDoorRows.lean that lists a variable, with what it lists TIED to the program's text (the seventh form; the later family's looks); each row that meets fmt, with fmt's text TOLD by the authors' own Lean function (tested against real Go, not proved from fmt's source: count such statements apart). THE CARD IS WHAT COUNTS. Prove the row's statement (the work); the ties are given (YtaimagfdjbedeaaGreatDoorTie.lean); close each card by the builder's one call (the guide's Derived/Test/ToyasCard.lean, 'card_holds'). Laid BY PROGRAM, IN A SANDBOX (cutbox-door.mjs). By AI agents, Wed Nov 11 2026. No macro, syntax, notation, axiom, sorry.
-/
import Derived.Test.YtaimagfdjbedeaaGreatDoorRows
import GoSem.ClaimSeven
namespace Go.Proofs.YtaimagfdjbedeaaGreatDoor
namespace Rows

/-- THE TIED CARD OF 'pendulelaw06.SugarSamples'. -/
def sugarSamplesCard : Claim7 := { stood := { row := sugarSamplesRow, standIns := [], harness := (true, "eae5f0cfbe99517eb718ad4b8c6e7f4a1297712227795ef239fbb34bada94e6d"), looks := true }, kinds := [], alts := [], laidByText := true, laidKinds := [.data, .data, .data, .sentinel, .sentinel], laidTests := true, laidLooks := .later }
def SugarSamplesCardSaid : Prop := Claim7.holds Tryz.pinned (.plain (OpenSpec.ofChange sugarSamplesSpec)) sugarSamplesCard

/-- THE SECOND FORM's CARD OF 'pendulelaw06.SugarSamples'. -/
def sugarSamplesUptoCard : Claim7 := { stood := { row := sugarSamplesUptoRow, standIns := [], harness := (true, "eae5f0cfbe99517eb718ad4b8c6e7f4a1297712227795ef239fbb34bada94e6d"), looks := true }, kinds := [], alts := [], laidByText := true, laidKinds := [.data, .data, .data, .sentinel, .sentinel], laidTests := true, laidLooks := .later }
def SugarSamplesUptoCardSaid : Prop := Claim7.holds Tryz.pinned (.plain (OpenSpec.upto sugarSamplesSpec)) sugarSamplesUptoCard
end Rows
end Go.Proofs.YtaimagfdjbedeaaGreatDoor
