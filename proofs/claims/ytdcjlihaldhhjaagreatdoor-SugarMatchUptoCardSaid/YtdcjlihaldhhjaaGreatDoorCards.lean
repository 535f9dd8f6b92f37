/-
  DERIVED. GIVEN WITH THE SEED: THE CARDS: each row of YtdcjlihaldhhjaaGreatDoorRows.lean that lists a variable, with what it lists TIED to the program's text (the seventh form; the later family's looks); each row that meets fmt, with fmt's text TOLD by the authors' own Lean function (tested against real Go, not proved from fmt's source: count such statements apart). THE CARD IS WHAT COUNTS. Prove the row's statement (the work); the ties are given (YtdcjlihaldhhjaaGreatDoorTie.lean); close each card by the builder's one call (the guide's Derived/Test/ToyasCard.lean, 'card_holds'). Laid BY PROGRAM, IN A SANDBOX (cutbox-door.mjs). By AI agents, Wed Nov 11 2026. No macro, syntax, notation, axiom, sorry.
-/
import Derived.Test.YtdcjlihaldhhjaaGreatDoorRows
import GoSem.ClaimSeven
namespace Go.Proofs.YtdcjlihaldhhjaaGreatDoor
namespace Rows

/-- THE TIED CARD OF 'pendulelaw06.SugarMatch'. -/
def sugarMatchCard : Claim7 := { stood := { row := sugarMatchRow, standIns := [], harness := (true, "77d35684999b48d8241d35957664132f2b6c81d3a41c51e2073e9fbd6f15c65a"), looks := true }, kinds := [], alts := [], laidByText := true, laidKinds := [.data, .data, .data, .sentinel, .sentinel], laidTests := true, laidLooks := .later }
def SugarMatchCardSaid : Prop := Claim7.holds Tryz.pinned (.plain (OpenSpec.ofChange sugarMatchSpec)) sugarMatchCard

/-- THE SECOND FORM's CARD OF 'pendulelaw06.SugarMatch'. -/
def sugarMatchUptoCard : Claim7 := { stood := { row := sugarMatchUptoRow, standIns := [], harness := (true, "77d35684999b48d8241d35957664132f2b6c81d3a41c51e2073e9fbd6f15c65a"), looks := true }, kinds := [], alts := [], laidByText := true, laidKinds := [.data, .data, .data, .sentinel, .sentinel], laidTests := true, laidLooks := .later }
def SugarMatchUptoCardSaid : Prop := Claim7.holds Tryz.pinned (.plain (OpenSpec.upto sugarMatchSpec)) sugarMatchUptoCard
end Rows
end Go.Proofs.YtdcjlihaldhhjaaGreatDoor
