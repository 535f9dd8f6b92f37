/-
  DERIVED. GIVEN WITH THE SEED: THE CARDS: each row of YtkfacdofkfabnaaGreatDoorRows.lean that lists a variable, with what it lists TIED to the program's text (the seventh form; the later family's looks); each row that meets fmt, with fmt's text TOLD by the authors' own Lean function (tested against real Go, not proved from fmt's source: count such statements apart). THE CARD IS WHAT COUNTS. Prove the row's statement (the work); the ties are given (YtkfacdofkfabnaaGreatDoorTie.lean); close each card by the builder's one call (the guide's Derived/Test/ToyasCard.lean, 'card_holds'). Laid BY PROGRAM, IN A SANDBOX (cutbox-door.mjs). By AI agents, Wed Nov 11 2026. No macro, syntax, notation, axiom, sorry.
-/
import Derived.Test.YtkfacdofkfabnaaGreatDoorRows
import GoSem.ClaimSeven
namespace Go.Proofs.YtkfacdofkfabnaaGreatDoor
namespace Rows

/-- THE TIED CARD OF 'pendulelaw06.SugarEnums'. -/
def sugarEnumsCard : Claim7 := { stood := { row := sugarEnumsRow, standIns := [], harness := (true, "feb3e5e75a4da64d4334c025f7e03eede99dba7d059d07338c95f67d46a64872"), looks := true }, kinds := [], alts := [], laidByText := true, laidKinds := [.data, .data, .data, .sentinel, .sentinel], laidTests := true, laidLooks := .later }
def SugarEnumsCardSaid : Prop := Claim7.holds Tryz.pinned (.plain (OpenSpec.ofChange sugarEnumsSpec)) sugarEnumsCard

/-- THE SECOND FORM's CARD OF 'pendulelaw06.SugarEnums'. -/
def sugarEnumsUptoCard : Claim7 := { stood := { row := sugarEnumsUptoRow, standIns := [], harness := (true, "feb3e5e75a4da64d4334c025f7e03eede99dba7d059d07338c95f67d46a64872"), looks := true }, kinds := [], alts := [], laidByText := true, laidKinds := [.data, .data, .data, .sentinel, .sentinel], laidTests := true, laidLooks := .later }
def SugarEnumsUptoCardSaid : Prop := Claim7.holds Tryz.pinned (.plain (OpenSpec.upto sugarEnumsSpec)) sugarEnumsUptoCard
end Rows
end Go.Proofs.YtkfacdofkfabnaaGreatDoor
