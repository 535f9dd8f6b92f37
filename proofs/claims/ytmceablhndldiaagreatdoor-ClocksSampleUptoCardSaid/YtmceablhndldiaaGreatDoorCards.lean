/-
  DERIVED. GIVEN WITH THE SEED: THE CARDS: each row of YtmceablhndldiaaGreatDoorRows.lean that lists a variable, with what it lists TIED to the program's text (the seventh form; the later family's looks); each row that meets fmt, with fmt's text TOLD by the authors' own Lean function (tested against real Go, not proved from fmt's source: count such statements apart). THE CARD IS WHAT COUNTS. Prove the row's statement (the work); the ties are given (YtmceablhndldiaaGreatDoorTie.lean); close each card by the builder's one call (the guide's Derived/Test/ToyasCard.lean, 'card_holds'). Laid BY PROGRAM, IN A SANDBOX (cutbox-door.mjs). By AI agents, Wed Nov 11 2026. No macro, syntax, notation, axiom, sorry.
-/
import Derived.Test.YtmceablhndldiaaGreatDoorRows
import GoSem.ClaimSeven
namespace Go.Proofs.YtmceablhndldiaaGreatDoor
namespace Rows

/-- THE TIED CARD OF 'pendulelaw08.TypesSets'. -/
def typesSetsCard : Claim7 := { stood := { row := typesSetsRow, standIns := [], harness := (true, "374876fc3fd5c53fb9c7d60ca26ffb257402658a96330067604c23b338e40de1"), looks := true }, kinds := [], alts := [], laidByText := true, laidKinds := [.data, .data, .data, .sentinel, .sentinel], laidTests := true, laidLooks := .later }
def TypesSetsCardSaid : Prop := Claim7.holds Tryz.pinned (.plain (OpenSpec.ofChange typesSetsSpec)) typesSetsCard

/-- THE TIED CARD OF 'pendulelaw09.ClocksSample'. -/
def clocksSampleCard : Claim7 := { stood := { row := clocksSampleRow, standIns := [], harness := (true, "374876fc3fd5c53fb9c7d60ca26ffb257402658a96330067604c23b338e40de1"), looks := true }, kinds := [], alts := [], laidByText := true, laidKinds := [.data, .data, .data, .sentinel, .sentinel], laidTests := true, laidLooks := .later }
def ClocksSampleCardSaid : Prop := Claim7.holds Tryz.pinned (.plain (OpenSpec.ofChange clocksSampleSpec)) clocksSampleCard

/-- THE SECOND FORM's CARD OF 'pendulelaw08.TypesSets'. -/
def typesSetsUptoCard : Claim7 := { stood := { row := typesSetsUptoRow, standIns := [], harness := (true, "374876fc3fd5c53fb9c7d60ca26ffb257402658a96330067604c23b338e40de1"), looks := true }, kinds := [], alts := [], laidByText := true, laidKinds := [.data, .data, .data, .sentinel, .sentinel], laidTests := true, laidLooks := .later }
def TypesSetsUptoCardSaid : Prop := Claim7.holds Tryz.pinned (.plain (OpenSpec.upto typesSetsSpec)) typesSetsUptoCard

/-- THE SECOND FORM's CARD OF 'pendulelaw09.ClocksSample'. -/
def clocksSampleUptoCard : Claim7 := { stood := { row := clocksSampleUptoRow, standIns := [], harness := (true, "374876fc3fd5c53fb9c7d60ca26ffb257402658a96330067604c23b338e40de1"), looks := true }, kinds := [], alts := [], laidByText := true, laidKinds := [.data, .data, .data, .sentinel, .sentinel], laidTests := true, laidLooks := .later }
def ClocksSampleUptoCardSaid : Prop := Claim7.holds Tryz.pinned (.plain (OpenSpec.upto clocksSampleSpec)) clocksSampleUptoCard
end Rows
end Go.Proofs.YtmceablhndldiaaGreatDoor
