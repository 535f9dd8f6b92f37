/-
  DERIVED. GIVEN WITH THE SEED: THE CARDS: each row of YtifbdglhfoimjaaGreatDoorRows.lean that lists a variable, with what it lists TIED to the program's text (the seventh form; the later family's looks); each row that meets fmt, with fmt's text TOLD by the authors' own Lean function (tested against real Go, not proved from fmt's source: count such statements apart). THE CARD IS WHAT COUNTS. Prove the row's statement (the work); the ties are given (YtifbdglhfoimjaaGreatDoorTie.lean); close each card by the builder's one call (the guide's Derived/Test/ToyasCard.lean, 'card_holds'). Laid BY PROGRAM, IN A SANDBOX (cutbox-door.mjs). By AI agents, Wed Nov 11 2026. No macro, syntax, notation, axiom, sorry.
-/
import Derived.Test.YtifbdglhfoimjaaGreatDoorRows
import GoSem.ClaimSeven
namespace Go.Proofs.YtifbdglhfoimjaaGreatDoor
namespace Rows

/-- THE TIED CARD OF 'pendulelaw11.CauseReads'. -/
def causeReadsCard : Claim7 := { stood := { row := causeReadsRow, standIns := [], harness := (true, "6394a5654c800f02a9ae55c7f22f59354bc416b5e375f71e958d97d65c3320ac"), looks := true }, kinds := [], alts := [], laidByText := true, laidKinds := [.data, .data, .data, .sentinel, .sentinel], laidTests := true, laidLooks := .later }
def CauseReadsCardSaid : Prop := Claim7.holds Tryz.pinned (.plain (OpenSpec.ofChange causeReadsSpec)) causeReadsCard

/-- THE TIED CARD OF 'pendulelaw11.CauseOrders'. -/
def causeOrdersCard : Claim7 := { stood := { row := causeOrdersRow, standIns := [], harness := (true, "6394a5654c800f02a9ae55c7f22f59354bc416b5e375f71e958d97d65c3320ac"), looks := true }, kinds := [], alts := [], laidByText := true, laidKinds := [.data, .data, .data, .sentinel, .sentinel], laidTests := true, laidLooks := .later }
def CauseOrdersCardSaid : Prop := Claim7.holds Tryz.pinned (.plain (OpenSpec.ofChange causeOrdersSpec)) causeOrdersCard

/-- THE TIED CARD OF 'pendulelaw11.CauseDelays'. -/
def causeDelaysCard : Claim7 := { stood := { row := causeDelaysRow, standIns := [], harness := (true, "6394a5654c800f02a9ae55c7f22f59354bc416b5e375f71e958d97d65c3320ac"), looks := true }, kinds := [], alts := [], laidByText := true, laidKinds := [.data, .data, .data, .sentinel, .sentinel], laidTests := true, laidLooks := .later }
def CauseDelaysCardSaid : Prop := Claim7.holds Tryz.pinned (.plain (OpenSpec.ofChange causeDelaysSpec)) causeDelaysCard

/-- THE SECOND FORM's CARD OF 'pendulelaw11.CauseReads'. -/
def causeReadsUptoCard : Claim7 := { stood := { row := causeReadsUptoRow, standIns := [], harness := (true, "6394a5654c800f02a9ae55c7f22f59354bc416b5e375f71e958d97d65c3320ac"), looks := true }, kinds := [], alts := [], laidByText := true, laidKinds := [.data, .data, .data, .sentinel, .sentinel], laidTests := true, laidLooks := .later }
def CauseReadsUptoCardSaid : Prop := Claim7.holds Tryz.pinned (.plain (OpenSpec.upto causeReadsSpec)) causeReadsUptoCard

/-- THE SECOND FORM's CARD OF 'pendulelaw11.CauseOrders'. -/
def causeOrdersUptoCard : Claim7 := { stood := { row := causeOrdersUptoRow, standIns := [], harness := (true, "6394a5654c800f02a9ae55c7f22f59354bc416b5e375f71e958d97d65c3320ac"), looks := true }, kinds := [], alts := [], laidByText := true, laidKinds := [.data, .data, .data, .sentinel, .sentinel], laidTests := true, laidLooks := .later }
def CauseOrdersUptoCardSaid : Prop := Claim7.holds Tryz.pinned (.plain (OpenSpec.upto causeOrdersSpec)) causeOrdersUptoCard

/-- THE SECOND FORM's CARD OF 'pendulelaw11.CauseDelays'. -/
def causeDelaysUptoCard : Claim7 := { stood := { row := causeDelaysUptoRow, standIns := [], harness := (true, "6394a5654c800f02a9ae55c7f22f59354bc416b5e375f71e958d97d65c3320ac"), looks := true }, kinds := [], alts := [], laidByText := true, laidKinds := [.data, .data, .data, .sentinel, .sentinel], laidTests := true, laidLooks := .later }
def CauseDelaysUptoCardSaid : Prop := Claim7.holds Tryz.pinned (.plain (OpenSpec.upto causeDelaysSpec)) causeDelaysUptoCard
end Rows
end Go.Proofs.YtifbdglhfoimjaaGreatDoor
