/-
  What Print and Right answer, the program known.
-/
import Derived.Test.YtjelhdjckdcbaaaGreatDoorTreeLives
namespace Go.Proofs.YtjelhdjckdcbaaaGreatDoor
open Go.RowKit

theorem print_no {w0 : World} (htab : Tab w0) {p : QProg} {L : List Value} (hL : ProgAt w0 L p) (hq : ∀ x ∈ p.nodes, (nodeX x).length ≤ 1048576) (hs : SizeOk (progT p)) {g : Int} (hr : rightL false p = g) (hg : g ≠ 0) {w : World} (hb : Below w0.heap.size w0 w) :
    Calls Tryz.prog 17 #[.agg L.toArray] w fun e w' => e = .returned (.tuple #[.string ⟨#[]⟩, .int .i64 g]) ∧ Below w.heap.size w w' := by
  refine (print_any htab hL hq hs hb).mono ?_
  rintro e w' ⟨rfl, hb'⟩
  exact ⟨by rw [hr, if_neg hg]; rfl, hb'⟩
/-- what Print answers, its text known -/
def TextPost (S : Tx) (w : World) (e : Ending) (w' : World) : Prop := e = .returned (.tuple #[.string (str S), .int .i64 0]) ∧ Below w.heap.size w w'
theorem print_ok {w0 : World} (htab : Tab w0) {p : QProg} {L : List Value} (hL : ProgAt w0 L p) (hq : ∀ x ∈ p.nodes, (nodeX x).length ≤ 1048576) (hs : SizeOk (progT p)) (hr : rightL false p = 0) {w : World} (hb : Below w0.heap.size w0 w) :
    Calls Tryz.prog 17 #[.agg L.toArray] w (TextPost (spellL (progT p)) w) := by
  refine (print_any htab hL hq hs hb).mono ?_
  rintro e w' ⟨rfl, hb'⟩
  exact ⟨by rw [hr, if_pos rfl], hb'⟩
theorem right_no {w0 : World} {p : QProg} {L : List Value} (hL : ProgAt w0 L p) (hq : ∀ x ∈ p.nodes, (nodeX x).length ≤ 1048576) {g : Int} (hr : rightL false p = g) (w : World) (hb : Below w0.heap.size w0 w) :
    Calls Tryz.prog 15 #[.agg L.toArray, .bool false] w (IntPost g w) := by
  have := right_any false hL hq w hb
  rwa [hr] at this
theorem ProgAt.shape {w : World} {L : List Value} {p : QProg} (h : ProgAt w L p) : ∃ A1 n1 k1 A2 n2 k2, L = [.slice A1 n1 k1, .slice A2 n2 k2] := by
  obtain ⟨ev, nv, rfl, h1, h2⟩ := h
  obtain ⟨_, _, _, rfl⟩ := SliceAt.shape h1
  obtain ⟨_, _, _, rfl⟩ := SliceAt.shape h2
  exact ⟨_, _, _, _, _, _, rfl⟩
end Go.Proofs.YtjelhdjckdcbaaaGreatDoor
