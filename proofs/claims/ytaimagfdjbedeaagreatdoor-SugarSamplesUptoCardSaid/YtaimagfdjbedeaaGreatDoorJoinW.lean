/-
  A world whose old blocks are those of another: what a tree stands on that shares old parts.
-/
import Derived.Test.YtaimagfdjbedeaaGreatDoorParseMem
namespace Go.Proofs.YtaimagfdjbedeaaGreatDoor
open Go.RowKit

def joinW (w0 w : World) : World := { w with heap := w0.heap ++ w.heap.extract w0.heap.size w.heap.size }
theorem join_low {w0 w : World} {b : Nat} (h : b < w0.heap.size) : (joinW w0 w).heap[b]? = w0.heap[b]? := by
  show (w0.heap ++ w.heap.extract w0.heap.size w.heap.size)[b]? = _
  rw [Array.getElem?_append_left h]
theorem join_high {w0 w : World} {b : Nat} (h : w0.heap.size ≤ b) : (joinW w0 w).heap[b]? = w.heap[b]? := by
  show (w0.heap ++ w.heap.extract w0.heap.size w.heap.size)[b]? = _
  rw [Array.getElem?_append_right h]
  rw [Array.getElem?_extract]
  by_cases hb : b < w.heap.size
  · rw [if_pos (by omega), show w0.heap.size + (b - w0.heap.size) = b by omega]
  · rw [if_neg (by omega), Array.getElem?_eq_none (by omega)]
theorem join_sub {w0 V V' : World} (h : Sub V V') : Sub (joinW w0 V) (joinW w0 V') := fun a v hv => by
  by_cases hb : a.block < w0.heap.size
  · rw [World.cell?_of_block (join_low hb)] at hv ⊢
    exact hv
  · rw [World.cell?_of_block (join_high (by omega))] at hv ⊢
    exact h a v hv
theorem join_old (w0 w : World) : Sub w0 (joinW w0 w) := fun a v hv => by
  rw [World.cell?_of_block (join_low (World.block_lt_of_cell? w0 _ hv))]
  exact hv
theorem join_of {w0 w : World} (h : Below w0.heap.size w0 w) : Sub (joinW w0 w) w := fun a v hv => by
  by_cases hb : a.block < w0.heap.size
  · rw [World.cell?_of_block (join_low hb)] at hv
    rw [h.cell hb]
    exact hv
  · rw [World.cell?_of_block (join_high (by omega))] at hv
    exact hv
theorem join_row {w0 w : World} {B C : Nat} {o : Obj} (h : w.heap[C]? = some o) (hB : B ≤ C) (h0 : w0.heap.size ≤ C) : (joinW w0 (newW B w)).heap[C]? = some o := by
  rw [join_high h0, new_get hB]
  exact h
theorem join_new {w0 V : World} {B : Nat} (h : w0.heap.size ≤ B) : Sub (newW B V) (joinW w0 (newW B V)) := fun a v hv => by
  rw [World.cell?_of_block (join_high (by have := (new_cell hv).1; omega))]
  exact hv
end Go.Proofs.YtaimagfdjbedeaaGreatDoor
