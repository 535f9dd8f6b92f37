/-
  Rows of the table whose statement draws its order.
-/
import Derived.Test.YthffigagnodnmaaGreatDoorTreeRow
namespace Go.Proofs.YthffigagnodnmaaGreatDoor
open Go.RowKit

theorem row4c {w : World} {N : Nat} {T : TypeId} {v0 v1 v2 v3 : Value} (h : w.heap[N]? = some (.cells #[v0, v1, v2, v3] T (0, 0))) :
    w.cell? ⟨N, 0, none⟩ = some v0 ∧ w.cell? ⟨N, 1, none⟩ = some v1 ∧ w.cell? ⟨N, 2, none⟩ = some v2 ∧ w.cell? ⟨N, 3, none⟩ = some v3 := by
  simp [World.cell?, h]
def blankV0 (b0 : Nat) : Value := .func (.func 182) #[] #[.pointer (some ⟨b0, 0, none⟩)]
/-- what blank makes, its boxes by name -/
def BlankPost (w : World) (e : Ending) (w' : World) : Prop :=
  ∃ b0 b1 b2 b3 b4 : Nat, e = .returned (.agg #[.func (.func 182) #[] #[.pointer (some ⟨b0, 0, none⟩)], .func (.func 181) #[] #[.pointer (some ⟨b1, 0, none⟩), .pointer (some ⟨b2, 0, none⟩)], .func (.func 180) #[] #[], .func (.func 185) #[] #[.pointer (some ⟨b3, 0, none⟩), .pointer (some ⟨b4, 0, none⟩)]]) ∧
    Below w.heap.size w w' ∧ (w.heap.size ≤ b0 ∧ w.heap.size ≤ b1 ∧ w.heap.size ≤ b2 ∧ w.heap.size ≤ b3 ∧ w.heap.size ≤ b4) ∧ w'.heap[b0]? = some (.cells #[.func (.func 179) #[] #[]] 68 (0, 0)) ∧
    w'.heap[b1]? = some (.cells #[.int .i64 0] 2 (0, 0)) ∧ w'.heap[b2]? = some (.cells #[.int .i64 0] 2 (0, 0)) ∧ w'.heap[b3]? = some (.cells #[.int .i64 0] 3 (0, 0)) ∧ w'.heap[b4]? = some (.cells #[.int .i64 0] 3 (0, 0))
theorem blank_post (w : World) : Calls Tryz.prog 167 #[] w (BlankPost w) := by
  refine (blank_mk w).mono ?_
  rintro e w' ⟨rfl, rfl⟩
  exact ⟨_, _, _, _, _, rfl, by repeat (first | exact Below.refl _ _ | refine Below.drew ?_ | refine Below.alloc ?_ (by simp <;> omega) _), by omega, by simp only [heap_push, Array.getElem?_push, Array.size_push]; repeat (first | rfl | rw [if_neg (by omega)] | rw [if_pos (by omega)]), by simp only [heap_push, Array.getElem?_push, Array.size_push]; repeat (first | rfl | rw [if_neg (by omega)] | rw [if_pos (by omega)]), by simp only [heap_push, Array.getElem?_push, Array.size_push]; repeat (first | rfl | rw [if_neg (by omega)] | rw [if_pos (by omega)]), by simp only [heap_push, Array.getElem?_push, Array.size_push]; repeat (first | rfl | rw [if_neg (by omega)] | rw [if_pos (by omega)]), by simp only [heap_push, Array.getElem?_push, Array.size_push]; repeat (first | rfl | rw [if_neg (by omega)] | rw [if_pos (by omega)])⟩
theorem cell_alloc {w : World} {p : Addr} {v : Value} {o : Obj} (h : w.cell? p = some v) : (w.alloc o).cell? p = some v := (World.cell?_alloc_lt w o p (World.block_lt_of_cell? w p h)).trans h
theorem cell_drew {w : World} {p : Addr} {v : Value} (h : w.cell? p = some v) : (w.drew).cell? p = some v := h
theorem cell_set_ne {w : World} {p q : Addr} {v u : Value} (hne : p.block ≠ q.block) (h : w.cell? p = some v) : (w.setCell q u).cell? p = some v := (World.cell?_setCell_other w q p u (fun e => hne (by rw [e]))).trans h
theorem alloc_cell3 {W : World} {N : Nat} (h : N < W.heap.size) : ∀ (o0 o1 o2 : Obj) (j : Nat), (((W.alloc o0).alloc o1).alloc o2).cell? ⟨N, j, none⟩ = W.cell? ⟨N, j, none⟩ := by
  intro o0 o1 o2 j
  rw [World.cell?_alloc_lt _ _ _ (by simp <;> omega), World.cell?_alloc_lt _ _ _ (by simp <;> omega), World.cell?_alloc_lt _ _ _ (by simp <;> omega)]
theorem alloc_frozen3 {W : World} {N : Nat} (h : N < W.heap.size) : ∀ (o0 o1 o2 : Obj) (j : Nat), (((W.alloc o0).alloc o1).alloc o2).frozen? ⟨N, j, none⟩ = W.frozen? ⟨N, j, none⟩ := by
  intro o0 o1 o2 j
  rw [World.frozen?_alloc_old _ _ _ (by simp <;> omega), World.frozen?_alloc_old _ _ _ (by simp <;> omega), World.frozen?_alloc_old _ _ _ (by simp <;> omega)]
theorem alloc_cell4 {W : World} {N : Nat} (h : N < W.heap.size) : ∀ (o0 o1 o2 o3 : Obj) (j : Nat), ((((W.alloc o0).alloc o1).alloc o2).alloc o3).cell? ⟨N, j, none⟩ = W.cell? ⟨N, j, none⟩ := by
  intro o0 o1 o2 o3 j
  rw [World.cell?_alloc_lt _ _ _ (by simp <;> omega), World.cell?_alloc_lt _ _ _ (by simp <;> omega), World.cell?_alloc_lt _ _ _ (by simp <;> omega), World.cell?_alloc_lt _ _ _ (by simp <;> omega)]
theorem alloc_frozen4 {W : World} {N : Nat} (h : N < W.heap.size) : ∀ (o0 o1 o2 o3 : Obj) (j : Nat), ((((W.alloc o0).alloc o1).alloc o2).alloc o3).frozen? ⟨N, j, none⟩ = W.frozen? ⟨N, j, none⟩ := by
  intro o0 o1 o2 o3 j
  rw [World.frozen?_alloc_old _ _ _ (by simp <;> omega), World.frozen?_alloc_old _ _ _ (by simp <;> omega), World.frozen?_alloc_old _ _ _ (by simp <;> omega), World.frozen?_alloc_old _ _ _ (by simp <;> omega)]
theorem alloc_cell5 {W : World} {N : Nat} (h : N < W.heap.size) : ∀ (o0 o1 o2 o3 o4 : Obj) (j : Nat), (((((W.alloc o0).alloc o1).alloc o2).alloc o3).alloc o4).cell? ⟨N, j, none⟩ = W.cell? ⟨N, j, none⟩ := by
  intro o0 o1 o2 o3 o4 j
  rw [World.cell?_alloc_lt _ _ _ (by simp <;> omega), World.cell?_alloc_lt _ _ _ (by simp <;> omega), World.cell?_alloc_lt _ _ _ (by simp <;> omega), World.cell?_alloc_lt _ _ _ (by simp <;> omega), World.cell?_alloc_lt _ _ _ (by simp <;> omega)]
theorem alloc_frozen5 {W : World} {N : Nat} (h : N < W.heap.size) : ∀ (o0 o1 o2 o3 o4 : Obj) (j : Nat), (((((W.alloc o0).alloc o1).alloc o2).alloc o3).alloc o4).frozen? ⟨N, j, none⟩ = W.frozen? ⟨N, j, none⟩ := by
  intro o0 o1 o2 o3 o4 j
  rw [World.frozen?_alloc_old _ _ _ (by simp <;> omega), World.frozen?_alloc_old _ _ _ (by simp <;> omega), World.frozen?_alloc_old _ _ _ (by simp <;> omega), World.frozen?_alloc_old _ _ _ (by simp <;> omega), World.frozen?_alloc_old _ _ _ (by simp <;> omega)]
theorem alloc_cell6 {W : World} {N : Nat} (h : N < W.heap.size) : ∀ (o0 o1 o2 o3 o4 o5 : Obj) (j : Nat), ((((((W.alloc o0).alloc o1).alloc o2).alloc o3).alloc o4).alloc o5).cell? ⟨N, j, none⟩ = W.cell? ⟨N, j, none⟩ := by
  intro o0 o1 o2 o3 o4 o5 j
  rw [World.cell?_alloc_lt _ _ _ (by simp <;> omega), World.cell?_alloc_lt _ _ _ (by simp <;> omega), World.cell?_alloc_lt _ _ _ (by simp <;> omega), World.cell?_alloc_lt _ _ _ (by simp <;> omega), World.cell?_alloc_lt _ _ _ (by simp <;> omega), World.cell?_alloc_lt _ _ _ (by simp <;> omega)]
theorem alloc_frozen6 {W : World} {N : Nat} (h : N < W.heap.size) : ∀ (o0 o1 o2 o3 o4 o5 : Obj) (j : Nat), ((((((W.alloc o0).alloc o1).alloc o2).alloc o3).alloc o4).alloc o5).frozen? ⟨N, j, none⟩ = W.frozen? ⟨N, j, none⟩ := by
  intro o0 o1 o2 o3 o4 o5 j
  rw [World.frozen?_alloc_old _ _ _ (by simp <;> omega), World.frozen?_alloc_old _ _ _ (by simp <;> omega), World.frozen?_alloc_old _ _ _ (by simp <;> omega), World.frozen?_alloc_old _ _ _ (by simp <;> omega), World.frozen?_alloc_old _ _ _ (by simp <;> omega), World.frozen?_alloc_old _ _ _ (by simp <;> omega)]
theorem alloc_cell7 {W : World} {N : Nat} (h : N < W.heap.size) : ∀ (o0 o1 o2 o3 o4 o5 o6 : Obj) (j : Nat), (((((((W.alloc o0).alloc o1).alloc o2).alloc o3).alloc o4).alloc o5).alloc o6).cell? ⟨N, j, none⟩ = W.cell? ⟨N, j, none⟩ := by
  intro o0 o1 o2 o3 o4 o5 o6 j
  rw [World.cell?_alloc_lt _ _ _ (by simp <;> omega), World.cell?_alloc_lt _ _ _ (by simp <;> omega), World.cell?_alloc_lt _ _ _ (by simp <;> omega), World.cell?_alloc_lt _ _ _ (by simp <;> omega), World.cell?_alloc_lt _ _ _ (by simp <;> omega), World.cell?_alloc_lt _ _ _ (by simp <;> omega), World.cell?_alloc_lt _ _ _ (by simp <;> omega)]
theorem alloc_frozen7 {W : World} {N : Nat} (h : N < W.heap.size) : ∀ (o0 o1 o2 o3 o4 o5 o6 : Obj) (j : Nat), (((((((W.alloc o0).alloc o1).alloc o2).alloc o3).alloc o4).alloc o5).alloc o6).frozen? ⟨N, j, none⟩ = W.frozen? ⟨N, j, none⟩ := by
  intro o0 o1 o2 o3 o4 o5 o6 j
  rw [World.frozen?_alloc_old _ _ _ (by simp <;> omega), World.frozen?_alloc_old _ _ _ (by simp <;> omega), World.frozen?_alloc_old _ _ _ (by simp <;> omega), World.frozen?_alloc_old _ _ _ (by simp <;> omega), World.frozen?_alloc_old _ _ _ (by simp <;> omega), World.frozen?_alloc_old _ _ _ (by simp <;> omega), World.frozen?_alloc_old _ _ _ (by simp <;> omega)]
theorem row4d {X : World} {N : Nat} {T : TypeId} {x0 x1 x2 x3 : Value} (h : X.heap[N]? = some (.cells #[x0, x1, x2, x3] T (0, 0))) (v0 v1 v2 v3 : Value) :
    (((((X.setCell ⟨N, 0, none⟩ v0).setCell ⟨N, 1, none⟩ v1).setCell ⟨N, 2, none⟩ v2).setCell ⟨N, 3, none⟩ v3).drew).heap[N]? = some (.cells #[v0, v1, v2, v3] T (0, 0)) := (congrArg (fun h => h[N]?) (heap_drew _)).trans (row4 h v0 v1 v2 v3)
theorem heap_set_ne {w : World} {p : Addr} {v : Value} {g : Nat} (h : g ≠ p.block) : (w.setCell p v).heap[g]? = w.heap[g]? := Below.heap_setCell w p v g h
end Go.Proofs.YthffigagnodnmaaGreatDoor
