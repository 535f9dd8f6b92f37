/-
  Rows of the table whose statement draws its order.
  A row of the table whose statement draws its order.
  A row of the table whose statement draws its order.
  A row of the table whose statement draws its order.
  A row of the table whose statement draws its order.
-/
import Derived.Test.YtbpbnebcbjacdaaGreatTreeRow
namespace Go.Proofs.YtbpbnebcbjacdaaGreat
open Go.RowKit

theorem row4c {w : World} {N : Nat} {T : TypeId} {v0 v1 v2 v3 : Value} (h : w.heap[N]? = some (.cells #[v0, v1, v2, v3] T (0, 0))) :
    w.cell? ⟨N, 0, none⟩ = some v0 ∧ w.cell? ⟨N, 1, none⟩ = some v1 ∧ w.cell? ⟨N, 2, none⟩ = some v2 ∧ w.cell? ⟨N, 3, none⟩ = some v3 := by
  simp [World.cell?, h]
def blankV0 (b0 : Nat) : Value := .func (.func 151) #[] #[.pointer (some ⟨b0, 0, none⟩)]
/-- what blank makes, its boxes by name -/
def BlankPost (w : World) (e : Ending) (w' : World) : Prop :=
  ∃ b0 b1 b2 b3 b4 : Nat, e = .returned (.agg #[.func (.func 151) #[] #[.pointer (some ⟨b0, 0, none⟩)], .func (.func 150) #[] #[.pointer (some ⟨b1, 0, none⟩), .pointer (some ⟨b2, 0, none⟩)], .func (.func 149) #[] #[], .func (.func 153) #[] #[.pointer (some ⟨b3, 0, none⟩), .pointer (some ⟨b4, 0, none⟩)]]) ∧
    Below w.heap.size w w' ∧ (w.heap.size ≤ b0 ∧ w.heap.size ≤ b1 ∧ w.heap.size ≤ b2 ∧ w.heap.size ≤ b3 ∧ w.heap.size ≤ b4) ∧ w'.heap[b0]? = some (.cells #[.func (.func 148) #[] #[]] 75 (0, 0)) ∧
    w'.heap[b1]? = some (.cells #[.int .i64 0] 2 (0, 0)) ∧ w'.heap[b2]? = some (.cells #[.int .i64 0] 2 (0, 0)) ∧ w'.heap[b3]? = some (.cells #[.int .i64 0] 3 (0, 0)) ∧ w'.heap[b4]? = some (.cells #[.int .i64 0] 3 (0, 0))
theorem blank_post (w : World) : Calls Tryz.prog 140 #[] w (BlankPost w) := by
  refine (blank_mk w).mono ?_
  rintro e w' ⟨rfl, rfl⟩
  exact ⟨_, _, _, _, _, rfl, by repeat (first | exact Below.refl _ _ | refine Below.drew ?_ | refine Below.alloc ?_ (by simp <;> omega) _), by omega, by simp only [heap_push, Array.getElem?_push, Array.size_push]; repeat (first | rfl | rw [if_neg (by omega)] | rw [if_pos (by omega)]), by simp only [heap_push, Array.getElem?_push, Array.size_push]; repeat (first | rfl | rw [if_neg (by omega)] | rw [if_pos (by omega)]), by simp only [heap_push, Array.getElem?_push, Array.size_push]; repeat (first | rfl | rw [if_neg (by omega)] | rw [if_pos (by omega)]), by simp only [heap_push, Array.getElem?_push, Array.size_push]; repeat (first | rfl | rw [if_neg (by omega)] | rw [if_pos (by omega)]), by simp only [heap_push, Array.getElem?_push, Array.size_push]; repeat (first | rfl | rw [if_neg (by omega)] | rw [if_pos (by omega)])⟩
theorem cell_alloc {w : World} {p : Addr} {v : Value} {o : Obj} (h : w.cell? p = some v) : (w.alloc o).cell? p = some v := (World.cell?_alloc_lt w o p (World.block_lt_of_cell? w p h)).trans h
theorem cell_drew {w : World} {p : Addr} {v : Value} (h : w.cell? p = some v) : (w.drew).cell? p = some v := h
theorem cell_set_ne {w : World} {p q : Addr} {v u : Value} (hne : p.block ≠ q.block) (h : w.cell? p = some v) : (w.setCell q u).cell? p = some v := (World.cell?_setCell_other w q p u (fun e => hne (by rw [e]))).trans h
theorem alloc_cell3 {W : World} {N : Nat} (h : N < W.heap.size) : ∀ (o0 o1 o2 : Obj) (j : Nat), (((W.alloc o0).alloc o1).alloc o2).cell? ⟨N, j, none⟩ = W.cell? ⟨N, j, none⟩ := by
  intro o0 o1 o2 j
  rw [World.cell?_alloc_lt _ _ _ (by simp <;> omega), World.cell?_alloc_lt _ _ _ (by simp <;> omega), World.cell?_alloc_lt _ _ _ (by simp <;> omega)]
theorem alloc_frozen3 {W : World} {N : Nat} (h : N < W.heap.size) : ∀ (o0 o1 o2 : Obj) (j : Nat), (((W.alloc o0).alloc o1).alloc o2).frozen? ⟨N, j, none⟩ = W.frozen? ⟨N, j, none⟩ := by
  intro o0 o1 o2 j
  rw [World.frozen?_alloc_old _ _ _ (by simp <;> omega), World.frozen?_alloc_old _ _ _ (by simp <;> omega), World.frozen?_alloc_old _ _ _ (by simp <;> omega)]
theorem alloc_cell4 {W : World} {N : Nat} (h : N < W.heap.size) : ∀ (o0 o1 o2 o3 : Obj) (j : Nat), ((((W.alloc o0).alloc o1).alloc o2).alloc o3).cell? ⟨N, j, none⟩ = W.cell? ⟨N, j, none⟩ := by
  intro o0 o1 o2 o3 j
  rw [World.cell?_alloc_lt _ _ _ (by simp <;> omega), World.cell?_alloc_lt _ _ _ (by simp <;> omega), World.cell?_alloc_lt _ _ _ (by simp <;> omega), World.cell?_alloc_lt _ _ _ (by simp <;> omega)]
theorem alloc_frozen4 {W : World} {N : Nat} (h : N < W.heap.size) : ∀ (o0 o1 o2 o3 : Obj) (j : Nat), ((((W.alloc o0).alloc o1).alloc o2).alloc o3).frozen? ⟨N, j, none⟩ = W.frozen? ⟨N, j, none⟩ := by
  intro o0 o1 o2 o3 j
  rw [World.frozen?_alloc_old _ _ _ (by simp <;> omega), World.frozen?_alloc_old _ _ _ (by simp <;> omega), World.frozen?_alloc_old _ _ _ (by simp <;> omega), World.frozen?_alloc_old _ _ _ (by simp <;> omega)]
theorem alloc_cell5 {W : World} {N : Nat} (h : N < W.heap.size) : ∀ (o0 o1 o2 o3 o4 : Obj) (j : Nat), (((((W.alloc o0).alloc o1).alloc o2).alloc o3).alloc o4).cell? ⟨N, j, none⟩ = W.cell? ⟨N, j, none⟩ := by
  intro o0 o1 o2 o3 o4 j
  rw [World.cell?_alloc_lt _ _ _ (by simp <;> omega), World.cell?_alloc_lt _ _ _ (by simp <;> omega), World.cell?_alloc_lt _ _ _ (by simp <;> omega), World.cell?_alloc_lt _ _ _ (by simp <;> omega), World.cell?_alloc_lt _ _ _ (by simp <;> omega)]
theorem alloc_frozen5 {W : World} {N : Nat} (h : N < W.heap.size) : ∀ (o0 o1 o2 o3 o4 : Obj) (j : Nat), (((((W.alloc o0).alloc o1).alloc o2).alloc o3).alloc o4).frozen? ⟨N, j, none⟩ = W.frozen? ⟨N, j, none⟩ := by
  intro o0 o1 o2 o3 o4 j
  rw [World.frozen?_alloc_old _ _ _ (by simp <;> omega), World.frozen?_alloc_old _ _ _ (by simp <;> omega), World.frozen?_alloc_old _ _ _ (by simp <;> omega), World.frozen?_alloc_old _ _ _ (by simp <;> omega), World.frozen?_alloc_old _ _ _ (by simp <;> omega)]
theorem alloc_cell6 {W : World} {N : Nat} (h : N < W.heap.size) : ∀ (o0 o1 o2 o3 o4 o5 : Obj) (j : Nat), ((((((W.alloc o0).alloc o1).alloc o2).alloc o3).alloc o4).alloc o5).cell? ⟨N, j, none⟩ = W.cell? ⟨N, j, none⟩ := by
  intro o0 o1 o2 o3 o4 o5 j
  rw [World.cell?_alloc_lt _ _ _ (by simp <;> omega), World.cell?_alloc_lt _ _ _ (by simp <;> omega), World.cell?_alloc_lt _ _ _ (by simp <;> omega), World.cell?_alloc_lt _ _ _ (by simp <;> omega), World.cell?_alloc_lt _ _ _ (by simp <;> omega), World.cell?_alloc_lt _ _ _ (by simp <;> omega)]
theorem alloc_frozen6 {W : World} {N : Nat} (h : N < W.heap.size) : ∀ (o0 o1 o2 o3 o4 o5 : Obj) (j : Nat), ((((((W.alloc o0).alloc o1).alloc o2).alloc o3).alloc o4).alloc o5).frozen? ⟨N, j, none⟩ = W.frozen? ⟨N, j, none⟩ := by
  intro o0 o1 o2 o3 o4 o5 j
  rw [World.frozen?_alloc_old _ _ _ (by simp <;> omega), World.frozen?_alloc_old _ _ _ (by simp <;> omega), World.frozen?_alloc_old _ _ _ (by simp <;> omega), World.frozen?_alloc_old _ _ _ (by simp <;> omega), World.frozen?_alloc_old _ _ _ (by simp <;> omega), World.frozen?_alloc_old _ _ _ (by simp <;> omega)]
theorem alloc_cell7 {W : World} {N : Nat} (h : N < W.heap.size) : ∀ (o0 o1 o2 o3 o4 o5 o6 : Obj) (j : Nat), (((((((W.alloc o0).alloc o1).alloc o2).alloc o3).alloc o4).alloc o5).alloc o6).cell? ⟨N, j, none⟩ = W.cell? ⟨N, j, none⟩ := by
  intro o0 o1 o2 o3 o4 o5 o6 j
  rw [World.cell?_alloc_lt _ _ _ (by simp <;> omega), World.cell?_alloc_lt _ _ _ (by simp <;> omega), World.cell?_alloc_lt _ _ _ (by simp <;> omega), World.cell?_alloc_lt _ _ _ (by simp <;> omega), World.cell?_alloc_lt _ _ _ (by simp <;> omega), World.cell?_alloc_lt _ _ _ (by simp <;> omega), World.cell?_alloc_lt _ _ _ (by simp <;> omega)]
theorem alloc_frozen7 {W : World} {N : Nat} (h : N < W.heap.size) : ∀ (o0 o1 o2 o3 o4 o5 o6 : Obj) (j : Nat), (((((((W.alloc o0).alloc o1).alloc o2).alloc o3).alloc o4).alloc o5).alloc o6).frozen? ⟨N, j, none⟩ = W.frozen? ⟨N, j, none⟩ := by
  intro o0 o1 o2 o3 o4 o5 o6 j
  rw [World.frozen?_alloc_old _ _ _ (by simp <;> omega), World.frozen?_alloc_old _ _ _ (by simp <;> omega), World.frozen?_alloc_old _ _ _ (by simp <;> omega), World.frozen?_alloc_old _ _ _ (by simp <;> omega), World.frozen?_alloc_old _ _ _ (by simp <;> omega), World.frozen?_alloc_old _ _ _ (by simp <;> omega), World.frozen?_alloc_old _ _ _ (by simp <;> omega)]
theorem row4d {X : World} {N : Nat} {T : TypeId} {x0 x1 x2 x3 : Value} (h : X.heap[N]? = some (.cells #[x0, x1, x2, x3] T (0, 0))) (v0 v1 v2 v3 : Value) :
    (((((X.setCell ⟨N, 0, none⟩ v0).setCell ⟨N, 1, none⟩ v1).setCell ⟨N, 2, none⟩ v2).setCell ⟨N, 3, none⟩ v3).drew).heap[N]? = some (.cells #[v0, v1, v2, v3] T (0, 0)) := (congrArg (fun h => h[N]?) (heap_drew _)).trans (row4 h v0 v1 v2 v3)
theorem heap_set_ne {w : World} {p : Addr} {v : Value} {g : Nat} (h : g ≠ p.block) : (w.setCell p v).heap[g]? = w.heap[g]? := Below.heap_setCell w p v g h
end Go.Proofs.YtbpbnebcbjacdaaGreat
namespace Go.Proofs.YtbpbnebcbjacdaaGreat
open Go.RowKit
set_option maxHeartbeats 4000000 in
theorem row_11 {nf cf : Value} {pn pc : Tx → Bool} (en it : Int) (w : World) (hn0 : StrFn w nf pn) (hc0 : StrFn w cf pc) :
    Calls Tryz.prog 137 #[.agg #[nf, cf, .int .i64 en, .int .i64 it], .int .i64 11] w (RowYes (fun x => pn x.name) blank1 (fun x => decide ((1 : Int) ≤ x.cons.length) && decide ((x.cons.length : Int) ≤ 1) && x.cons.all pc) (fun x => decide ((1 : Int) ≤ x.kids.length) && decide ((x.kids.length : Int) ≤ 1)) w) := by
  obtain ⟨gn, cn, rfl, hn'⟩ := hn0
  obtain ⟨gc, cc, rfl, hc'⟩ := hc0
  have hn : Hid (StrFn w (.func (.func gn) #[] cn) pn) := Lib.hid ⟨gn, cn, rfl, hn'⟩
  have hc : Hid (StrFn w (.func (.func gc) #[] cc) pc) := Lib.hid ⟨gc, cc, rfl, hc'⟩
  clear hn' hc'
  go_enter Tryz.func137, Tryz.ntmps137
  go_wp2_with (go_at_call 140; refine (blank_post _).mono ?_; rintro e w1 ⟨b0, b1, b2, b3, b4, rfl, hb1, hl, f0, f1, f2, f3, f4⟩; have RA := box_a hb1; have RB := box_b hb1; obtain ⟨x0, x1, x2, x3⟩ := row4c RA; have F0 := Lib.hid f0; have F1 := Lib.hid f1; have F2 := Lib.hid f2; have F3 := Lib.hid f3; have F4 := Lib.hid f4; have HRA := Lib.hid RA; have HRB := Lib.hid RB; have HB1 := Lib.hid hb1; have hs1 := hb1.size; simp at hs1 hl; clear f0 f1 f2 f3 f4 RA RB hb1)
  have hk0 := lt_of_heap F0.out
  have hk1 := lt_of_heap F1.out
  have hk2 := lt_of_heap F2.out
  have hk3 := lt_of_heap F3.out
  have hk4 := lt_of_heap F4.out
  have F0 := (Below.heap_alloc w1 (.cells #[.func (.func 151) #[] #[.pointer (some ⟨b0, 0, none⟩)], .func (.func 150) #[] #[.pointer (some ⟨b1, 0, none⟩), .pointer (some ⟨b2, 0, none⟩)], .func (.func 149) #[] #[], .func (.func 153) #[] #[.pointer (some ⟨b3, 0, none⟩), .pointer (some ⟨b4, 0, none⟩)]] 156) _ (lt_of_heap F0.out)).trans F0.out
  have F1 := (Below.heap_alloc w1 (.cells #[.func (.func 151) #[] #[.pointer (some ⟨b0, 0, none⟩)], .func (.func 150) #[] #[.pointer (some ⟨b1, 0, none⟩), .pointer (some ⟨b2, 0, none⟩)], .func (.func 149) #[] #[], .func (.func 153) #[] #[.pointer (some ⟨b3, 0, none⟩), .pointer (some ⟨b4, 0, none⟩)]] 156) _ (lt_of_heap F1.out)).trans F1.out
  have F2 := (Below.heap_alloc w1 (.cells #[.func (.func 151) #[] #[.pointer (some ⟨b0, 0, none⟩)], .func (.func 150) #[] #[.pointer (some ⟨b1, 0, none⟩), .pointer (some ⟨b2, 0, none⟩)], .func (.func 149) #[] #[], .func (.func 153) #[] #[.pointer (some ⟨b3, 0, none⟩), .pointer (some ⟨b4, 0, none⟩)]] 156) _ (lt_of_heap F2.out)).trans F2.out
  have F3 := (Below.heap_alloc w1 (.cells #[.func (.func 151) #[] #[.pointer (some ⟨b0, 0, none⟩)], .func (.func 150) #[] #[.pointer (some ⟨b1, 0, none⟩), .pointer (some ⟨b2, 0, none⟩)], .func (.func 149) #[] #[], .func (.func 153) #[] #[.pointer (some ⟨b3, 0, none⟩), .pointer (some ⟨b4, 0, none⟩)]] 156) _ (lt_of_heap F3.out)).trans F3.out
  have F4 := (Below.heap_alloc w1 (.cells #[.func (.func 151) #[] #[.pointer (some ⟨b0, 0, none⟩)], .func (.func 150) #[] #[.pointer (some ⟨b1, 0, none⟩), .pointer (some ⟨b2, 0, none⟩)], .func (.func 149) #[] #[], .func (.func 153) #[] #[.pointer (some ⟨b3, 0, none⟩), .pointer (some ⟨b4, 0, none⟩)]] 156) _ (lt_of_heap F4.out)).trans F4.out
  have HRB := (Below.heap_alloc w1 (.cells #[.func (.func 151) #[] #[.pointer (some ⟨b0, 0, none⟩)], .func (.func 150) #[] #[.pointer (some ⟨b1, 0, none⟩), .pointer (some ⟨b2, 0, none⟩)], .func (.func 149) #[] #[], .func (.func 153) #[] #[.pointer (some ⟨b3, 0, none⟩), .pointer (some ⟨b4, 0, none⟩)]] 156) _ (lt_of_heap HRB.out)).trans HRB.out
  have HRA := (Below.heap_alloc w1 (.cells #[.func (.func 151) #[] #[.pointer (some ⟨b0, 0, none⟩)], .func (.func 150) #[] #[.pointer (some ⟨b1, 0, none⟩), .pointer (some ⟨b2, 0, none⟩)], .func (.func 149) #[] #[], .func (.func 153) #[] #[.pointer (some ⟨b3, 0, none⟩), .pointer (some ⟨b4, 0, none⟩)]] 156) _ (lt_of_heap HRA.out)).trans HRA.out
  have HS := heap_alloc_new w1 (.cells #[.func (.func 151) #[] #[.pointer (some ⟨b0, 0, none⟩)], .func (.func 150) #[] #[.pointer (some ⟨b1, 0, none⟩), .pointer (some ⟨b2, 0, none⟩)], .func (.func 149) #[] #[], .func (.func 153) #[] #[.pointer (some ⟨b3, 0, none⟩), .pointer (some ⟨b4, 0, none⟩)]] 156)
  have HBW : Hid (Below w.heap.size w (w1.alloc (.cells #[.func (.func 151) #[] #[.pointer (some ⟨b0, 0, none⟩)], .func (.func 150) #[] #[.pointer (some ⟨b1, 0, none⟩), .pointer (some ⟨b2, 0, none⟩)], .func (.func 149) #[] #[], .func (.func 153) #[] #[.pointer (some ⟨b3, 0, none⟩), .pointer (some ⟨b4, 0, none⟩)]] 156))) := Lib.hid (((((Below.refl w.heap.size w).alloc (Nat.le_refl _) _).alloc (by simp) _).trans (HB1.out.mono (by simp <;> omega))).alloc (by omega) _)
  have hWs : w1.heap.size < (w1.alloc (.cells #[.func (.func 151) #[] #[.pointer (some ⟨b0, 0, none⟩)], .func (.func 150) #[] #[.pointer (some ⟨b1, 0, none⟩), .pointer (some ⟨b2, 0, none⟩)], .func (.func 149) #[] #[], .func (.func 153) #[] #[.pointer (some ⟨b3, 0, none⟩), .pointer (some ⟨b4, 0, none⟩)]] 156)).heap.size := by simp
  have hl0 := lt_of_heap F0
  have hl1 := lt_of_heap F1
  have hl2 := lt_of_heap F2
  have hl3 := lt_of_heap F3
  have hl4 := lt_of_heap F4
  generalize w1.alloc (.cells #[.func (.func 151) #[] #[.pointer (some ⟨b0, 0, none⟩)], .func (.func 150) #[] #[.pointer (some ⟨b1, 0, none⟩), .pointer (some ⟨b2, 0, none⟩)], .func (.func 149) #[] #[], .func (.func 153) #[] #[.pointer (some ⟨b3, 0, none⟩), .pointer (some ⟨b4, 0, none⟩)]] 156) = W at *
  clear x0 x1 x2 x3 HB1
  obtain ⟨x0, x1, x2, x3⟩ := row4c HRA
  obtain ⟨y0, y1, y2, y3⟩ := row4c HS
  obtain ⟨z0, z1, z2, z3⟩ := row4c HRB
  have y4 : ∀ j, W.frozen? ⟨w1.heap.size, j, none⟩ = false := fun j => by simp [World.frozen?, HS]
  have z4 : ∀ j, W.frozen? ⟨w.heap.size + 1, j, none⟩ = false := fun j => by simp [World.frozen?, HRB]
  have G0 := Lib.hid F0
  have G1 := Lib.hid F1
  have G2 := Lib.hid F2
  have G3 := Lib.hid F3
  have G4 := Lib.hid F4
  have GA := Lib.hid HRA
  have GB := Lib.hid HRB
  have GS := Lib.hid HS
  clear F0 F1 F2 F3 F4 HRA HRB HS
  have hlw : w.heap.size < W.heap.size := by omega
  have hlw1 : w.heap.size + 1 < W.heap.size := by omega
  have hne : w.heap.size ≠ w1.heap.size := by omega
  have hne1 : w.heap.size + 1 ≠ w1.heap.size := by omega
  have np3 := alloc_cell3 hWs
  have mp3 := alloc_frozen3 hWs
  have np4 := alloc_cell4 hWs
  have mp4 := alloc_frozen4 hWs
  have np5 := alloc_cell5 hWs
  have mp5 := alloc_frozen5 hWs
  have np6 := alloc_cell6 hWs
  have mp6 := alloc_frozen6 hWs
  have np7 := alloc_cell7 hWs
  have mp7 := alloc_frozen7 hWs
  have nq3 := alloc_cell3 hlw
  have mq3 := alloc_frozen3 hlw
  have nq4 := alloc_cell4 hlw
  have mq4 := alloc_frozen4 hlw
  have nq5 := alloc_cell5 hlw
  have mq5 := alloc_frozen5 hlw
  have nq6 := alloc_cell6 hlw
  have mq6 := alloc_frozen6 hlw
  have nq7 := alloc_cell7 hlw
  have mq7 := alloc_frozen7 hlw
  have nr3 := alloc_cell3 hlw1
  have mr3 := alloc_frozen3 hlw1
  have nr4 := alloc_cell4 hlw1
  have mr4 := alloc_frozen4 hlw1
  have nr5 := alloc_cell5 hlw1
  have mr5 := alloc_frozen5 hlw1
  have nr6 := alloc_cell6 hlw1
  have mr6 := alloc_frozen6 hlw1
  have nr7 := alloc_cell7 hlw1
  have mr7 := alloc_frozen7 hlw1
  go_region_with (first | (go_at_call 142; refine (nameIs_mk _ _ _).mono ?_; rintro e w' ⟨rfl, rfl⟩) | (go_at_call 144; refine (kids_mk _ _ _).mono ?_; rintro e w' ⟨rfl, rfl⟩) | (go_at_call 145; refine (cons_mk _ _ _ _ _).mono ?_; rintro e w' ⟨rfl, rfl⟩))
  all_goals go_wp2_with fail
  all_goals clear np3 mp3 np4 mp4 np5 mp5 np6 mp6 np7 mp7 nq3 mq3 nq4 mq4 nq5 mq5 nq6 mq6 nq7 mq7 nr3 mr3 nr4 mr4 nr5 mr5 nr6 mr6 nr7 mr7
  all_goals refine bodyPost_ret (row_results rfl rfl (row4d (by (try simp only [heap_drew]); (repeat rw [heap_set_ne (by dsimp only; omega)]); (try simp only [heap_push, Array.getElem?_push, Array.size_push]); (repeat (first | rw [if_pos True.intro] | rw [if_neg (by omega)] | rw [if_pos (by omega)])); all_goals (first | with_reducible rfl | with_reducible exact G0.out | with_reducible exact G1.out | with_reducible exact G2.out | with_reducible exact G3.out | with_reducible exact G4.out | with_reducible exact GB.out)) _ _ _ _)) rfl ?_
  all_goals exact ⟨_, _, _, _, rfl, by repeat (first | with_reducible exact HBW.out | with_reducible refine Below.drew ?_ | (with_reducible refine Below.setCell ?_ ?_ _; (case refine_2 => (dsimp only; omega))) | (with_reducible refine Below.alloc ?_ ?_ _; (case refine_2 => (first | omega | (simp <;> omega))))), nameIs_fn (w0 := w) hn.out (by repeat (first | with_reducible exact HBW.out | with_reducible refine Below.drew ?_ | (with_reducible refine Below.setCell ?_ ?_ _; (case refine_2 => (dsimp only; omega))) | (with_reducible refine Below.alloc ?_ ?_ _; (case refine_2 => (first | omega | (simp <;> omega)))))) (by (try simp only [heap_drew]); (repeat rw [heap_set_ne (by dsimp only; omega)]); (try simp only [heap_push, Array.getElem?_push, Array.size_push]); (repeat (first | rw [if_pos True.intro] | rw [if_neg (by omega)] | rw [if_pos (by omega)])); all_goals (first | with_reducible rfl | with_reducible exact G0.out | with_reducible exact G1.out | with_reducible exact G2.out | with_reducible exact G3.out | with_reducible exact G4.out | with_reducible exact GB.out)), within_fn (by (try simp only [heap_drew]); (repeat rw [heap_set_ne (by dsimp only; omega)]); (try simp only [heap_push, Array.getElem?_push, Array.size_push]); (repeat (first | rw [if_pos True.intro] | rw [if_neg (by omega)] | rw [if_pos (by omega)])); all_goals (first | with_reducible rfl | with_reducible exact G0.out | with_reducible exact G1.out | with_reducible exact G2.out | with_reducible exact G3.out | with_reducible exact G4.out | with_reducible exact GB.out)) (by (try simp only [heap_drew]); (repeat rw [heap_set_ne (by dsimp only; omega)]); (try simp only [heap_push, Array.getElem?_push, Array.size_push]); (repeat (first | rw [if_pos True.intro] | rw [if_neg (by omega)] | rw [if_pos (by omega)])); all_goals (first | with_reducible rfl | with_reducible exact G0.out | with_reducible exact G1.out | with_reducible exact G2.out | with_reducible exact G3.out | with_reducible exact G4.out | with_reducible exact GB.out)), cons_fn (w0 := w) hc.out (by repeat (first | with_reducible exact HBW.out | with_reducible refine Below.drew ?_ | (with_reducible refine Below.setCell ?_ ?_ _; (case refine_2 => (dsimp only; omega))) | (with_reducible refine Below.alloc ?_ ?_ _; (case refine_2 => (first | omega | (simp <;> omega)))))) (by (try simp only [heap_drew]); (repeat rw [heap_set_ne (by dsimp only; omega)]); (try simp only [heap_push, Array.getElem?_push, Array.size_push]); (repeat (first | rw [if_pos True.intro] | rw [if_neg (by omega)] | rw [if_pos (by omega)])); all_goals (first | with_reducible rfl | with_reducible exact G0.out | with_reducible exact G1.out | with_reducible exact G2.out | with_reducible exact G3.out | with_reducible exact G4.out | with_reducible exact GB.out)) (by (try simp only [heap_drew]); (repeat rw [heap_set_ne (by dsimp only; omega)]); (try simp only [heap_push, Array.getElem?_push, Array.size_push]); (repeat (first | rw [if_pos True.intro] | rw [if_neg (by omega)] | rw [if_pos (by omega)])); all_goals (first | with_reducible rfl | with_reducible exact G0.out | with_reducible exact G1.out | with_reducible exact G2.out | with_reducible exact G3.out | with_reducible exact G4.out | with_reducible exact GB.out)) (by (try simp only [heap_drew]); (repeat rw [heap_set_ne (by dsimp only; omega)]); (try simp only [heap_push, Array.getElem?_push, Array.size_push]); (repeat (first | rw [if_pos True.intro] | rw [if_neg (by omega)] | rw [if_pos (by omega)])); all_goals (first | with_reducible rfl | with_reducible exact G0.out | with_reducible exact G1.out | with_reducible exact G2.out | with_reducible exact G3.out | with_reducible exact G4.out | with_reducible exact GB.out)), kids_fn (by (try simp only [heap_drew]); (repeat rw [heap_set_ne (by dsimp only; omega)]); (try simp only [heap_push, Array.getElem?_push, Array.size_push]); (repeat (first | rw [if_pos True.intro] | rw [if_neg (by omega)] | rw [if_pos (by omega)])); all_goals (first | with_reducible rfl | with_reducible exact G0.out | with_reducible exact G1.out | with_reducible exact G2.out | with_reducible exact G3.out | with_reducible exact G4.out | with_reducible exact GB.out)) (by (try simp only [heap_drew]); (repeat rw [heap_set_ne (by dsimp only; omega)]); (try simp only [heap_push, Array.getElem?_push, Array.size_push]); (repeat (first | rw [if_pos True.intro] | rw [if_neg (by omega)] | rw [if_pos (by omega)])); all_goals (first | with_reducible rfl | with_reducible exact G0.out | with_reducible exact G1.out | with_reducible exact G2.out | with_reducible exact G3.out | with_reducible exact G4.out | with_reducible exact GB.out))⟩
end Go.Proofs.YtbpbnebcbjacdaaGreat
namespace Go.Proofs.YtbpbnebcbjacdaaGreat
open Go.RowKit
set_option maxHeartbeats 4000000 in
theorem row_12 {nf cf : Value} {pn pc : Tx → Bool} (en it : Int) (w : World) (hn0 : StrFn w nf pn) (hc0 : StrFn w cf pc) :
    Calls Tryz.prog 137 #[.agg #[nf, cf, .int .i64 en, .int .i64 it], .int .i64 12] w (RowYes (fun x => pn x.name) blank1 (fun x => decide ((1 : Int) ≤ x.cons.length) && decide ((x.cons.length : Int) ≤ 8) && x.cons.all pc) (fun x => x.kids.length == x.cons.length) w) := by
  obtain ⟨gn, cn, rfl, hn'⟩ := hn0
  obtain ⟨gc, cc, rfl, hc'⟩ := hc0
  have hn : Hid (StrFn w (.func (.func gn) #[] cn) pn) := Lib.hid ⟨gn, cn, rfl, hn'⟩
  have hc : Hid (StrFn w (.func (.func gc) #[] cc) pc) := Lib.hid ⟨gc, cc, rfl, hc'⟩
  clear hn' hc'
  go_enter Tryz.func137, Tryz.ntmps137
  go_wp2_with (go_at_call 140; refine (blank_post _).mono ?_; rintro e w1 ⟨b0, b1, b2, b3, b4, rfl, hb1, hl, f0, f1, f2, f3, f4⟩; have RA := box_a hb1; have RB := box_b hb1; obtain ⟨x0, x1, x2, x3⟩ := row4c RA; have F0 := Lib.hid f0; have F1 := Lib.hid f1; have F2 := Lib.hid f2; have F3 := Lib.hid f3; have F4 := Lib.hid f4; have HRA := Lib.hid RA; have HRB := Lib.hid RB; have HB1 := Lib.hid hb1; have hs1 := hb1.size; simp at hs1 hl; clear f0 f1 f2 f3 f4 RA RB hb1)
  have hk0 := lt_of_heap F0.out
  have hk1 := lt_of_heap F1.out
  have hk2 := lt_of_heap F2.out
  have hk3 := lt_of_heap F3.out
  have hk4 := lt_of_heap F4.out
  have F0 := (Below.heap_alloc w1 (.cells #[.func (.func 151) #[] #[.pointer (some ⟨b0, 0, none⟩)], .func (.func 150) #[] #[.pointer (some ⟨b1, 0, none⟩), .pointer (some ⟨b2, 0, none⟩)], .func (.func 149) #[] #[], .func (.func 153) #[] #[.pointer (some ⟨b3, 0, none⟩), .pointer (some ⟨b4, 0, none⟩)]] 156) _ (lt_of_heap F0.out)).trans F0.out
  have F1 := (Below.heap_alloc w1 (.cells #[.func (.func 151) #[] #[.pointer (some ⟨b0, 0, none⟩)], .func (.func 150) #[] #[.pointer (some ⟨b1, 0, none⟩), .pointer (some ⟨b2, 0, none⟩)], .func (.func 149) #[] #[], .func (.func 153) #[] #[.pointer (some ⟨b3, 0, none⟩), .pointer (some ⟨b4, 0, none⟩)]] 156) _ (lt_of_heap F1.out)).trans F1.out
  have F2 := (Below.heap_alloc w1 (.cells #[.func (.func 151) #[] #[.pointer (some ⟨b0, 0, none⟩)], .func (.func 150) #[] #[.pointer (some ⟨b1, 0, none⟩), .pointer (some ⟨b2, 0, none⟩)], .func (.func 149) #[] #[], .func (.func 153) #[] #[.pointer (some ⟨b3, 0, none⟩), .pointer (some ⟨b4, 0, none⟩)]] 156) _ (lt_of_heap F2.out)).trans F2.out
  have F3 := (Below.heap_alloc w1 (.cells #[.func (.func 151) #[] #[.pointer (some ⟨b0, 0, none⟩)], .func (.func 150) #[] #[.pointer (some ⟨b1, 0, none⟩), .pointer (some ⟨b2, 0, none⟩)], .func (.func 149) #[] #[], .func (.func 153) #[] #[.pointer (some ⟨b3, 0, none⟩), .pointer (some ⟨b4, 0, none⟩)]] 156) _ (lt_of_heap F3.out)).trans F3.out
  have F4 := (Below.heap_alloc w1 (.cells #[.func (.func 151) #[] #[.pointer (some ⟨b0, 0, none⟩)], .func (.func 150) #[] #[.pointer (some ⟨b1, 0, none⟩), .pointer (some ⟨b2, 0, none⟩)], .func (.func 149) #[] #[], .func (.func 153) #[] #[.pointer (some ⟨b3, 0, none⟩), .pointer (some ⟨b4, 0, none⟩)]] 156) _ (lt_of_heap F4.out)).trans F4.out
  have HRB := (Below.heap_alloc w1 (.cells #[.func (.func 151) #[] #[.pointer (some ⟨b0, 0, none⟩)], .func (.func 150) #[] #[.pointer (some ⟨b1, 0, none⟩), .pointer (some ⟨b2, 0, none⟩)], .func (.func 149) #[] #[], .func (.func 153) #[] #[.pointer (some ⟨b3, 0, none⟩), .pointer (some ⟨b4, 0, none⟩)]] 156) _ (lt_of_heap HRB.out)).trans HRB.out
  have HRA := (Below.heap_alloc w1 (.cells #[.func (.func 151) #[] #[.pointer (some ⟨b0, 0, none⟩)], .func (.func 150) #[] #[.pointer (some ⟨b1, 0, none⟩), .pointer (some ⟨b2, 0, none⟩)], .func (.func 149) #[] #[], .func (.func 153) #[] #[.pointer (some ⟨b3, 0, none⟩), .pointer (some ⟨b4, 0, none⟩)]] 156) _ (lt_of_heap HRA.out)).trans HRA.out
  have HS := heap_alloc_new w1 (.cells #[.func (.func 151) #[] #[.pointer (some ⟨b0, 0, none⟩)], .func (.func 150) #[] #[.pointer (some ⟨b1, 0, none⟩), .pointer (some ⟨b2, 0, none⟩)], .func (.func 149) #[] #[], .func (.func 153) #[] #[.pointer (some ⟨b3, 0, none⟩), .pointer (some ⟨b4, 0, none⟩)]] 156)
  have HBW : Hid (Below w.heap.size w (w1.alloc (.cells #[.func (.func 151) #[] #[.pointer (some ⟨b0, 0, none⟩)], .func (.func 150) #[] #[.pointer (some ⟨b1, 0, none⟩), .pointer (some ⟨b2, 0, none⟩)], .func (.func 149) #[] #[], .func (.func 153) #[] #[.pointer (some ⟨b3, 0, none⟩), .pointer (some ⟨b4, 0, none⟩)]] 156))) := Lib.hid (((((Below.refl w.heap.size w).alloc (Nat.le_refl _) _).alloc (by simp) _).trans (HB1.out.mono (by simp <;> omega))).alloc (by omega) _)
  have hWs : w1.heap.size < (w1.alloc (.cells #[.func (.func 151) #[] #[.pointer (some ⟨b0, 0, none⟩)], .func (.func 150) #[] #[.pointer (some ⟨b1, 0, none⟩), .pointer (some ⟨b2, 0, none⟩)], .func (.func 149) #[] #[], .func (.func 153) #[] #[.pointer (some ⟨b3, 0, none⟩), .pointer (some ⟨b4, 0, none⟩)]] 156)).heap.size := by simp
  have hl0 := lt_of_heap F0
  have hl1 := lt_of_heap F1
  have hl2 := lt_of_heap F2
  have hl3 := lt_of_heap F3
  have hl4 := lt_of_heap F4
  generalize w1.alloc (.cells #[.func (.func 151) #[] #[.pointer (some ⟨b0, 0, none⟩)], .func (.func 150) #[] #[.pointer (some ⟨b1, 0, none⟩), .pointer (some ⟨b2, 0, none⟩)], .func (.func 149) #[] #[], .func (.func 153) #[] #[.pointer (some ⟨b3, 0, none⟩), .pointer (some ⟨b4, 0, none⟩)]] 156) = W at *
  clear x0 x1 x2 x3 HB1
  obtain ⟨x0, x1, x2, x3⟩ := row4c HRA
  obtain ⟨y0, y1, y2, y3⟩ := row4c HS
  obtain ⟨z0, z1, z2, z3⟩ := row4c HRB
  have y4 : ∀ j, W.frozen? ⟨w1.heap.size, j, none⟩ = false := fun j => by simp [World.frozen?, HS]
  have z4 : ∀ j, W.frozen? ⟨w.heap.size + 1, j, none⟩ = false := fun j => by simp [World.frozen?, HRB]
  have G0 := Lib.hid F0
  have G1 := Lib.hid F1
  have G2 := Lib.hid F2
  have G3 := Lib.hid F3
  have G4 := Lib.hid F4
  have GA := Lib.hid HRA
  have GB := Lib.hid HRB
  have GS := Lib.hid HS
  clear F0 F1 F2 F3 F4 HRA HRB HS
  have hlw : w.heap.size < W.heap.size := by omega
  have hlw1 : w.heap.size + 1 < W.heap.size := by omega
  have hne : w.heap.size ≠ w1.heap.size := by omega
  have hne1 : w.heap.size + 1 ≠ w1.heap.size := by omega
  have np3 := alloc_cell3 hWs
  have mp3 := alloc_frozen3 hWs
  have np4 := alloc_cell4 hWs
  have mp4 := alloc_frozen4 hWs
  have np5 := alloc_cell5 hWs
  have mp5 := alloc_frozen5 hWs
  have np6 := alloc_cell6 hWs
  have mp6 := alloc_frozen6 hWs
  have np7 := alloc_cell7 hWs
  have mp7 := alloc_frozen7 hWs
  have nq3 := alloc_cell3 hlw
  have mq3 := alloc_frozen3 hlw
  have nq4 := alloc_cell4 hlw
  have mq4 := alloc_frozen4 hlw
  have nq5 := alloc_cell5 hlw
  have mq5 := alloc_frozen5 hlw
  have nq6 := alloc_cell6 hlw
  have mq6 := alloc_frozen6 hlw
  have nq7 := alloc_cell7 hlw
  have mq7 := alloc_frozen7 hlw
  have nr3 := alloc_cell3 hlw1
  have mr3 := alloc_frozen3 hlw1
  have nr4 := alloc_cell4 hlw1
  have mr4 := alloc_frozen4 hlw1
  have nr5 := alloc_cell5 hlw1
  have mr5 := alloc_frozen5 hlw1
  have nr6 := alloc_cell6 hlw1
  have mr6 := alloc_frozen6 hlw1
  have nr7 := alloc_cell7 hlw1
  have mr7 := alloc_frozen7 hlw1
  go_region_with (first | (go_at_call 142; refine (nameIs_mk _ _ _).mono ?_; rintro e w' ⟨rfl, rfl⟩) | (go_at_call 144; refine (kids_mk _ _ _).mono ?_; rintro e w' ⟨rfl, rfl⟩) | (go_at_call 145; refine (cons_mk _ _ _ _ _).mono ?_; rintro e w' ⟨rfl, rfl⟩))
  all_goals go_wp2_with fail
  all_goals clear np3 mp3 np4 mp4 np5 mp5 np6 mp6 np7 mp7 nq3 mq3 nq4 mq4 nq5 mq5 nq6 mq6 nq7 mq7 nr3 mr3 nr4 mr4 nr5 mr5 nr6 mr6 nr7 mr7
  all_goals refine bodyPost_ret (row_results rfl rfl (row4d (by (try simp only [heap_drew]); (repeat rw [heap_set_ne (by dsimp only; omega)]); (try simp only [heap_push, Array.getElem?_push, Array.size_push]); (repeat (first | rw [if_pos True.intro] | rw [if_neg (by omega)] | rw [if_pos (by omega)])); all_goals (first | with_reducible rfl | with_reducible exact G0.out | with_reducible exact G1.out | with_reducible exact G2.out | with_reducible exact G3.out | with_reducible exact G4.out | with_reducible exact GB.out)) _ _ _ _)) rfl ?_
  all_goals exact ⟨_, _, _, _, rfl, by repeat (first | with_reducible exact HBW.out | with_reducible refine Below.drew ?_ | (with_reducible refine Below.setCell ?_ ?_ _; (case refine_2 => (dsimp only; omega))) | (with_reducible refine Below.alloc ?_ ?_ _; (case refine_2 => (first | omega | (simp <;> omega))))), nameIs_fn (w0 := w) hn.out (by repeat (first | with_reducible exact HBW.out | with_reducible refine Below.drew ?_ | (with_reducible refine Below.setCell ?_ ?_ _; (case refine_2 => (dsimp only; omega))) | (with_reducible refine Below.alloc ?_ ?_ _; (case refine_2 => (first | omega | (simp <;> omega)))))) (by (try simp only [heap_drew]); (repeat rw [heap_set_ne (by dsimp only; omega)]); (try simp only [heap_push, Array.getElem?_push, Array.size_push]); (repeat (first | rw [if_pos True.intro] | rw [if_neg (by omega)] | rw [if_pos (by omega)])); all_goals (first | with_reducible rfl | with_reducible exact G0.out | with_reducible exact G1.out | with_reducible exact G2.out | with_reducible exact G3.out | with_reducible exact G4.out | with_reducible exact GB.out)), within_fn (by (try simp only [heap_drew]); (repeat rw [heap_set_ne (by dsimp only; omega)]); (try simp only [heap_push, Array.getElem?_push, Array.size_push]); (repeat (first | rw [if_pos True.intro] | rw [if_neg (by omega)] | rw [if_pos (by omega)])); all_goals (first | with_reducible rfl | with_reducible exact G0.out | with_reducible exact G1.out | with_reducible exact G2.out | with_reducible exact G3.out | with_reducible exact G4.out | with_reducible exact GB.out)) (by (try simp only [heap_drew]); (repeat rw [heap_set_ne (by dsimp only; omega)]); (try simp only [heap_push, Array.getElem?_push, Array.size_push]); (repeat (first | rw [if_pos True.intro] | rw [if_neg (by omega)] | rw [if_pos (by omega)])); all_goals (first | with_reducible rfl | with_reducible exact G0.out | with_reducible exact G1.out | with_reducible exact G2.out | with_reducible exact G3.out | with_reducible exact G4.out | with_reducible exact GB.out)), cons_fn (w0 := w) hc.out (by repeat (first | with_reducible exact HBW.out | with_reducible refine Below.drew ?_ | (with_reducible refine Below.setCell ?_ ?_ _; (case refine_2 => (dsimp only; omega))) | (with_reducible refine Below.alloc ?_ ?_ _; (case refine_2 => (first | omega | (simp <;> omega)))))) (by (try simp only [heap_drew]); (repeat rw [heap_set_ne (by dsimp only; omega)]); (try simp only [heap_push, Array.getElem?_push, Array.size_push]); (repeat (first | rw [if_pos True.intro] | rw [if_neg (by omega)] | rw [if_pos (by omega)])); all_goals (first | with_reducible rfl | with_reducible exact G0.out | with_reducible exact G1.out | with_reducible exact G2.out | with_reducible exact G3.out | with_reducible exact G4.out | with_reducible exact GB.out)) (by (try simp only [heap_drew]); (repeat rw [heap_set_ne (by dsimp only; omega)]); (try simp only [heap_push, Array.getElem?_push, Array.size_push]); (repeat (first | rw [if_pos True.intro] | rw [if_neg (by omega)] | rw [if_pos (by omega)])); all_goals (first | with_reducible rfl | with_reducible exact G0.out | with_reducible exact G1.out | with_reducible exact G2.out | with_reducible exact G3.out | with_reducible exact G4.out | with_reducible exact GB.out)) (by (try simp only [heap_drew]); (repeat rw [heap_set_ne (by dsimp only; omega)]); (try simp only [heap_push, Array.getElem?_push, Array.size_push]); (repeat (first | rw [if_pos True.intro] | rw [if_neg (by omega)] | rw [if_pos (by omega)])); all_goals (first | with_reducible rfl | with_reducible exact G0.out | with_reducible exact G1.out | with_reducible exact G2.out | with_reducible exact G3.out | with_reducible exact G4.out | with_reducible exact GB.out)), row1_fn _⟩
end Go.Proofs.YtbpbnebcbjacdaaGreat
namespace Go.Proofs.YtbpbnebcbjacdaaGreat
open Go.RowKit
set_option maxHeartbeats 4000000 in
theorem row_13 {nf cf : Value} {pn pc : Tx → Bool} (en it : Int) (w : World) (hn0 : StrFn w nf pn) (hc0 : StrFn w cf pc) :
    Calls Tryz.prog 137 #[.agg #[nf, cf, .int .i64 en, .int .i64 it], .int .i64 13] w (RowYes (fun x => pn x.name) blank1 (fun x => decide ((1 : Int) ≤ x.cons.length) && decide ((x.cons.length : Int) ≤ 8) && x.cons.all pc) (fun x => x.kids.length == x.cons.length) w) := by
  obtain ⟨gn, cn, rfl, hn'⟩ := hn0
  obtain ⟨gc, cc, rfl, hc'⟩ := hc0
  have hn : Hid (StrFn w (.func (.func gn) #[] cn) pn) := Lib.hid ⟨gn, cn, rfl, hn'⟩
  have hc : Hid (StrFn w (.func (.func gc) #[] cc) pc) := Lib.hid ⟨gc, cc, rfl, hc'⟩
  clear hn' hc'
  go_enter Tryz.func137, Tryz.ntmps137
  go_wp2_with (go_at_call 140; refine (blank_post _).mono ?_; rintro e w1 ⟨b0, b1, b2, b3, b4, rfl, hb1, hl, f0, f1, f2, f3, f4⟩; have RA := box_a hb1; have RB := box_b hb1; obtain ⟨x0, x1, x2, x3⟩ := row4c RA; have F0 := Lib.hid f0; have F1 := Lib.hid f1; have F2 := Lib.hid f2; have F3 := Lib.hid f3; have F4 := Lib.hid f4; have HRA := Lib.hid RA; have HRB := Lib.hid RB; have HB1 := Lib.hid hb1; have hs1 := hb1.size; simp at hs1 hl; clear f0 f1 f2 f3 f4 RA RB hb1)
  have hk0 := lt_of_heap F0.out
  have hk1 := lt_of_heap F1.out
  have hk2 := lt_of_heap F2.out
  have hk3 := lt_of_heap F3.out
  have hk4 := lt_of_heap F4.out
  have F0 := (Below.heap_alloc w1 (.cells #[.func (.func 151) #[] #[.pointer (some ⟨b0, 0, none⟩)], .func (.func 150) #[] #[.pointer (some ⟨b1, 0, none⟩), .pointer (some ⟨b2, 0, none⟩)], .func (.func 149) #[] #[], .func (.func 153) #[] #[.pointer (some ⟨b3, 0, none⟩), .pointer (some ⟨b4, 0, none⟩)]] 156) _ (lt_of_heap F0.out)).trans F0.out
  have F1 := (Below.heap_alloc w1 (.cells #[.func (.func 151) #[] #[.pointer (some ⟨b0, 0, none⟩)], .func (.func 150) #[] #[.pointer (some ⟨b1, 0, none⟩), .pointer (some ⟨b2, 0, none⟩)], .func (.func 149) #[] #[], .func (.func 153) #[] #[.pointer (some ⟨b3, 0, none⟩), .pointer (some ⟨b4, 0, none⟩)]] 156) _ (lt_of_heap F1.out)).trans F1.out
  have F2 := (Below.heap_alloc w1 (.cells #[.func (.func 151) #[] #[.pointer (some ⟨b0, 0, none⟩)], .func (.func 150) #[] #[.pointer (some ⟨b1, 0, none⟩), .pointer (some ⟨b2, 0, none⟩)], .func (.func 149) #[] #[], .func (.func 153) #[] #[.pointer (some ⟨b3, 0, none⟩), .pointer (some ⟨b4, 0, none⟩)]] 156) _ (lt_of_heap F2.out)).trans F2.out
  have F3 := (Below.heap_alloc w1 (.cells #[.func (.func 151) #[] #[.pointer (some ⟨b0, 0, none⟩)], .func (.func 150) #[] #[.pointer (some ⟨b1, 0, none⟩), .pointer (some ⟨b2, 0, none⟩)], .func (.func 149) #[] #[], .func (.func 153) #[] #[.pointer (some ⟨b3, 0, none⟩), .pointer (some ⟨b4, 0, none⟩)]] 156) _ (lt_of_heap F3.out)).trans F3.out
  have F4 := (Below.heap_alloc w1 (.cells #[.func (.func 151) #[] #[.pointer (some ⟨b0, 0, none⟩)], .func (.func 150) #[] #[.pointer (some ⟨b1, 0, none⟩), .pointer (some ⟨b2, 0, none⟩)], .func (.func 149) #[] #[], .func (.func 153) #[] #[.pointer (some ⟨b3, 0, none⟩), .pointer (some ⟨b4, 0, none⟩)]] 156) _ (lt_of_heap F4.out)).trans F4.out
  have HRB := (Below.heap_alloc w1 (.cells #[.func (.func 151) #[] #[.pointer (some ⟨b0, 0, none⟩)], .func (.func 150) #[] #[.pointer (some ⟨b1, 0, none⟩), .pointer (some ⟨b2, 0, none⟩)], .func (.func 149) #[] #[], .func (.func 153) #[] #[.pointer (some ⟨b3, 0, none⟩), .pointer (some ⟨b4, 0, none⟩)]] 156) _ (lt_of_heap HRB.out)).trans HRB.out
  have HRA := (Below.heap_alloc w1 (.cells #[.func (.func 151) #[] #[.pointer (some ⟨b0, 0, none⟩)], .func (.func 150) #[] #[.pointer (some ⟨b1, 0, none⟩), .pointer (some ⟨b2, 0, none⟩)], .func (.func 149) #[] #[], .func (.func 153) #[] #[.pointer (some ⟨b3, 0, none⟩), .pointer (some ⟨b4, 0, none⟩)]] 156) _ (lt_of_heap HRA.out)).trans HRA.out
  have HS := heap_alloc_new w1 (.cells #[.func (.func 151) #[] #[.pointer (some ⟨b0, 0, none⟩)], .func (.func 150) #[] #[.pointer (some ⟨b1, 0, none⟩), .pointer (some ⟨b2, 0, none⟩)], .func (.func 149) #[] #[], .func (.func 153) #[] #[.pointer (some ⟨b3, 0, none⟩), .pointer (some ⟨b4, 0, none⟩)]] 156)
  have HBW : Hid (Below w.heap.size w (w1.alloc (.cells #[.func (.func 151) #[] #[.pointer (some ⟨b0, 0, none⟩)], .func (.func 150) #[] #[.pointer (some ⟨b1, 0, none⟩), .pointer (some ⟨b2, 0, none⟩)], .func (.func 149) #[] #[], .func (.func 153) #[] #[.pointer (some ⟨b3, 0, none⟩), .pointer (some ⟨b4, 0, none⟩)]] 156))) := Lib.hid (((((Below.refl w.heap.size w).alloc (Nat.le_refl _) _).alloc (by simp) _).trans (HB1.out.mono (by simp <;> omega))).alloc (by omega) _)
  have hWs : w1.heap.size < (w1.alloc (.cells #[.func (.func 151) #[] #[.pointer (some ⟨b0, 0, none⟩)], .func (.func 150) #[] #[.pointer (some ⟨b1, 0, none⟩), .pointer (some ⟨b2, 0, none⟩)], .func (.func 149) #[] #[], .func (.func 153) #[] #[.pointer (some ⟨b3, 0, none⟩), .pointer (some ⟨b4, 0, none⟩)]] 156)).heap.size := by simp
  have hl0 := lt_of_heap F0
  have hl1 := lt_of_heap F1
  have hl2 := lt_of_heap F2
  have hl3 := lt_of_heap F3
  have hl4 := lt_of_heap F4
  generalize w1.alloc (.cells #[.func (.func 151) #[] #[.pointer (some ⟨b0, 0, none⟩)], .func (.func 150) #[] #[.pointer (some ⟨b1, 0, none⟩), .pointer (some ⟨b2, 0, none⟩)], .func (.func 149) #[] #[], .func (.func 153) #[] #[.pointer (some ⟨b3, 0, none⟩), .pointer (some ⟨b4, 0, none⟩)]] 156) = W at *
  clear x0 x1 x2 x3 HB1
  obtain ⟨x0, x1, x2, x3⟩ := row4c HRA
  obtain ⟨y0, y1, y2, y3⟩ := row4c HS
  obtain ⟨z0, z1, z2, z3⟩ := row4c HRB
  have y4 : ∀ j, W.frozen? ⟨w1.heap.size, j, none⟩ = false := fun j => by simp [World.frozen?, HS]
  have z4 : ∀ j, W.frozen? ⟨w.heap.size + 1, j, none⟩ = false := fun j => by simp [World.frozen?, HRB]
  have G0 := Lib.hid F0
  have G1 := Lib.hid F1
  have G2 := Lib.hid F2
  have G3 := Lib.hid F3
  have G4 := Lib.hid F4
  have GA := Lib.hid HRA
  have GB := Lib.hid HRB
  have GS := Lib.hid HS
  clear F0 F1 F2 F3 F4 HRA HRB HS
  have hlw : w.heap.size < W.heap.size := by omega
  have hlw1 : w.heap.size + 1 < W.heap.size := by omega
  have hne : w.heap.size ≠ w1.heap.size := by omega
  have hne1 : w.heap.size + 1 ≠ w1.heap.size := by omega
  have np3 := alloc_cell3 hWs
  have mp3 := alloc_frozen3 hWs
  have np4 := alloc_cell4 hWs
  have mp4 := alloc_frozen4 hWs
  have np5 := alloc_cell5 hWs
  have mp5 := alloc_frozen5 hWs
  have np6 := alloc_cell6 hWs
  have mp6 := alloc_frozen6 hWs
  have np7 := alloc_cell7 hWs
  have mp7 := alloc_frozen7 hWs
  have nq3 := alloc_cell3 hlw
  have mq3 := alloc_frozen3 hlw
  have nq4 := alloc_cell4 hlw
  have mq4 := alloc_frozen4 hlw
  have nq5 := alloc_cell5 hlw
  have mq5 := alloc_frozen5 hlw
  have nq6 := alloc_cell6 hlw
  have mq6 := alloc_frozen6 hlw
  have nq7 := alloc_cell7 hlw
  have mq7 := alloc_frozen7 hlw
  have nr3 := alloc_cell3 hlw1
  have mr3 := alloc_frozen3 hlw1
  have nr4 := alloc_cell4 hlw1
  have mr4 := alloc_frozen4 hlw1
  have nr5 := alloc_cell5 hlw1
  have mr5 := alloc_frozen5 hlw1
  have nr6 := alloc_cell6 hlw1
  have mr6 := alloc_frozen6 hlw1
  have nr7 := alloc_cell7 hlw1
  have mr7 := alloc_frozen7 hlw1
  go_region_with (first | (go_at_call 142; refine (nameIs_mk _ _ _).mono ?_; rintro e w' ⟨rfl, rfl⟩) | (go_at_call 144; refine (kids_mk _ _ _).mono ?_; rintro e w' ⟨rfl, rfl⟩) | (go_at_call 145; refine (cons_mk _ _ _ _ _).mono ?_; rintro e w' ⟨rfl, rfl⟩))
  all_goals go_wp2_with fail
  all_goals clear np3 mp3 np4 mp4 np5 mp5 np6 mp6 np7 mp7 nq3 mq3 nq4 mq4 nq5 mq5 nq6 mq6 nq7 mq7 nr3 mr3 nr4 mr4 nr5 mr5 nr6 mr6 nr7 mr7
  all_goals refine bodyPost_ret (row_results rfl rfl (row4d (by (try simp only [heap_drew]); (repeat rw [heap_set_ne (by dsimp only; omega)]); (try simp only [heap_push, Array.getElem?_push, Array.size_push]); (repeat (first | rw [if_pos True.intro] | rw [if_neg (by omega)] | rw [if_pos (by omega)])); all_goals (first | with_reducible rfl | with_reducible exact G0.out | with_reducible exact G1.out | with_reducible exact G2.out | with_reducible exact G3.out | with_reducible exact G4.out | with_reducible exact GB.out)) _ _ _ _)) rfl ?_
  all_goals exact ⟨_, _, _, _, rfl, by repeat (first | with_reducible exact HBW.out | with_reducible refine Below.drew ?_ | (with_reducible refine Below.setCell ?_ ?_ _; (case refine_2 => (dsimp only; omega))) | (with_reducible refine Below.alloc ?_ ?_ _; (case refine_2 => (first | omega | (simp <;> omega))))), nameIs_fn (w0 := w) hn.out (by repeat (first | with_reducible exact HBW.out | with_reducible refine Below.drew ?_ | (with_reducible refine Below.setCell ?_ ?_ _; (case refine_2 => (dsimp only; omega))) | (with_reducible refine Below.alloc ?_ ?_ _; (case refine_2 => (first | omega | (simp <;> omega)))))) (by (try simp only [heap_drew]); (repeat rw [heap_set_ne (by dsimp only; omega)]); (try simp only [heap_push, Array.getElem?_push, Array.size_push]); (repeat (first | rw [if_pos True.intro] | rw [if_neg (by omega)] | rw [if_pos (by omega)])); all_goals (first | with_reducible rfl | with_reducible exact G0.out | with_reducible exact G1.out | with_reducible exact G2.out | with_reducible exact G3.out | with_reducible exact G4.out | with_reducible exact GB.out)), within_fn (by (try simp only [heap_drew]); (repeat rw [heap_set_ne (by dsimp only; omega)]); (try simp only [heap_push, Array.getElem?_push, Array.size_push]); (repeat (first | rw [if_pos True.intro] | rw [if_neg (by omega)] | rw [if_pos (by omega)])); all_goals (first | with_reducible rfl | with_reducible exact G0.out | with_reducible exact G1.out | with_reducible exact G2.out | with_reducible exact G3.out | with_reducible exact G4.out | with_reducible exact GB.out)) (by (try simp only [heap_drew]); (repeat rw [heap_set_ne (by dsimp only; omega)]); (try simp only [heap_push, Array.getElem?_push, Array.size_push]); (repeat (first | rw [if_pos True.intro] | rw [if_neg (by omega)] | rw [if_pos (by omega)])); all_goals (first | with_reducible rfl | with_reducible exact G0.out | with_reducible exact G1.out | with_reducible exact G2.out | with_reducible exact G3.out | with_reducible exact G4.out | with_reducible exact GB.out)), cons_fn (w0 := w) hc.out (by repeat (first | with_reducible exact HBW.out | with_reducible refine Below.drew ?_ | (with_reducible refine Below.setCell ?_ ?_ _; (case refine_2 => (dsimp only; omega))) | (with_reducible refine Below.alloc ?_ ?_ _; (case refine_2 => (first | omega | (simp <;> omega)))))) (by (try simp only [heap_drew]); (repeat rw [heap_set_ne (by dsimp only; omega)]); (try simp only [heap_push, Array.getElem?_push, Array.size_push]); (repeat (first | rw [if_pos True.intro] | rw [if_neg (by omega)] | rw [if_pos (by omega)])); all_goals (first | with_reducible rfl | with_reducible exact G0.out | with_reducible exact G1.out | with_reducible exact G2.out | with_reducible exact G3.out | with_reducible exact G4.out | with_reducible exact GB.out)) (by (try simp only [heap_drew]); (repeat rw [heap_set_ne (by dsimp only; omega)]); (try simp only [heap_push, Array.getElem?_push, Array.size_push]); (repeat (first | rw [if_pos True.intro] | rw [if_neg (by omega)] | rw [if_pos (by omega)])); all_goals (first | with_reducible rfl | with_reducible exact G0.out | with_reducible exact G1.out | with_reducible exact G2.out | with_reducible exact G3.out | with_reducible exact G4.out | with_reducible exact GB.out)) (by (try simp only [heap_drew]); (repeat rw [heap_set_ne (by dsimp only; omega)]); (try simp only [heap_push, Array.getElem?_push, Array.size_push]); (repeat (first | rw [if_pos True.intro] | rw [if_neg (by omega)] | rw [if_pos (by omega)])); all_goals (first | with_reducible rfl | with_reducible exact G0.out | with_reducible exact G1.out | with_reducible exact G2.out | with_reducible exact G3.out | with_reducible exact G4.out | with_reducible exact GB.out)), row1_fn _⟩
end Go.Proofs.YtbpbnebcbjacdaaGreat
namespace Go.Proofs.YtbpbnebcbjacdaaGreat
open Go.RowKit
set_option maxHeartbeats 4000000 in
theorem row_14 {nf cf : Value} {pn pc : Tx → Bool} (en it : Int) (w : World) (hn0 : StrFn w nf pn) (hc0 : StrFn w cf pc) :
    Calls Tryz.prog 137 #[.agg #[nf, cf, .int .i64 en, .int .i64 it], .int .i64 14] w (RowYes (fun x => pn x.name) blank1 (fun x => decide ((0 : Int) ≤ x.cons.length) && decide ((x.cons.length : Int) ≤ 6) && x.cons.all pn) (fun x => decide ((1 : Int) ≤ x.kids.length) && decide ((x.kids.length : Int) ≤ 6)) w) := by
  obtain ⟨gn, cn, rfl, hn'⟩ := hn0
  obtain ⟨gc, cc, rfl, hc'⟩ := hc0
  have hn : Hid (StrFn w (.func (.func gn) #[] cn) pn) := Lib.hid ⟨gn, cn, rfl, hn'⟩
  have hc : Hid (StrFn w (.func (.func gc) #[] cc) pc) := Lib.hid ⟨gc, cc, rfl, hc'⟩
  clear hn' hc'
  go_enter Tryz.func137, Tryz.ntmps137
  go_wp2_with (go_at_call 140; refine (blank_post _).mono ?_; rintro e w1 ⟨b0, b1, b2, b3, b4, rfl, hb1, hl, f0, f1, f2, f3, f4⟩; have RA := box_a hb1; have RB := box_b hb1; obtain ⟨x0, x1, x2, x3⟩ := row4c RA; have F0 := Lib.hid f0; have F1 := Lib.hid f1; have F2 := Lib.hid f2; have F3 := Lib.hid f3; have F4 := Lib.hid f4; have HRA := Lib.hid RA; have HRB := Lib.hid RB; have HB1 := Lib.hid hb1; have hs1 := hb1.size; simp at hs1 hl; clear f0 f1 f2 f3 f4 RA RB hb1)
  have hk0 := lt_of_heap F0.out
  have hk1 := lt_of_heap F1.out
  have hk2 := lt_of_heap F2.out
  have hk3 := lt_of_heap F3.out
  have hk4 := lt_of_heap F4.out
  have F0 := (Below.heap_alloc w1 (.cells #[.func (.func 151) #[] #[.pointer (some ⟨b0, 0, none⟩)], .func (.func 150) #[] #[.pointer (some ⟨b1, 0, none⟩), .pointer (some ⟨b2, 0, none⟩)], .func (.func 149) #[] #[], .func (.func 153) #[] #[.pointer (some ⟨b3, 0, none⟩), .pointer (some ⟨b4, 0, none⟩)]] 156) _ (lt_of_heap F0.out)).trans F0.out
  have F1 := (Below.heap_alloc w1 (.cells #[.func (.func 151) #[] #[.pointer (some ⟨b0, 0, none⟩)], .func (.func 150) #[] #[.pointer (some ⟨b1, 0, none⟩), .pointer (some ⟨b2, 0, none⟩)], .func (.func 149) #[] #[], .func (.func 153) #[] #[.pointer (some ⟨b3, 0, none⟩), .pointer (some ⟨b4, 0, none⟩)]] 156) _ (lt_of_heap F1.out)).trans F1.out
  have F2 := (Below.heap_alloc w1 (.cells #[.func (.func 151) #[] #[.pointer (some ⟨b0, 0, none⟩)], .func (.func 150) #[] #[.pointer (some ⟨b1, 0, none⟩), .pointer (some ⟨b2, 0, none⟩)], .func (.func 149) #[] #[], .func (.func 153) #[] #[.pointer (some ⟨b3, 0, none⟩), .pointer (some ⟨b4, 0, none⟩)]] 156) _ (lt_of_heap F2.out)).trans F2.out
  have F3 := (Below.heap_alloc w1 (.cells #[.func (.func 151) #[] #[.pointer (some ⟨b0, 0, none⟩)], .func (.func 150) #[] #[.pointer (some ⟨b1, 0, none⟩), .pointer (some ⟨b2, 0, none⟩)], .func (.func 149) #[] #[], .func (.func 153) #[] #[.pointer (some ⟨b3, 0, none⟩), .pointer (some ⟨b4, 0, none⟩)]] 156) _ (lt_of_heap F3.out)).trans F3.out
  have F4 := (Below.heap_alloc w1 (.cells #[.func (.func 151) #[] #[.pointer (some ⟨b0, 0, none⟩)], .func (.func 150) #[] #[.pointer (some ⟨b1, 0, none⟩), .pointer (some ⟨b2, 0, none⟩)], .func (.func 149) #[] #[], .func (.func 153) #[] #[.pointer (some ⟨b3, 0, none⟩), .pointer (some ⟨b4, 0, none⟩)]] 156) _ (lt_of_heap F4.out)).trans F4.out
  have HRB := (Below.heap_alloc w1 (.cells #[.func (.func 151) #[] #[.pointer (some ⟨b0, 0, none⟩)], .func (.func 150) #[] #[.pointer (some ⟨b1, 0, none⟩), .pointer (some ⟨b2, 0, none⟩)], .func (.func 149) #[] #[], .func (.func 153) #[] #[.pointer (some ⟨b3, 0, none⟩), .pointer (some ⟨b4, 0, none⟩)]] 156) _ (lt_of_heap HRB.out)).trans HRB.out
  have HRA := (Below.heap_alloc w1 (.cells #[.func (.func 151) #[] #[.pointer (some ⟨b0, 0, none⟩)], .func (.func 150) #[] #[.pointer (some ⟨b1, 0, none⟩), .pointer (some ⟨b2, 0, none⟩)], .func (.func 149) #[] #[], .func (.func 153) #[] #[.pointer (some ⟨b3, 0, none⟩), .pointer (some ⟨b4, 0, none⟩)]] 156) _ (lt_of_heap HRA.out)).trans HRA.out
  have HS := heap_alloc_new w1 (.cells #[.func (.func 151) #[] #[.pointer (some ⟨b0, 0, none⟩)], .func (.func 150) #[] #[.pointer (some ⟨b1, 0, none⟩), .pointer (some ⟨b2, 0, none⟩)], .func (.func 149) #[] #[], .func (.func 153) #[] #[.pointer (some ⟨b3, 0, none⟩), .pointer (some ⟨b4, 0, none⟩)]] 156)
  have HBW : Hid (Below w.heap.size w (w1.alloc (.cells #[.func (.func 151) #[] #[.pointer (some ⟨b0, 0, none⟩)], .func (.func 150) #[] #[.pointer (some ⟨b1, 0, none⟩), .pointer (some ⟨b2, 0, none⟩)], .func (.func 149) #[] #[], .func (.func 153) #[] #[.pointer (some ⟨b3, 0, none⟩), .pointer (some ⟨b4, 0, none⟩)]] 156))) := Lib.hid (((((Below.refl w.heap.size w).alloc (Nat.le_refl _) _).alloc (by simp) _).trans (HB1.out.mono (by simp <;> omega))).alloc (by omega) _)
  have hWs : w1.heap.size < (w1.alloc (.cells #[.func (.func 151) #[] #[.pointer (some ⟨b0, 0, none⟩)], .func (.func 150) #[] #[.pointer (some ⟨b1, 0, none⟩), .pointer (some ⟨b2, 0, none⟩)], .func (.func 149) #[] #[], .func (.func 153) #[] #[.pointer (some ⟨b3, 0, none⟩), .pointer (some ⟨b4, 0, none⟩)]] 156)).heap.size := by simp
  have hl0 := lt_of_heap F0
  have hl1 := lt_of_heap F1
  have hl2 := lt_of_heap F2
  have hl3 := lt_of_heap F3
  have hl4 := lt_of_heap F4
  generalize w1.alloc (.cells #[.func (.func 151) #[] #[.pointer (some ⟨b0, 0, none⟩)], .func (.func 150) #[] #[.pointer (some ⟨b1, 0, none⟩), .pointer (some ⟨b2, 0, none⟩)], .func (.func 149) #[] #[], .func (.func 153) #[] #[.pointer (some ⟨b3, 0, none⟩), .pointer (some ⟨b4, 0, none⟩)]] 156) = W at *
  clear x0 x1 x2 x3 HB1
  obtain ⟨x0, x1, x2, x3⟩ := row4c HRA
  obtain ⟨y0, y1, y2, y3⟩ := row4c HS
  obtain ⟨z0, z1, z2, z3⟩ := row4c HRB
  have y4 : ∀ j, W.frozen? ⟨w1.heap.size, j, none⟩ = false := fun j => by simp [World.frozen?, HS]
  have z4 : ∀ j, W.frozen? ⟨w.heap.size + 1, j, none⟩ = false := fun j => by simp [World.frozen?, HRB]
  have G0 := Lib.hid F0
  have G1 := Lib.hid F1
  have G2 := Lib.hid F2
  have G3 := Lib.hid F3
  have G4 := Lib.hid F4
  have GA := Lib.hid HRA
  have GB := Lib.hid HRB
  have GS := Lib.hid HS
  clear F0 F1 F2 F3 F4 HRA HRB HS
  have hlw : w.heap.size < W.heap.size := by omega
  have hlw1 : w.heap.size + 1 < W.heap.size := by omega
  have hne : w.heap.size ≠ w1.heap.size := by omega
  have hne1 : w.heap.size + 1 ≠ w1.heap.size := by omega
  have np3 := alloc_cell3 hWs
  have mp3 := alloc_frozen3 hWs
  have np4 := alloc_cell4 hWs
  have mp4 := alloc_frozen4 hWs
  have np5 := alloc_cell5 hWs
  have mp5 := alloc_frozen5 hWs
  have np6 := alloc_cell6 hWs
  have mp6 := alloc_frozen6 hWs
  have np7 := alloc_cell7 hWs
  have mp7 := alloc_frozen7 hWs
  have nq3 := alloc_cell3 hlw
  have mq3 := alloc_frozen3 hlw
  have nq4 := alloc_cell4 hlw
  have mq4 := alloc_frozen4 hlw
  have nq5 := alloc_cell5 hlw
  have mq5 := alloc_frozen5 hlw
  have nq6 := alloc_cell6 hlw
  have mq6 := alloc_frozen6 hlw
  have nq7 := alloc_cell7 hlw
  have mq7 := alloc_frozen7 hlw
  have nr3 := alloc_cell3 hlw1
  have mr3 := alloc_frozen3 hlw1
  have nr4 := alloc_cell4 hlw1
  have mr4 := alloc_frozen4 hlw1
  have nr5 := alloc_cell5 hlw1
  have mr5 := alloc_frozen5 hlw1
  have nr6 := alloc_cell6 hlw1
  have mr6 := alloc_frozen6 hlw1
  have nr7 := alloc_cell7 hlw1
  have mr7 := alloc_frozen7 hlw1
  go_region_with (first | (go_at_call 142; refine (nameIs_mk _ _ _).mono ?_; rintro e w' ⟨rfl, rfl⟩) | (go_at_call 144; refine (kids_mk _ _ _).mono ?_; rintro e w' ⟨rfl, rfl⟩) | (go_at_call 145; refine (cons_mk _ _ _ _ _).mono ?_; rintro e w' ⟨rfl, rfl⟩))
  all_goals go_wp2_with fail
  all_goals clear np3 mp3 np4 mp4 np5 mp5 np6 mp6 np7 mp7 nq3 mq3 nq4 mq4 nq5 mq5 nq6 mq6 nq7 mq7 nr3 mr3 nr4 mr4 nr5 mr5 nr6 mr6 nr7 mr7
  all_goals refine bodyPost_ret (row_results rfl rfl (row4d (by (try simp only [heap_drew]); (repeat rw [heap_set_ne (by dsimp only; omega)]); (try simp only [heap_push, Array.getElem?_push, Array.size_push]); (repeat (first | rw [if_pos True.intro] | rw [if_neg (by omega)] | rw [if_pos (by omega)])); all_goals (first | with_reducible rfl | with_reducible exact G0.out | with_reducible exact G1.out | with_reducible exact G2.out | with_reducible exact G3.out | with_reducible exact G4.out | with_reducible exact GB.out)) _ _ _ _)) rfl ?_
  all_goals exact ⟨_, _, _, _, rfl, by repeat (first | with_reducible exact HBW.out | with_reducible refine Below.drew ?_ | (with_reducible refine Below.setCell ?_ ?_ _; (case refine_2 => (dsimp only; omega))) | (with_reducible refine Below.alloc ?_ ?_ _; (case refine_2 => (first | omega | (simp <;> omega))))), nameIs_fn (w0 := w) hn.out (by repeat (first | with_reducible exact HBW.out | with_reducible refine Below.drew ?_ | (with_reducible refine Below.setCell ?_ ?_ _; (case refine_2 => (dsimp only; omega))) | (with_reducible refine Below.alloc ?_ ?_ _; (case refine_2 => (first | omega | (simp <;> omega)))))) (by (try simp only [heap_drew]); (repeat rw [heap_set_ne (by dsimp only; omega)]); (try simp only [heap_push, Array.getElem?_push, Array.size_push]); (repeat (first | rw [if_pos True.intro] | rw [if_neg (by omega)] | rw [if_pos (by omega)])); all_goals (first | with_reducible rfl | with_reducible exact G0.out | with_reducible exact G1.out | with_reducible exact G2.out | with_reducible exact G3.out | with_reducible exact G4.out | with_reducible exact GB.out)), within_fn (by (try simp only [heap_drew]); (repeat rw [heap_set_ne (by dsimp only; omega)]); (try simp only [heap_push, Array.getElem?_push, Array.size_push]); (repeat (first | rw [if_pos True.intro] | rw [if_neg (by omega)] | rw [if_pos (by omega)])); all_goals (first | with_reducible rfl | with_reducible exact G0.out | with_reducible exact G1.out | with_reducible exact G2.out | with_reducible exact G3.out | with_reducible exact G4.out | with_reducible exact GB.out)) (by (try simp only [heap_drew]); (repeat rw [heap_set_ne (by dsimp only; omega)]); (try simp only [heap_push, Array.getElem?_push, Array.size_push]); (repeat (first | rw [if_pos True.intro] | rw [if_neg (by omega)] | rw [if_pos (by omega)])); all_goals (first | with_reducible rfl | with_reducible exact G0.out | with_reducible exact G1.out | with_reducible exact G2.out | with_reducible exact G3.out | with_reducible exact G4.out | with_reducible exact GB.out)), cons_fn (w0 := w) hn.out (by repeat (first | with_reducible exact HBW.out | with_reducible refine Below.drew ?_ | (with_reducible refine Below.setCell ?_ ?_ _; (case refine_2 => (dsimp only; omega))) | (with_reducible refine Below.alloc ?_ ?_ _; (case refine_2 => (first | omega | (simp <;> omega)))))) (by (try simp only [heap_drew]); (repeat rw [heap_set_ne (by dsimp only; omega)]); (try simp only [heap_push, Array.getElem?_push, Array.size_push]); (repeat (first | rw [if_pos True.intro] | rw [if_neg (by omega)] | rw [if_pos (by omega)])); all_goals (first | with_reducible rfl | with_reducible exact G0.out | with_reducible exact G1.out | with_reducible exact G2.out | with_reducible exact G3.out | with_reducible exact G4.out | with_reducible exact GB.out)) (by (try simp only [heap_drew]); (repeat rw [heap_set_ne (by dsimp only; omega)]); (try simp only [heap_push, Array.getElem?_push, Array.size_push]); (repeat (first | rw [if_pos True.intro] | rw [if_neg (by omega)] | rw [if_pos (by omega)])); all_goals (first | with_reducible rfl | with_reducible exact G0.out | with_reducible exact G1.out | with_reducible exact G2.out | with_reducible exact G3.out | with_reducible exact G4.out | with_reducible exact GB.out)) (by (try simp only [heap_drew]); (repeat rw [heap_set_ne (by dsimp only; omega)]); (try simp only [heap_push, Array.getElem?_push, Array.size_push]); (repeat (first | rw [if_pos True.intro] | rw [if_neg (by omega)] | rw [if_pos (by omega)])); all_goals (first | with_reducible rfl | with_reducible exact G0.out | with_reducible exact G1.out | with_reducible exact G2.out | with_reducible exact G3.out | with_reducible exact G4.out | with_reducible exact GB.out)), kids_fn (by (try simp only [heap_drew]); (repeat rw [heap_set_ne (by dsimp only; omega)]); (try simp only [heap_push, Array.getElem?_push, Array.size_push]); (repeat (first | rw [if_pos True.intro] | rw [if_neg (by omega)] | rw [if_pos (by omega)])); all_goals (first | with_reducible rfl | with_reducible exact G0.out | with_reducible exact G1.out | with_reducible exact G2.out | with_reducible exact G3.out | with_reducible exact G4.out | with_reducible exact GB.out)) (by (try simp only [heap_drew]); (repeat rw [heap_set_ne (by dsimp only; omega)]); (try simp only [heap_push, Array.getElem?_push, Array.size_push]); (repeat (first | rw [if_pos True.intro] | rw [if_neg (by omega)] | rw [if_pos (by omega)])); all_goals (first | with_reducible rfl | with_reducible exact G0.out | with_reducible exact G1.out | with_reducible exact G2.out | with_reducible exact G3.out | with_reducible exact G4.out | with_reducible exact GB.out))⟩
end Go.Proofs.YtbpbnebcbjacdaaGreat
