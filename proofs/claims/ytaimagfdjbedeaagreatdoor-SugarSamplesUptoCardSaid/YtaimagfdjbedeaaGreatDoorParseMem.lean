/-
  What is new in a world: the blocks from a number on. Trees there; what keeps all but a block.
-/
import Derived.Test.YtaimagfdjbedeaaGreatDoorTreeMade
import Derived.Test.YtaimagfdjbedeaaGreatDoorOwnStr
import Derived.Test.YtaimagfdjbedeaaGreatDoorParseSpec
namespace Go.Proofs.YtaimagfdjbedeaaGreatDoor
open Go.RowKit

/-- a world's blocks from a number on: those below are empty -/
def newW (B : Nat) (w : World) : World := { w with heap := w.heap.mapIdx fun i o => if i < B then .cells #[] 0 (0, 0) else o }
theorem new_get {w : World} {B b : Nat} (h : B ≤ b) : (newW B w).heap[b]? = w.heap[b]? := by
  unfold newW
  rw [Array.getElem?_mapIdx]
  cases w.heap[b]? with
  | none => rfl
  | some o => simp; omega
theorem new_low {w : World} {B b : Nat} (h : b < B) (o : Obj) (ho : (newW B w).heap[b]? = some o) : o = .cells #[] 0 (0, 0) := by
  unfold newW at ho
  rw [Array.getElem?_mapIdx] at ho
  cases hw : w.heap[b]? with
  | none => rw [hw] at ho; cases ho
  | some q => rw [hw] at ho; simp [h] at ho; exact ho.symm
theorem new_cell {w : World} {B : Nat} {a : Addr} {v : Value} (h : (newW B w).cell? a = some v) : B ≤ a.block ∧ w.cell? a = some v := by
  by_cases hb : B ≤ a.block
  · refine ⟨hb, ?_⟩
    rw [World.cell?_of_block (new_get hb)] at h
    exact h
  · exfalso
    cases ho : (newW B w).heap[a.block]? with
    | none => simp [World.cell?, ho] at h
    | some o =>
      have := new_low (by omega) o ho
      subst this
      simp [World.cell?, ho] at h
theorem new_mk {w : World} {B : Nat} {a : Addr} (h : B ≤ a.block) : (newW B w).cell? a = w.cell? a := World.cell?_of_block (new_get h)
/-- every cell of the one is a cell of the other -/
def Sub (w w' : World) : Prop := ∀ a v, w.cell? a = some v → w'.cell? a = some v
theorem Sub.trans {a b c : World} (h : Sub a b) (g : Sub b c) : Sub a c := fun x v hx => g x v (h x v hx)
theorem Sub.refl (a : World) : Sub a a := fun _ _ h => h
theorem new_sub (B : Nat) (w : World) : Sub (newW B w) w := fun _ _ h => (new_cell h).2
theorem new_mono {B B' : Nat} (h : B' ≤ B) (w : World) : Sub (newW B w) (newW B' w) := fun a v hv => by
  obtain ⟨h1, h2⟩ := new_cell hv
  rw [new_mk (by omega)]; exact h2
/-- the blocks from B on stay as they are -/
def Same (B : Nat) (w w' : World) : Prop := w.heap.size ≤ w'.heap.size ∧ ∀ k, B ≤ k → k < w.heap.size → w'.heap[k]? = w.heap[k]?
theorem Same.refl (B : Nat) (w : World) : Same B w w := ⟨Nat.le_refl _, fun _ _ _ => rfl⟩
theorem Same.trans {B : Nat} {a b c : World} (h : Same B a b) (g : Same B b c) : Same B a c := ⟨Nat.le_trans h.1 g.1, fun k h1 h2 => (g.2 k h1 (Nat.lt_of_lt_of_le h2 h.1)).trans (h.2 k h1 h2)⟩
theorem Same.alloc {B : Nat} {w w' : World} (h : Same B w w') (o : Obj) : Same B w (w'.alloc o) := ⟨Nat.le_trans h.1 (by simp), fun k h1 h2 => (Below.heap_alloc _ _ _ (Nat.lt_of_lt_of_le h2 h.1)).trans (h.2 k h1 h2)⟩
theorem Same.drew {B : Nat} {w w' : World} (h : Same B w w') : Same B w w'.drew := h
theorem Same.set {B : Nat} {w w' : World} (h : Same B w w') {a : Addr} (ha : a.block < B ∨ w.heap.size ≤ a.block) (u : Value) : Same B w (w'.setCell a u) := by
  refine ⟨?_, fun k h1 h2 => ?_⟩
  · exact Nat.le_trans h.1 ((Below.refl 0 w').setCell (p := a) (Nat.zero_le _) u).size
  · rw [Below.heap_setCell _ _ _ _ (by omega)]
    exact h.2 k h1 h2
theorem Same.below {B : Nat} {w w' : World} (h : Below w.heap.size w w') : Same B w w' := ⟨h.size, fun k _ h2 => h.block k h2⟩
theorem Same.sub {B : Nat} {w w' : World} (h : Same B w w') : Sub (newW B w) (newW B w') := fun a v hv => by
  obtain ⟨h1, h2⟩ := new_cell hv
  rw [new_mk h1, World.cell?_of_block (h.2 _ h1 (World.block_lt_of_cell? w _ h2))]
  exact h2
theorem CellsAt.sub {w w' : World} {a : Addr} {L : List Value} (h : CellsAt w a L) (hs : Sub w w') : CellsAt w' a L := fun j u hu => hs _ _ (h j u hu)
theorem ElemAt.sub {w w' : World} {A : Option Addr} {k : Nat} {L : List Value} (h : ElemAt w A k L) (hs : Sub w w') : ElemAt w' A k L := by
  obtain ⟨a, e, h⟩ := h
  exact ⟨a, e, h.sub hs⟩
theorem SliceAt.sub {X : Type} {w w' : World} {R R' : List Value → X → Prop} {v : Value} {l : List X} (h : SliceAt w R v l) (hs : Sub w w') (hR : ∀ L x, R L x → R' L x) : SliceAt w' R' v l := by
  obtain ⟨A, c, rfl, h1, h2, h3⟩ := h
  refine ⟨A, c, rfl, h1, h2, fun i x hx => ?_⟩
  obtain ⟨L, h4, h5⟩ := h3 i x hx
  exact ⟨L, h4.sub hs, hR L x h5⟩
theorem StrsAt.sub {w w' : World} {v : Value} {l : List Tx} (h : StrsAt w v l) (hs : Sub w w') : StrsAt w' v l := SliceAt.sub h hs fun _ _ h => h
theorem ExAt.sub {w w' : World} {L : List Value} {x : Ex} (h : ExAt w L x) (hs : Sub w w') : ExAt w' L x := by
  induction h with
  | mk hop hnm hn hcs hl hc hk hx ih => exact .mk hop hnm hn (hcs.sub hs) hl hc (fun i k h => (hk i k h).sub hs) (fun i k h => ih i k h)
theorem EqAt.sub {w w' : World} {L : List Value} {q : QEq} (h : EqAt w L q) (hs : Sub w w') : EqAt w' L q := by
  obtain ⟨nv, L', rfl, h1, h2⟩ := h; exact ⟨nv, L', rfl, h1.sub hs, h2.sub hs⟩
theorem WayAt.sub {w w' : World} {L : List Value} {y : QWay} (h : WayAt w L y) (hs : Sub w w') : WayAt w' L y := by
  obtain ⟨L', rfl, h1, h2⟩ := h; exact ⟨L', rfl, h1.sub hs, h2⟩
theorem StateAt.sub {w w' : World} {L : List Value} {s : QState} (h : StateAt w L s) (hs : Sub w w') : StateAt w' L s := by
  obtain ⟨ev, wv, rfl, h0, h1, h2⟩ := h; exact ⟨ev, wv, rfl, h0, h1.sub hs fun _ _ h => h.sub hs, h2.sub hs fun _ _ h => h.sub hs⟩
theorem ItemAt.sub {w w' : World} {L : List Value} {i : QItem} (h : ItemAt w L i) (hs : Sub w w') : ItemAt w' L i := by
  obtain ⟨L', sv, rfl, h1, h2⟩ := h; exact ⟨L', sv, rfl, h1.sub hs, h2.sub hs fun _ _ h => h.sub hs⟩
theorem EnumAt.sub {w w' : World} {L : List Value} {e : QEnum} (h : EnumAt w L e) (hs : Sub w w') : EnumAt w' L e := by
  obtain ⟨cv, rfl, h0, h1⟩ := h; exact ⟨cv, rfl, h0, h1.sub hs⟩
theorem NodeAt.sub {w w' : World} {L : List Value} {n : QNode} (h : NodeAt w L n) (hs : Sub w w') : NodeAt w' L n := by
  obtain ⟨fv, iv, ov, xv, rfl, h0, h1, h2, h3, h4⟩ := h; exact ⟨fv, iv, ov, xv, rfl, h0, h1.sub hs, h2.sub hs, h3.sub hs, h4.sub hs fun _ _ h => h.sub hs⟩
theorem ProgAt.sub {w w' : World} {L : List Value} {p : QProg} (h : ProgAt w L p) (hs : Sub w w') : ProgAt w' L p := by
  obtain ⟨ev, nv, rfl, h1, h2⟩ := h; exact ⟨ev, nv, rfl, h1.sub hs fun _ _ h => h.sub hs, h2.sub hs fun _ _ h => h.sub hs⟩
/-- w' is w but for the block N -/
structure KeptN (N : Nat) (w w' : World) : Prop where
  os : w'.os = w.os
  tape : w'.tape = w.tape
  output : w'.output = w.output
  size : w.heap.size ≤ w'.heap.size
  block : ∀ k, k < w.heap.size → k ≠ N → w'.heap[k]? = w.heap[k]?
section
variable {N : Nat} {w w' : World}
theorem KeptN.refl (N : Nat) (w : World) : KeptN N w w := ⟨rfl, rfl, rfl, Nat.le_refl _, fun _ _ _ => rfl⟩
theorem KeptN.trans {a b c : World} (h : KeptN N a b) (g : KeptN N b c) : KeptN N a c :=
  ⟨g.os.trans h.os, g.tape.trans h.tape, g.output.trans h.output, Nat.le_trans h.size g.size, fun k hk hm => (g.block k (Nat.lt_of_lt_of_le hk h.size) hm).trans (h.block k hk hm)⟩
theorem KeptN.of_below (h : Below w.heap.size w w') : KeptN N w w' := ⟨h.os, h.tape, h.output, h.size, fun k hk _ => h.block k hk⟩
theorem KeptN.cell (h : KeptN N w w') {a : Addr} (ha : a.block < w.heap.size) (hm : a.block ≠ N) : w'.cell? a = w.cell? a := World.cell?_of_block (h.block _ ha hm)
theorem KeptN.cells {g : Nat} {o : Obj} (h : KeptN N w w') (hg : w.heap[g]? = some o) (hm : g ≠ N) : w'.heap[g]? = some o := (h.block g (lt_of_heap hg) hm).trans hg
theorem KeptN.setCell (h : KeptN N w w') {a : Addr} (ha : a.block = N) (u : Value) : KeptN N w (w'.setCell a u) := by
  refine ⟨h.os, h.tape, h.output, ?_, fun k hk hm => ?_⟩
  · have := ((Below.refl 0 w').setCell (p := a) (Nat.zero_le _) u).size
    exact Nat.le_trans h.size this
  · rw [Below.heap_setCell _ _ _ _ (fun e => hm (by rw [e]; exact ha))]
    exact h.block k hk hm
theorem KeptN.setNew (h : KeptN N w w') {a : Addr} (ha : w.heap.size ≤ a.block) (u : Value) : KeptN N w (w'.setCell a u) := by
  refine ⟨h.os, h.tape, h.output, ?_, fun k hk hm => ?_⟩
  · have := ((Below.refl 0 w').setCell (p := a) (Nat.zero_le _) u).size
    exact Nat.le_trans h.size this
  · rw [Below.heap_setCell _ _ _ _ (by omega)]
    exact h.block k hk hm
theorem KeptN.drew (h : KeptN N w w') : KeptN N w w'.drew := ⟨h.os, h.tape, h.output, h.size, h.block⟩
theorem KeptN.alloc (h : KeptN N w w') (o : Obj) : KeptN N w (w'.alloc o) := h.trans (KeptN.of_below ((Below.refl _ _).alloc (Nat.le_refl _) o))
end
theorem KeptN.same {N B : Nat} {w w' : World} (h : KeptN N w w') (hN : N < B) : Same B w w' := ⟨h.size, fun k h1 h2 => h.block k h2 (by omega)⟩
theorem OwnS.keptN {B N : Nat} {w w' : World} {v : Value} {l : List Tx} (h : OwnS B w v l) (hk : KeptN N w w') (hN : N < B) : OwnS B w' v l := by
  refine ⟨?_, h.2⟩
  obtain ⟨h1, h2⟩ := h.1
  refine ⟨h1, ?_⟩
  rcases h2 with h2 | ⟨g, cap, cur, rfl, hg, hh, hr⟩
  · exact .inl h2
  · exact .inr ⟨g, cap, cur, rfl, hg, (hk.block g (lt_of_heap hh) (by omega)).trans hh, hr⟩
end Go.Proofs.YtaimagfdjbedeaaGreatDoor
