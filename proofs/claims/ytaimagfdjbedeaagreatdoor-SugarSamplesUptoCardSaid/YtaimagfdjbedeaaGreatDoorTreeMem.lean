/-
  Trees in memory: what cells an expression, an equation, a program lie in; kept over growth.
-/
import Derived.Test.YtaimagfdjbedeaaGreatDoorTreeSpec
import Derived.Test.YtaimagfdjbedeaaGreatDoorChecked
import Derived.WalkKit
import Derived.Below
import Derived.Lib.Hide
import Derived.Deep.LoopGhost
import Derived.OwnWalk
import Derived.Deep.QuietTactic
import Derived.BigQuiet
import Derived.Deep.RegionHeld3
import Derived.BigGuardPart
namespace Go.Proofs.YtaimagfdjbedeaaGreatDoor
open Go.RowKit

theorem add_add (a : Addr) (i j : Nat) : (a.add i).add j = a.add (i + j) := by
  unfold Addr.add
  by_cases hi : i = 0 <;> by_cases hj : j = 0 <;> simp [hi, hj, Nat.add_assoc]
theorem add_block (a : Addr) (i : Nat) : (a.add i).block = a.block := by unfold Addr.add; split <;> rfl
theorem add_zero (a : Addr) : a.add 0 = a := by simp [Addr.add]
theorem add_field (a : Addr) (i f : Nat) (hf : 0 < f) : (a.add i).add f = { block := (a.add i).block, off := (a.add i).off + f } := by
  unfold Addr.add
  by_cases hi : i = 0 <;> simp [hi, Nat.pos_iff_ne_zero.1 hf]

/-- the cells L stand from the address a on -/
def CellsAt (w : World) (a : Addr) (L : List Value) : Prop := ∀ (j : Nat) u, L[j]? = some u → w.cell? (a.add j) = some u
theorem CellsAt.below {w w' : World} {B : Nat} {a : Addr} {L : List Value} (h : CellsAt w a L) (hb : Below B w w') (ha : a.block < B) : CellsAt w' a L :=
  fun j u hu => (hb.cell (p := a.add j) (by rw [add_block]; exact ha)).trans (h j u hu)
theorem CellsAt.lt {w : World} {a : Addr} {L : List Value} (h : CellsAt w a L) (hL : 0 < L.length) : a.block < w.heap.size := by
  have := World.block_lt_of_cell? w _ (h 0 _ (List.getElem?_eq_getElem hL))
  rwa [add_block] at this
theorem CellsAt.under {w w' : World} {a : Addr} {L : List Value} (h : CellsAt w a L) (hb : Below w.heap.size w w') : CellsAt w' a L := by
  rcases Nat.eq_zero_or_pos L.length with h0 | h0
  · intro j u hu
    rw [List.eq_nil_of_length_eq_zero h0] at hu
    cases hu
  · exact h.below hb (h.lt h0)

/-- the element k of a slice at A, each of as many cells as C k has: its cells -/
def ElemAt (w : World) (A : Option Addr) (k : Nat) (L : List Value) : Prop := ∃ a, A = some a ∧ CellsAt w (a.add (k * L.length)) L
theorem ElemAt.under {w w' : World} {A : Option Addr} {k : Nat} {L : List Value} (h : ElemAt w A k L) (hb : Below w.heap.size w w') : ElemAt w' A k L := by
  obtain ⟨a, e, h⟩ := h
  exact ⟨a, e, h.under hb⟩

/-- a slice of elements, each as R says of its cells -/
def SliceAt {X : Type} (w : World) (R : List Value → X → Prop) (v : Value) (l : List X) : Prop :=
  ∃ A c, v = .slice A l.length c ∧ l.length ≤ c ∧ c ≤ maxLen ∧ ∀ (i : Nat) x, l[i]? = some x → ∃ L, ElemAt w A i L ∧ R L x
theorem SliceAt.mono {X : Type} {w w' : World} {R R' : List Value → X → Prop} {v : Value} {l : List X} (h : SliceAt w R v l) (hb : Below w.heap.size w w') (hR : ∀ L x, R L x → R' L x) : SliceAt w' R' v l := by
  obtain ⟨A, c, rfl, h1, h2, h3⟩ := h
  refine ⟨A, c, rfl, h1, h2, fun i x hx => ?_⟩
  obtain ⟨L, h4, h5⟩ := h3 i x hx
  exact ⟨L, h4.under hb, hR L x h5⟩
/-- a string's cell -/
def StrCell (L : List Value) (x : Tx) : Prop := L = [.string (str x)] ∧ x.length ≤ maxLen
abbrev StrsAt (w : World) (v : Value) (l : List Tx) : Prop := SliceAt w StrCell v l
theorem StrsAt.under {w w' : World} {v : Value} {l : List Tx} (h : StrsAt w v l) (hb : Below w.heap.size w w') : StrsAt w' v l := SliceAt.mono h hb fun _ _ h => h
def i64B (n : Int) : Prop := -9223372036854775808 ≤ n ∧ n ≤ 9223372036854775807
/-- an expression's cells -/
inductive ExAt (w : World) : List Value → Ex → Prop
  | mk {op : Int} {nm : Tx} {n : Int} {cs : List Tx} {ks : List Ex} {cv : Value} {A : Option Addr} {c : Nat} {C : Nat → List Value}
    (hop : i64B op) (hnm : nm.length ≤ maxLen) (hn : i64B n) (hcs : StrsAt w cv cs) (hl : ks.length ≤ c) (hc : c ≤ maxLen)
    (hk : ∀ (i : Nat) k, ks[i]? = some k → ElemAt w A i (C i)) (hx : ∀ (i : Nat) k, ks[i]? = some k → ExAt w (C i) k) :
    ExAt w [.int .i64 op, .string (str nm), .int .i64 n, cv, .slice A ks.length c] (.mk op nm n cs ks)
theorem ExAt.under {w w' : World} {L : List Value} {x : Ex} (h : ExAt w L x) (hb : Below w.heap.size w w') : ExAt w' L x := by
  induction h with
  | mk hop hnm hn hcs hl hc hk hx ih => exact .mk hop hnm hn (hcs.under hb) hl hc (fun i k h => (hk i k h).under hb) (fun i k h => ih i k h)
theorem ExAt.len {w : World} {L : List Value} {x : Ex} (h : ExAt w L x) : L.length = 5 := by cases h; rfl
theorem ExAt.five {w : World} {L : List Value} {x : Ex} (h : ExAt w L x) : ∃ c0 c1 c2 c3 c4, L = [c0, c1, c2, c3, c4] := by
  cases h; exact ⟨_, _, _, _, _, rfl⟩
theorem ExAt.shape {w : World} {L : List Value} {x : Ex} (h : ExAt w L x) : ∃ o s n A1 n1 k1 A2 n2 k2, L = [.int .i64 o, .string s, .int .i64 n, .slice A1 n1 k1, .slice A2 n2 k2] := by
  cases h with
  | mk hop hnm hn hcs hl hc hk hx =>
    obtain ⟨A1, c1, rfl, _⟩ := hcs
    exact ⟨_, _, _, _, _, _, _, _, _, rfl⟩
/- the cells of element k, as the walk spells their places -/
theorem elem1 {w : World} {A : Option Addr} {k : Nat} {c0 : Value} (h : ElemAt w A k [c0]) :
    ∃ a, A = some a ∧ a.block < w.heap.size ∧ (a.add (k * 1)).block < w.heap.size ∧ w.cell? (a.add (k * 1)) = some c0 := by
  obtain ⟨a, rfl, h⟩ := h
  have h : CellsAt w (a.add (k * 1)) [c0] := h
  have h0 := h 0 _ rfl
  rw [add_zero] at h0
  refine ⟨a, rfl, ?_, h.lt (by simp), h0⟩
  · have := h.lt (by simp); rwa [add_block] at this
theorem elem2 {w : World} {A : Option Addr} {k : Nat} {c0 c1 : Value} (h : ElemAt w A k [c0, c1]) :
    ∃ a, A = some a ∧ a.block < w.heap.size ∧ (a.add (k * 2)).block < w.heap.size ∧ w.cell? (a.add (k * 2)) = some c0 ∧ w.cell? { block := (a.add (k * 2)).block, off := (a.add (k * 2)).off + 1 } = some c1 := by
  obtain ⟨a, rfl, h⟩ := h
  have h : CellsAt w (a.add (k * 2)) [c0, c1] := h
  have h0 := h 0 _ rfl
  rw [add_zero] at h0
  refine ⟨a, rfl, ?_, h.lt (by simp), h0, ?_⟩
  · have := h.lt (by simp); rwa [add_block] at this
  · rw [← add_field _ _ _ (by omega)]; exact h 1 _ rfl
theorem elem3 {w : World} {A : Option Addr} {k : Nat} {c0 c1 c2 : Value} (h : ElemAt w A k [c0, c1, c2]) :
    ∃ a, A = some a ∧ a.block < w.heap.size ∧ (a.add (k * 3)).block < w.heap.size ∧ w.cell? (a.add (k * 3)) = some c0 ∧ w.cell? { block := (a.add (k * 3)).block, off := (a.add (k * 3)).off + 1 } = some c1 ∧ w.cell? { block := (a.add (k * 3)).block, off := (a.add (k * 3)).off + 2 } = some c2 := by
  obtain ⟨a, rfl, h⟩ := h
  have h : CellsAt w (a.add (k * 3)) [c0, c1, c2] := h
  have h0 := h 0 _ rfl
  rw [add_zero] at h0
  refine ⟨a, rfl, ?_, h.lt (by simp), h0, ?_, ?_⟩
  · have := h.lt (by simp); rwa [add_block] at this
  · rw [← add_field _ _ _ (by omega)]; exact h 1 _ rfl
  · rw [← add_field _ _ _ (by omega)]; exact h 2 _ rfl
theorem elem5 {w : World} {A : Option Addr} {k : Nat} {c0 c1 c2 c3 c4 : Value} (h : ElemAt w A k [c0, c1, c2, c3, c4]) :
    ∃ a, A = some a ∧ a.block < w.heap.size ∧ (a.add (k * 5)).block < w.heap.size ∧ w.cell? (a.add (k * 5)) = some c0 ∧ w.cell? { block := (a.add (k * 5)).block, off := (a.add (k * 5)).off + 1 } = some c1 ∧ w.cell? { block := (a.add (k * 5)).block, off := (a.add (k * 5)).off + 2 } = some c2 ∧ w.cell? { block := (a.add (k * 5)).block, off := (a.add (k * 5)).off + 3 } = some c3 ∧ w.cell? { block := (a.add (k * 5)).block, off := (a.add (k * 5)).off + 4 } = some c4 := by
  obtain ⟨a, rfl, h⟩ := h
  have h : CellsAt w (a.add (k * 5)) [c0, c1, c2, c3, c4] := h
  have h0 := h 0 _ rfl
  rw [add_zero] at h0
  refine ⟨a, rfl, ?_, h.lt (by simp), h0, ?_, ?_, ?_, ?_⟩
  · have := h.lt (by simp); rwa [add_block] at this
  · rw [← add_field _ _ _ (by omega)]; exact h 1 _ rfl
  · rw [← add_field _ _ _ (by omega)]; exact h 2 _ rfl
  · rw [← add_field _ _ _ (by omega)]; exact h 3 _ rfl
  · rw [← add_field _ _ _ (by omega)]; exact h 4 _ rfl
theorem elem6 {w : World} {A : Option Addr} {k : Nat} {c0 c1 c2 c3 c4 c5 : Value} (h : ElemAt w A k [c0, c1, c2, c3, c4, c5]) :
    ∃ a, A = some a ∧ a.block < w.heap.size ∧ (a.add (k * 6)).block < w.heap.size ∧ w.cell? (a.add (k * 6)) = some c0 ∧ w.cell? { block := (a.add (k * 6)).block, off := (a.add (k * 6)).off + 1 } = some c1 ∧ w.cell? { block := (a.add (k * 6)).block, off := (a.add (k * 6)).off + 2 } = some c2 ∧ w.cell? { block := (a.add (k * 6)).block, off := (a.add (k * 6)).off + 3 } = some c3 ∧ w.cell? { block := (a.add (k * 6)).block, off := (a.add (k * 6)).off + 4 } = some c4 ∧ w.cell? { block := (a.add (k * 6)).block, off := (a.add (k * 6)).off + 5 } = some c5 := by
  obtain ⟨a, rfl, h⟩ := h
  have h : CellsAt w (a.add (k * 6)) [c0, c1, c2, c3, c4, c5] := h
  have h0 := h 0 _ rfl
  rw [add_zero] at h0
  refine ⟨a, rfl, ?_, h.lt (by simp), h0, ?_, ?_, ?_, ?_, ?_⟩
  · have := h.lt (by simp); rwa [add_block] at this
  · rw [← add_field _ _ _ (by omega)]; exact h 1 _ rfl
  · rw [← add_field _ _ _ (by omega)]; exact h 2 _ rfl
  · rw [← add_field _ _ _ (by omega)]; exact h 3 _ rfl
  · rw [← add_field _ _ _ (by omega)]; exact h 4 _ rfl
  · rw [← add_field _ _ _ (by omega)]; exact h 5 _ rfl
theorem elem7 {w : World} {A : Option Addr} {k : Nat} {c0 c1 c2 c3 c4 c5 c6 : Value} (h : ElemAt w A k [c0, c1, c2, c3, c4, c5, c6]) :
    ∃ a, A = some a ∧ a.block < w.heap.size ∧ (a.add (k * 7)).block < w.heap.size ∧ w.cell? (a.add (k * 7)) = some c0 ∧ w.cell? { block := (a.add (k * 7)).block, off := (a.add (k * 7)).off + 1 } = some c1 ∧ w.cell? { block := (a.add (k * 7)).block, off := (a.add (k * 7)).off + 2 } = some c2 ∧ w.cell? { block := (a.add (k * 7)).block, off := (a.add (k * 7)).off + 3 } = some c3 ∧ w.cell? { block := (a.add (k * 7)).block, off := (a.add (k * 7)).off + 4 } = some c4 ∧ w.cell? { block := (a.add (k * 7)).block, off := (a.add (k * 7)).off + 5 } = some c5 ∧ w.cell? { block := (a.add (k * 7)).block, off := (a.add (k * 7)).off + 6 } = some c6 := by
  obtain ⟨a, rfl, h⟩ := h
  have h : CellsAt w (a.add (k * 7)) [c0, c1, c2, c3, c4, c5, c6] := h
  have h0 := h 0 _ rfl
  rw [add_zero] at h0
  refine ⟨a, rfl, ?_, h.lt (by simp), h0, ?_, ?_, ?_, ?_, ?_, ?_⟩
  · have := h.lt (by simp); rwa [add_block] at this
  · rw [← add_field _ _ _ (by omega)]; exact h 1 _ rfl
  · rw [← add_field _ _ _ (by omega)]; exact h 2 _ rfl
  · rw [← add_field _ _ _ (by omega)]; exact h 3 _ rfl
  · rw [← add_field _ _ _ (by omega)]; exact h 4 _ rfl
  · rw [← add_field _ _ _ (by omega)]; exact h 5 _ rfl
  · rw [← add_field _ _ _ (by omega)]; exact h 6 _ rfl

/-- an equation's cells; a transition's, a state's, an item's, an enum's, a node's, a program's -/
def EqAt (w : World) (L : List Value) (q : QEq) : Prop := ∃ nv L', L = nv :: L' ∧ StrsAt w nv q.names ∧ ExAt w L' q.e
def WayAt (w : World) (L : List Value) (y : QWay) : Prop := ∃ L', L = L' ++ [.string (str y.to)] ∧ ExAt w L' y.cond ∧ y.to.length ≤ maxLen
def StateAt (w : World) (L : List Value) (s : QState) : Prop := ∃ ev wv, L = [.string (str s.name), ev, wv] ∧ s.name.length ≤ maxLen ∧ SliceAt w (EqAt w) ev s.eqs ∧ SliceAt w (WayAt w) wv s.ways
def ItemAt (w : World) (L : List Value) (i : QItem) : Prop := ∃ L' sv, L = L' ++ [sv] ∧ EqAt w L' i.eq ∧ SliceAt w (StateAt w) sv i.states
def EnumAt (w : World) (L : List Value) (e : QEnum) : Prop := ∃ cv, L = [.string (str e.name), cv] ∧ e.name.length ≤ maxLen ∧ StrsAt w cv e.cons
def NodeAt (w : World) (L : List Value) (n : QNode) : Prop := ∃ fv iv ov xv, L = [.string (str n.name), fv, iv, ov, xv] ∧ n.name.length ≤ maxLen ∧ StrsAt w fv n.funs ∧ StrsAt w iv n.ins ∧ StrsAt w ov n.outs ∧ SliceAt w (ItemAt w) xv n.items
def ProgAt (w : World) (L : List Value) (p : QProg) : Prop := ∃ ev nv, L = [ev, nv] ∧ SliceAt w (EnumAt w) ev p.enums ∧ SliceAt w (NodeAt w) nv p.nodes
section
variable {w w' : World} {L : List Value}
theorem EqAt.under {q : QEq} (h : EqAt w L q) (hb : Below w.heap.size w w') : EqAt w' L q := by
  obtain ⟨nv, L', rfl, h1, h2⟩ := h; exact ⟨nv, L', rfl, h1.under hb, h2.under hb⟩
theorem WayAt.under {y : QWay} (h : WayAt w L y) (hb : Below w.heap.size w w') : WayAt w' L y := by
  obtain ⟨L', rfl, h1, h2⟩ := h; exact ⟨L', rfl, h1.under hb, h2⟩
theorem StateAt.under {s : QState} (h : StateAt w L s) (hb : Below w.heap.size w w') : StateAt w' L s := by
  obtain ⟨ev, wv, rfl, h0, h1, h2⟩ := h; exact ⟨ev, wv, rfl, h0, h1.mono hb fun _ _ h => h.under hb, h2.mono hb fun _ _ h => h.under hb⟩
theorem ItemAt.under {i : QItem} (h : ItemAt w L i) (hb : Below w.heap.size w w') : ItemAt w' L i := by
  obtain ⟨L', sv, rfl, h1, h2⟩ := h; exact ⟨L', sv, rfl, h1.under hb, h2.mono hb fun _ _ h => h.under hb⟩
theorem EnumAt.under {e : QEnum} (h : EnumAt w L e) (hb : Below w.heap.size w w') : EnumAt w' L e := by
  obtain ⟨cv, rfl, h0, h1⟩ := h; exact ⟨cv, rfl, h0, h1.under hb⟩
theorem NodeAt.under {n : QNode} (h : NodeAt w L n) (hb : Below w.heap.size w w') : NodeAt w' L n := by
  obtain ⟨fv, iv, ov, xv, rfl, h0, h1, h2, h3, h4⟩ := h; exact ⟨fv, iv, ov, xv, rfl, h0, h1.under hb, h2.under hb, h3.under hb, h4.mono hb fun _ _ h => h.under hb⟩
theorem ProgAt.under {p : QProg} (h : ProgAt w L p) (hb : Below w.heap.size w w') : ProgAt w' L p := by
  obtain ⟨ev, nv, rfl, h1, h2⟩ := h; exact ⟨ev, nv, rfl, h1.mono hb fun _ _ h => h.under hb, h2.mono hb fun _ _ h => h.under hb⟩
theorem SliceAt.shape {X : Type} {R : List Value → X → Prop} {v : Value} {l : List X} (h : SliceAt w R v l) : ∃ A n k, v = .slice A n k := by
  obtain ⟨A, c, rfl, _⟩ := h; exact ⟨A, _, c, rfl⟩
theorem EqAt.shape {q : QEq} (h : EqAt w L q) : ∃ A0 n0 k0 o1 s2 o3 A4 n4 k4 A5 n5 k5, L = [.slice A0 n0 k0, .int .i64 o1, .string s2, .int .i64 o3, .slice A4 n4 k4, .slice A5 n5 k5] := by
  obtain ⟨nv, L', rfl, h1, h2⟩ := h
  obtain ⟨_, _, _, rfl⟩ := SliceAt.shape h1
  obtain ⟨_, _, _, _, _, _, _, _, _, rfl⟩ := h2.shape
  exact ⟨_, _, _, _, _, _, _, _, _, _, _, _, rfl⟩
theorem WayAt.shape {y : QWay} (h : WayAt w L y) : ∃ o0 s1 o2 A3 n3 k3 A4 n4 k4 s5, L = [.int .i64 o0, .string s1, .int .i64 o2, .slice A3 n3 k3, .slice A4 n4 k4, .string s5] := by
  obtain ⟨L', rfl, h2, h1⟩ := h
  obtain ⟨_, _, _, _, _, _, _, _, _, rfl⟩ := h2.shape
  exact ⟨_, _, _, _, _, _, _, _, _, _, rfl⟩
theorem StateAt.shape {s : QState} (h : StateAt w L s) : ∃ s0 A1 n1 k1 A2 n2 k2, L = [.string s0, .slice A1 n1 k1, .slice A2 n2 k2] := by
  obtain ⟨ev, wv, rfl, _, h1, h2⟩ := h
  obtain ⟨_, _, _, rfl⟩ := SliceAt.shape h1
  obtain ⟨_, _, _, rfl⟩ := SliceAt.shape h2
  exact ⟨_, _, _, _, _, _, _, rfl⟩
theorem ItemAt.shape {i : QItem} (h : ItemAt w L i) : ∃ A0 n0 k0 o1 s2 o3 A4 n4 k4 A5 n5 k5 A6 n6 k6, L = [.slice A0 n0 k0, .int .i64 o1, .string s2, .int .i64 o3, .slice A4 n4 k4, .slice A5 n5 k5, .slice A6 n6 k6] := by
  obtain ⟨L', sv, rfl, h1, h2⟩ := h
  obtain ⟨_, _, _, _, _, _, _, _, _, _, _, _, rfl⟩ := h1.shape
  obtain ⟨_, _, _, rfl⟩ := SliceAt.shape h2
  exact ⟨_, _, _, _, _, _, _, _, _, _, _, _, _, _, _, rfl⟩
theorem EnumAt.shape {e : QEnum} (h : EnumAt w L e) : ∃ s0 A1 n1 k1, L = [.string s0, .slice A1 n1 k1] := by
  obtain ⟨cv, rfl, _, h1⟩ := h
  obtain ⟨_, _, _, rfl⟩ := SliceAt.shape h1
  exact ⟨_, _, _, _, rfl⟩
theorem NodeAt.shape {n : QNode} (h : NodeAt w L n) : ∃ s0 A1 n1 k1 A2 n2 k2 A3 n3 k3 A4 n4 k4, L = [.string s0, .slice A1 n1 k1, .slice A2 n2 k2, .slice A3 n3 k3, .slice A4 n4 k4] := by
  obtain ⟨fv, iv, ov, xv, rfl, _, h1, h2, h3, h4⟩ := h
  obtain ⟨_, _, _, rfl⟩ := SliceAt.shape h1
  obtain ⟨_, _, _, rfl⟩ := SliceAt.shape h2
  obtain ⟨_, _, _, rfl⟩ := SliceAt.shape h3
  obtain ⟨_, _, _, rfl⟩ := SliceAt.shape h4
  exact ⟨_, _, _, _, _, _, _, _, _, _, _, _, _, rfl⟩
/-- an expression's parts -/
theorem ExAt.open_ {op : Int} {nm : Tx} {n : Int} {cs : List Tx} {ks : List Ex} (h : ExAt w L (.mk op nm n cs ks)) :
    ∃ cv kv, L = [.int .i64 op, .string (str nm), .int .i64 n, cv, kv] ∧ i64B op ∧ nm.length ≤ maxLen ∧ i64B n ∧ StrsAt w cv cs ∧ SliceAt w (ExAt w) kv ks := by
  cases h with
  | mk hop hnm hn hcs hl hc hk hx => exact ⟨_, _, rfl, hop, hnm, hn, hcs, _, _, rfl, hl, hc, fun i k hi => ⟨_, hk i k hi, hx i k hi⟩⟩
end
/-- the first k of two lists are the same, one by one -/
def SameTo {X : Type} (f : X → X → Bool) (la lb : List X) (k : Nat) : Prop := ∀ (i : Nat) x y, i < k → la[i]? = some x → lb[i]? = some y → f x y = true
theorem SameTo.zero {X : Type} {f : X → X → Bool} {la lb : List X} : SameTo f la lb 0 := fun _ _ _ h => absurd h (by omega)
theorem SameTo.succ {X : Type} {f : X → X → Bool} {la lb : List X} {k : Nat} (h : SameTo f la lb k) {x y : X} (hx : la[k]? = some x) (hy : lb[k]? = some y) (hf : f x y = true) : SameTo f la lb (k + 1) := by
  intro i a b hi ha hb
  by_cases e : i = k
  · subst e
    rw [ha] at hx; rw [hb] at hy
    cases hx; cases hy
    exact hf
  · exact h i a b (by omega) ha hb
theorem SameTo.all {X : Type} {f : X → X → Bool} {la lb : List X} {k : Nat} (h : SameTo f la lb k) (hl : la.length = lb.length) (hk : k = la.length) : sameBy f la lb = true :=
  sameBy_all hl fun i x y hx hy => h i x y (by rw [hk]; exact (List.getElem?_eq_some_iff.1 hx).1) hx hy
theorem below_drewN {B : Nat} {a w : World} (h : Below B a w) (n : Nat) : Below B a (w.drewN n) := ⟨h.os, h.tape, h.output, h.size, h.block⟩
theorem lt_of_heap {w : World} {b : Nat} {o : Obj} (h : w.heap[b]? = some o) : b < w.heap.size := (Array.getElem?_eq_some_iff.1 h).1
/- The ends that the contracts speak of. -/
def IntPost (n : Int) (w : World) (e : Ending) (w' : World) : Prop := e = .returned (.int .i64 n) ∧ Below w.heap.size w w'
def BoolPost (b : Bool) (w : World) (e : Ending) (w' : World) : Prop := e = .returned (.bool b) ∧ Below w.heap.size w w'
theorem below_mono {B B' : Nat} {w w' : World} (h : Below B w w') (hB : B' ≤ B) : Below B' w w' := h.mono hB
theorem take_snoc {X : Type} {l : List X} {k : Nat} {x : X} (h : l[k]? = some x) : l.take (k + 1) = l.take k ++ [x] := by
  obtain ⟨hk, rfl⟩ := List.getElem?_eq_some_iff.1 h
  rw [List.take_succ_eq_append_getElem hk]
end Go.Proofs.YtaimagfdjbedeaaGreatDoor
