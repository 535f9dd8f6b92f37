/-
  Texts joined.
-/
import Derived.Below
import Derived.BigGuardPart
import Derived.BigQuiet
import Derived.Deep.LoopGhost
import Derived.Deep.QuietTactic
import Derived.Deep.RegionHeld3
import Derived.Lib.Hide
import Derived.OwnWalk
import Derived.Test.YtlhmdjhfmhkllaaGreatDoorChecked
import Derived.WalkKit
import Derived.Test.YtlhmdjhfmhkllaaGreatDoorKb02
namespace Go.Proofs.YtlhmdjhfmhkllaaGreatDoor
open Go.RowKit
theorem add_add (a : Addr) (i j : Nat) : (a.add i).add j = a.add (i + j) := by
  unfold Addr.add; by_cases hi : i = 0 <;> by_cases hj : j = 0 <;> simp [hi, hj, Nat.add_assoc]
theorem add_block (a : Addr) (i : Nat) : (a.add i).block = a.block := by unfold Addr.add; split <;> rfl
theorem add_zero (a : Addr) : a.add 0 = a := by simp [Addr.add]
theorem add_field (a : Addr) (i f : Nat) (hf : 0 < f) : (a.add i).add f = { block := (a.add i).block, off := (a.add i).off + f } := by
  unfold Addr.add; by_cases hi : i = 0 <;> simp [hi, Nat.pos_iff_ne_zero.1 hf]
/-- the cells L stand from the address a on -/
def CellsAt (w : World) (a : Addr) (L : List Value) : Prop := ∀ (j : Nat) u, L[j]? = some u → w.cell? (a.add j) = some u
theorem CellsAt.below {w w' : World} {B : Nat} {a : Addr} {L : List Value} (h : CellsAt w a L) (hb : Below B w w') (ha : a.block < B) : CellsAt w' a L :=
  fun j u hu => (hb.cell (p := a.add j) (by rw [add_block]; exact ha)).trans (h j u hu)
theorem CellsAt.lt {w : World} {a : Addr} {L : List Value} (h : CellsAt w a L) (hL : 0 < L.length) : a.block < w.heap.size := by
  have := World.block_lt_of_cell? w _ (h 0 _ (List.getElem?_eq_getElem hL)); rwa [add_block] at this
theorem CellsAt.under {w w' : World} {a : Addr} {L : List Value} (h : CellsAt w a L) (hb : Below w.heap.size w w') : CellsAt w' a L := by
  rcases Nat.eq_zero_or_pos L.length with h0 | h0
  · intro j u hu; rw [List.eq_nil_of_length_eq_zero h0] at hu; cases hu
  · exact h.below hb (h.lt h0)
/-- the element k of a slice at A, each of as many cells as C k has: its cells -/
def ElemAt (w : World) (A : Option Addr) (k : Nat) (L : List Value) : Prop := ∃ a, A = some a ∧ CellsAt w (a.add (k * L.length)) L
theorem ElemAt.under {w w' : World} {A : Option Addr} {k : Nat} {L : List Value} (h : ElemAt w A k L) (hb : Below w.heap.size w w') : ElemAt w' A k L := by
  obtain ⟨a, e, h⟩ := h; exact ⟨a, e, h.under hb⟩
/-- a slice of elements, each as R says of its cells -/
def SliceAt {X : Type} (w : World) (R : List Value → X → Prop) (v : Value) (l : List X) : Prop :=
  ∃ A c, v = .slice A l.length c ∧ l.length ≤ c ∧ c ≤ maxLen ∧ ∀ (i : Nat) x, l[i]? = some x → ∃ L, ElemAt w A i L ∧ R L x
theorem SliceAt.mono {X : Type} {w w' : World} {R R' : List Value → X → Prop} {v : Value} {l : List X} (h : SliceAt w R v l) (hb : Below w.heap.size w w') (hR : ∀ L x, R L x → R' L x) : SliceAt w' R' v l := by
  obtain ⟨A, c, rfl, h1, h2, h3⟩ := h; refine ⟨A, c, rfl, h1, h2, fun i x hx => ?_⟩; obtain ⟨L, h4, h5⟩ := h3 i x hx; exact ⟨L, h4.under hb, hR L x h5⟩
/-- a string's cell -/
def StrCell (L : List Value) (x : Tx) : Prop := L = [.string (str x)] ∧ x.length ≤ maxLen
abbrev StrsAt (w : World) (v : Value) (l : List Tx) : Prop := SliceAt w StrCell v l
theorem StrsAt.under {w w' : World} {v : Value} {l : List Tx} (h : StrsAt w v l) (hb : Below w.heap.size w w') : StrsAt w' v l := SliceAt.mono h hb fun _ _ h => h
def i64B (n : Int) : Prop := -9223372036854775808 ≤ n ∧ n ≤ 9223372036854775807
/-- an expression's cells -/
inductive ExAt (w : World) : List Value → Ex → Prop
  | mk {op : Int} {nm : Tx} {n : Int} {cs : List Tx} {ks : List Ex} {cv : Value} {A : Option Addr} {c : Nat} {C : Nat → List Value}
    (hop : i64B op) (hnm : nm.length ≤ maxLen) (hn : i64B n) (hcs : StrsAt w cv cs) (hl : ks.length ≤ c) (hc : c ≤ maxLen)
    (hk : ∀ (i : Nat) k, ks[i]? = some k → ElemAt w A i (C i)) (hx : ∀ (i : Nat) k, ks[i]? = some k → ExAt w (C i) k) :
    ExAt w [.int .i64 op, .string (str nm), .int .i64 n, cv, .slice A ks.length c] (.mk op nm n cs ks)
theorem ExAt.under {w w' : World} {L : List Value} {x : Ex} (h : ExAt w L x) (hb : Below w.heap.size w w') : ExAt w' L x := by
  induction h with
  | mk hop hnm hn hcs hl hc hk hx ih => exact .mk hop hnm hn (hcs.under hb) hl hc (fun i k h => (hk i k h).under hb) (fun i k h => ih i k h)
theorem ExAt.len {w : World} {L : List Value} {x : Ex} (h : ExAt w L x) : L.length = 5 := by cases h; rfl
theorem ExAt.shape {w : World} {L : List Value} {x : Ex} (h : ExAt w L x) : ∃ o s n A1 n1 k1 A2 n2 k2, L = [.int .i64 o, .string s, .int .i64 n, .slice A1 n1 k1, .slice A2 n2 k2] := by
  cases h with
  | mk hop hnm hn hcs hl hc hk hx =>
    obtain ⟨A1, c1, rfl, _⟩ := hcs; exact ⟨_, _, _, _, _, _, _, _, _, rfl⟩
/- the cells of element k, as the walk spells their places -/
theorem elem1 {w : World} {A : Option Addr} {k : Nat} {c0 : Value} (h : ElemAt w A k [c0]) :
    ∃ a, A = some a ∧ a.block < w.heap.size ∧ (a.add (k * 1)).block < w.heap.size ∧ w.cell? (a.add (k * 1)) = some c0 := by
  obtain ⟨a, rfl, h⟩ := h; have h : CellsAt w (a.add (k * 1)) [c0] := h; have h0 := h 0 _ rfl; rw [add_zero] at h0; refine ⟨a, rfl, ?_, h.lt (by simp), h0⟩
  · have := h.lt (by simp); rwa [add_block] at this
theorem elem2 {w : World} {A : Option Addr} {k : Nat} {c0 c1 : Value} (h : ElemAt w A k [c0, c1]) :
    ∃ a, A = some a ∧ a.block < w.heap.size ∧ (a.add (k * 2)).block < w.heap.size ∧ w.cell? (a.add (k * 2)) = some c0 ∧ w.cell? { block := (a.add (k * 2)).block, off := (a.add (k * 2)).off + 1 } = some c1 := by
  obtain ⟨a, rfl, h⟩ := h; have h : CellsAt w (a.add (k * 2)) [c0, c1] := h; have h0 := h 0 _ rfl; rw [add_zero] at h0; refine ⟨a, rfl, ?_, h.lt (by simp), h0, ?_⟩
  · have := h.lt (by simp); rwa [add_block] at this
  · rw [← add_field _ _ _ (by omega)]; exact h 1 _ rfl
theorem elem3 {w : World} {A : Option Addr} {k : Nat} {c0 c1 c2 : Value} (h : ElemAt w A k [c0, c1, c2]) :
    ∃ a, A = some a ∧ a.block < w.heap.size ∧ (a.add (k * 3)).block < w.heap.size ∧ w.cell? (a.add (k * 3)) = some c0 ∧ w.cell? { block := (a.add (k * 3)).block, off := (a.add (k * 3)).off + 1 } = some c1 ∧ w.cell? { block := (a.add (k * 3)).block, off := (a.add (k * 3)).off + 2 } = some c2 := by
  obtain ⟨a, rfl, h⟩ := h; have h : CellsAt w (a.add (k * 3)) [c0, c1, c2] := h; have h0 := h 0 _ rfl; rw [add_zero] at h0; refine ⟨a, rfl, ?_, h.lt (by simp), h0, ?_, ?_⟩
  · have := h.lt (by simp); rwa [add_block] at this
  · rw [← add_field _ _ _ (by omega)]; exact h 1 _ rfl
  · rw [← add_field _ _ _ (by omega)]; exact h 2 _ rfl
theorem elem5 {w : World} {A : Option Addr} {k : Nat} {c0 c1 c2 c3 c4 : Value} (h : ElemAt w A k [c0, c1, c2, c3, c4]) :
    ∃ a, A = some a ∧ a.block < w.heap.size ∧ (a.add (k * 5)).block < w.heap.size ∧ w.cell? (a.add (k * 5)) = some c0 ∧ w.cell? { block := (a.add (k * 5)).block, off := (a.add (k * 5)).off + 1 } = some c1 ∧ w.cell? { block := (a.add (k * 5)).block, off := (a.add (k * 5)).off + 2 } = some c2 ∧ w.cell? { block := (a.add (k * 5)).block, off := (a.add (k * 5)).off + 3 } = some c3 ∧ w.cell? { block := (a.add (k * 5)).block, off := (a.add (k * 5)).off + 4 } = some c4 := by
  obtain ⟨a, rfl, h⟩ := h; have h : CellsAt w (a.add (k * 5)) [c0, c1, c2, c3, c4] := h; have h0 := h 0 _ rfl; rw [add_zero] at h0; refine ⟨a, rfl, ?_, h.lt (by simp), h0, ?_, ?_, ?_, ?_⟩
  · have := h.lt (by simp); rwa [add_block] at this
  · rw [← add_field _ _ _ (by omega)]; exact h 1 _ rfl
  · rw [← add_field _ _ _ (by omega)]; exact h 2 _ rfl
  · rw [← add_field _ _ _ (by omega)]; exact h 3 _ rfl
  · rw [← add_field _ _ _ (by omega)]; exact h 4 _ rfl
theorem elem6 {w : World} {A : Option Addr} {k : Nat} {c0 c1 c2 c3 c4 c5 : Value} (h : ElemAt w A k [c0, c1, c2, c3, c4, c5]) :
    ∃ a, A = some a ∧ a.block < w.heap.size ∧ (a.add (k * 6)).block < w.heap.size ∧ w.cell? (a.add (k * 6)) = some c0 ∧ w.cell? { block := (a.add (k * 6)).block, off := (a.add (k * 6)).off + 1 } = some c1 ∧ w.cell? { block := (a.add (k * 6)).block, off := (a.add (k * 6)).off + 2 } = some c2 ∧ w.cell? { block := (a.add (k * 6)).block, off := (a.add (k * 6)).off + 3 } = some c3 ∧ w.cell? { block := (a.add (k * 6)).block, off := (a.add (k * 6)).off + 4 } = some c4 ∧ w.cell? { block := (a.add (k * 6)).block, off := (a.add (k * 6)).off + 5 } = some c5 := by
  obtain ⟨a, rfl, h⟩ := h; have h : CellsAt w (a.add (k * 6)) [c0, c1, c2, c3, c4, c5] := h; have h0 := h 0 _ rfl; rw [add_zero] at h0; refine ⟨a, rfl, ?_, h.lt (by simp), h0, ?_, ?_, ?_, ?_, ?_⟩
  · have := h.lt (by simp); rwa [add_block] at this
  · rw [← add_field _ _ _ (by omega)]; exact h 1 _ rfl
  · rw [← add_field _ _ _ (by omega)]; exact h 2 _ rfl
  · rw [← add_field _ _ _ (by omega)]; exact h 3 _ rfl
  · rw [← add_field _ _ _ (by omega)]; exact h 4 _ rfl
  · rw [← add_field _ _ _ (by omega)]; exact h 5 _ rfl
theorem elem7 {w : World} {A : Option Addr} {k : Nat} {c0 c1 c2 c3 c4 c5 c6 : Value} (h : ElemAt w A k [c0, c1, c2, c3, c4, c5, c6]) :
    ∃ a, A = some a ∧ a.block < w.heap.size ∧ (a.add (k * 7)).block < w.heap.size ∧ w.cell? (a.add (k * 7)) = some c0 ∧ w.cell? { block := (a.add (k * 7)).block, off := (a.add (k * 7)).off + 1 } = some c1 ∧ w.cell? { block := (a.add (k * 7)).block, off := (a.add (k * 7)).off + 2 } = some c2 ∧ w.cell? { block := (a.add (k * 7)).block, off := (a.add (k * 7)).off + 3 } = some c3 ∧ w.cell? { block := (a.add (k * 7)).block, off := (a.add (k * 7)).off + 4 } = some c4 ∧ w.cell? { block := (a.add (k * 7)).block, off := (a.add (k * 7)).off + 5 } = some c5 ∧ w.cell? { block := (a.add (k * 7)).block, off := (a.add (k * 7)).off + 6 } = some c6 := by
  obtain ⟨a, rfl, h⟩ := h; have h : CellsAt w (a.add (k * 7)) [c0, c1, c2, c3, c4, c5, c6] := h; have h0 := h 0 _ rfl; rw [add_zero] at h0; refine ⟨a, rfl, ?_, h.lt (by simp), h0, ?_, ?_, ?_, ?_, ?_, ?_⟩
  · have := h.lt (by simp); rwa [add_block] at this
  · rw [← add_field _ _ _ (by omega)]; exact h 1 _ rfl
  · rw [← add_field _ _ _ (by omega)]; exact h 2 _ rfl
  · rw [← add_field _ _ _ (by omega)]; exact h 3 _ rfl
  · rw [← add_field _ _ _ (by omega)]; exact h 4 _ rfl
  · rw [← add_field _ _ _ (by omega)]; exact h 5 _ rfl
  · rw [← add_field _ _ _ (by omega)]; exact h 6 _ rfl
/-- an equation's cells; a transition's, a state's, an item's, an enum's, a node's, a program's -/
def EqAt (w : World) (L : List Value) (q : QEq) : Prop := ∃ nv L', L = nv :: L' ∧ StrsAt w nv q.names ∧ ExAt w L' q.e
def WayAt (w : World) (L : List Value) (y : QWay) : Prop := ∃ L', L = L' ++ [.string (str y.to)] ∧ ExAt w L' y.cond ∧ y.to.length ≤ maxLen
def StateAt (w : World) (L : List Value) (s : QState) : Prop := ∃ ev wv, L = [.string (str s.name), ev, wv] ∧ s.name.length ≤ maxLen ∧ SliceAt w (EqAt w) ev s.eqs ∧ SliceAt w (WayAt w) wv s.ways
def ItemAt (w : World) (L : List Value) (i : QItem) : Prop := ∃ L' sv, L = L' ++ [sv] ∧ EqAt w L' i.eq ∧ SliceAt w (StateAt w) sv i.states
def EnumAt (w : World) (L : List Value) (e : QEnum) : Prop := ∃ cv, L = [.string (str e.name), cv] ∧ e.name.length ≤ maxLen ∧ StrsAt w cv e.cons
def NodeAt (w : World) (L : List Value) (n : QNode) : Prop := ∃ fv iv ov xv, L = [.string (str n.name), fv, iv, ov, xv] ∧ n.name.length ≤ maxLen ∧ StrsAt w fv n.funs ∧ StrsAt w iv n.ins ∧ StrsAt w ov n.outs ∧ SliceAt w (ItemAt w) xv n.items
def ProgAt (w : World) (L : List Value) (p : QProg) : Prop := ∃ ev nv, L = [ev, nv] ∧ SliceAt w (EnumAt w) ev p.enums ∧ SliceAt w (NodeAt w) nv p.nodes
section
variable {w w' : World} {L : List Value}
theorem SliceAt.shape {X : Type} {R : List Value → X → Prop} {v : Value} {l : List X} (h : SliceAt w R v l) : ∃ A n k, v = .slice A n k := by
  obtain ⟨A, c, rfl, _⟩ := h; exact ⟨A, _, c, rfl⟩
theorem EqAt.shape {q : QEq} (h : EqAt w L q) : ∃ A0 n0 k0 o1 s2 o3 A4 n4 k4 A5 n5 k5, L = [.slice A0 n0 k0, .int .i64 o1, .string s2, .int .i64 o3, .slice A4 n4 k4, .slice A5 n5 k5] := by
  obtain ⟨nv, L', rfl, h1, h2⟩ := h; obtain ⟨_, _, _, rfl⟩ := SliceAt.shape h1; obtain ⟨_, _, _, _, _, _, _, _, _, rfl⟩ := h2.shape; exact ⟨_, _, _, _, _, _, _, _, _, _, _, _, rfl⟩
theorem WayAt.shape {y : QWay} (h : WayAt w L y) : ∃ o0 s1 o2 A3 n3 k3 A4 n4 k4 s5, L = [.int .i64 o0, .string s1, .int .i64 o2, .slice A3 n3 k3, .slice A4 n4 k4, .string s5] := by
  obtain ⟨L', rfl, h2, h1⟩ := h; obtain ⟨_, _, _, _, _, _, _, _, _, rfl⟩ := h2.shape; exact ⟨_, _, _, _, _, _, _, _, _, _, rfl⟩
theorem StateAt.shape {s : QState} (h : StateAt w L s) : ∃ s0 A1 n1 k1 A2 n2 k2, L = [.string s0, .slice A1 n1 k1, .slice A2 n2 k2] := by
  obtain ⟨ev, wv, rfl, _, h1, h2⟩ := h; obtain ⟨_, _, _, rfl⟩ := SliceAt.shape h1; obtain ⟨_, _, _, rfl⟩ := SliceAt.shape h2; exact ⟨_, _, _, _, _, _, _, rfl⟩
theorem ItemAt.shape {i : QItem} (h : ItemAt w L i) : ∃ A0 n0 k0 o1 s2 o3 A4 n4 k4 A5 n5 k5 A6 n6 k6, L = [.slice A0 n0 k0, .int .i64 o1, .string s2, .int .i64 o3, .slice A4 n4 k4, .slice A5 n5 k5, .slice A6 n6 k6] := by
  obtain ⟨L', sv, rfl, h1, h2⟩ := h; obtain ⟨_, _, _, _, _, _, _, _, _, _, _, _, rfl⟩ := h1.shape; obtain ⟨_, _, _, rfl⟩ := SliceAt.shape h2; exact ⟨_, _, _, _, _, _, _, _, _, _, _, _, _, _, _, rfl⟩
theorem EnumAt.shape {e : QEnum} (h : EnumAt w L e) : ∃ s0 A1 n1 k1, L = [.string s0, .slice A1 n1 k1] := by
  obtain ⟨cv, rfl, _, h1⟩ := h; obtain ⟨_, _, _, rfl⟩ := SliceAt.shape h1; exact ⟨_, _, _, _, rfl⟩
theorem NodeAt.shape {n : QNode} (h : NodeAt w L n) : ∃ s0 A1 n1 k1 A2 n2 k2 A3 n3 k3 A4 n4 k4, L = [.string s0, .slice A1 n1 k1, .slice A2 n2 k2, .slice A3 n3 k3, .slice A4 n4 k4] := by
  obtain ⟨fv, iv, ov, xv, rfl, _, h1, h2, h3, h4⟩ := h; obtain ⟨_, _, _, rfl⟩ := SliceAt.shape h1; obtain ⟨_, _, _, rfl⟩ := SliceAt.shape h2; obtain ⟨_, _, _, rfl⟩ := SliceAt.shape h3; obtain ⟨_, _, _, rfl⟩ := SliceAt.shape h4; exact ⟨_, _, _, _, _, _, _, _, _, _, _, _, _, rfl⟩
/-- an expression's parts -/
theorem ExAt.open_ {op : Int} {nm : Tx} {n : Int} {cs : List Tx} {ks : List Ex} (h : ExAt w L (.mk op nm n cs ks)) :
    ∃ cv kv, L = [.int .i64 op, .string (str nm), .int .i64 n, cv, kv] ∧ i64B op ∧ nm.length ≤ maxLen ∧ i64B n ∧ StrsAt w cv cs ∧ SliceAt w (ExAt w) kv ks := by
  cases h with
  | mk hop hnm hn hcs hl hc hk hx => exact ⟨_, _, rfl, hop, hnm, hn, hcs, _, _, rfl, hl, hc, fun i k hi => ⟨_, hk i k hi, hx i k hi⟩⟩
end
/-- the first k of two lists are the same, one by one -/
def SameTo {X : Type} (f : X → X → Bool) (la lb : List X) (k : Nat) : Prop := ∀ (i : Nat) x y, i < k → la[i]? = some x → lb[i]? = some y → f x y = true
theorem SameTo.zero {X : Type} {f : X → X → Bool} {la lb : List X} : SameTo f la lb 0 := fun _ _ _ h => absurd h (by omega)
theorem SameTo.succ {X : Type} {f : X → X → Bool} {la lb : List X} {k : Nat} (h : SameTo f la lb k) {x y : X} (hx : la[k]? = some x) (hy : lb[k]? = some y) (hf : f x y = true) : SameTo f la lb (k + 1) := by
  intro i a b hi ha hb; by_cases e : i = k
  · subst e; rw [ha] at hx; rw [hb] at hy; cases hx; cases hy; exact hf
  · exact h i a b (by omega) ha hb
theorem SameTo.all {X : Type} {f : X → X → Bool} {la lb : List X} {k : Nat} (h : SameTo f la lb k) (hl : la.length = lb.length) (hk : k = la.length) : sameBy f la lb = true :=
  sameBy_all hl fun i x y hx hy => h i x y (by rw [hk]; exact (List.getElem?_eq_some_iff.1 hx).1) hx hy
theorem below_drewN {B : Nat} {a w : World} (h : Below B a w) (n : Nat) : Below B a (w.drewN n) := ⟨h.os, h.tape, h.output, h.size, h.block⟩
theorem lt_of_heap {w : World} {b : Nat} {o : Obj} (h : w.heap[b]? = some o) : b < w.heap.size := (Array.getElem?_eq_some_iff.1 h).1
/- The ends that the contracts speak of. -/
def IntPost (n : Int) (w : World) (e : Ending) (w' : World) : Prop := e = .returned (.int .i64 n) ∧ Below w.heap.size w w'
def BoolPost (b : Bool) (w : World) (e : Ending) (w' : World) : Prop := e = .returned (.bool b) ∧ Below w.heap.size w w'
theorem take_snoc {X : Type} {l : List X} {k : Nat} {x : X} (h : l[k]? = some x) : l.take (k + 1) = l.take k ++ [x] := by
  obtain ⟨hk, rfl⟩ := List.getElem?_eq_some_iff.1 h; rw [List.take_succ_eq_append_getElem hk]
end Go.Proofs.YtlhmdjhfmhkllaaGreatDoor

namespace Go.Proofs.YtlhmdjhfmhkllaaGreatDoor
open Go.RowKit
set_option maxHeartbeats 1000000 in
theorem eqF_Expr {w0 : World} {va vb : Value} {la lb : List Ex} (ha : SliceAt w0 (ExAt w0) va la) (hb : SliceAt w0 (ExAt w0) vb lb)
    (hf : ∀ x ∈ la, ∀ y ∈ lb, ∀ L M, ExAt w0 L x → ExAt w0 M y → ∀ w, Below w0.heap.size w0 w → Calls Tryz.prog 169 #[.agg L.toArray, .agg M.toArray] w (BoolPost (sameX x y) w)) :
    ∀ w, Below w0.heap.size w0 w → Calls Tryz.prog 189 #[va, vb, .func (.func 169) #[] #[]] w (BoolPost (sameBy sameX la lb) w) := by
  intro w hw; obtain ⟨A, ca, rfl, hca, hma, hea⟩ := ha; obtain ⟨B, cb, rfl, hcb, hmb, heb⟩ := hb; have hla : la.length ≤ 9223372036854775807 := (by unfold maxLen at hma; omega); have HW0 := Lib.hid hw; have hsz0 := hw.size; clear hw hca hma hcb hmb; by_cases hlen : la.length = lb.length
  · have hd : ((la.length : Int) != (lb.length : Int)) = false := by simp [hlen]
    have HL := Lib.hid hlen; clear hlen; go_enter Tryz.func189, Tryz.ntmps189
    go_wp2_with fail
    go_loopg [17] la.length (fun g v wr => ∃ k : Nat, k + g = la.length ∧ v = .int .i64 k ∧ SameTo sameX la lb k ∧ Below w.heap.size w wr)
    case atStart => exact ⟨0, by omega, rfl, SameTo.zero, Below.refl _ _⟩
    case round =>
      obtain ⟨k, hkg, rfl, hto, hbw⟩ := hrel; have HK := Lib.hid hkg; have HW := Lib.hid hbw; have HT := Lib.hid hto; have hszw := hbw.size; have hkl : k ≤ la.length := (by omega); clear hkg hbw hto; by_cases hlt : k < la.length
      · obtain ⟨x, hx⟩ : ∃ x, la[k]? = some x := ⟨_, List.getElem?_eq_getElem hlt⟩; have hltb : k < lb.length := (by rw [← HL.out]; exact hlt); obtain ⟨y, hy⟩ : ∃ y, lb[k]? = some y := ⟨_, List.getElem?_eq_getElem hltb⟩; obtain ⟨L, hEL, hRL⟩ := hea k x hx; obtain ⟨M, hEM, hRM⟩ := heb k y hy; obtain ⟨po0, ps1, po2, pA3, pn3, pk3, pA4, pn4, pk4, rfl⟩ := ExAt.shape hRL; obtain ⟨qo0, qs1, qo2, qA3, qn3, qk3, qA4, qn4, qk4, rfl⟩ := ExAt.shape hRM; have HF := Lib.hid (hf x (List.mem_of_getElem? hx) y (List.mem_of_getElem? hy) _ _ hRL hRM); have HB0 := Lib.hid (HW0.out.trans (HW.out.mono hsz0)); have HX := Lib.hid hx; have HY := Lib.hid hy; obtain ⟨a, rfl, hab, haa, d0, d1, d2, d3, d4⟩ := elem5 (hEL.under HB0.out); obtain ⟨b, rfl, hbb, hbc, e0, e1, e2, e3, e4⟩ := elem5 (hEM.under HB0.out); clear hRL hRM hEL hEM hea heb hf hx hy; cases hfx : sameX x y
        · have HFX := Lib.hid hfx; rw [hfx] at HF; clear hfx; go_wp2_with (go_at_call 169; refine (HF.out _ ((HB0.out.alloc (by omega) _).alloc (by simp; omega) _)).mono ?_; rintro e w1 ⟨rfl, hb1⟩)
          go_ret; exact ⟨ret_bool (sameBy_no HX.out HY.out HFX.out).symm, ((HW.out.alloc (by omega) _).alloc (by simp; omega) _).trans (hb1.mono (by simp; omega))⟩
        · have HFX := Lib.hid hfx; rw [hfx] at HF; clear hfx; go_wp2_with (go_at_call 169; refine (HF.out _ ((HB0.out.alloc (by omega) _).alloc (by simp; omega) _)).mono ?_; rintro e w1 ⟨rfl, hb1⟩)
          go_roundg (la.length - (k + 1))
          case measure => have := HK.out; omega
          case rel => exact ⟨k + 1, by omega, by go_num, HT.out.succ HX.out HY.out HFX.out, ((HW.out.alloc (by omega) _).alloc (by simp; omega) _).trans (hb1.mono (by simp; omega))⟩
      · have hke : k = la.length := by omega
        have HKE := Lib.hid hke; clear hke; go_wp2_with fail
        go_ret; exact ⟨ret_bool (HT.out.all HL.out HKE.out).symm, HW.out⟩
  · have hd : ((la.length : Int) != (lb.length : Int)) = true := by simp; omega
    have HL := Lib.hid hlen; clear hlen; go_enter Tryz.func189, Tryz.ntmps189
    go_wp2_with fail
    go_ret; exact ⟨ret_bool (sameBy_len HL.out).symm, Below.refl _ _⟩
end Go.Proofs.YtlhmdjhfmhkllaaGreatDoor

namespace Go.Proofs.YtlhmdjhfmhkllaaGreatDoor
open Go.RowKit
theorem str_toL (a : Tx) : (str a).toList = a := by rw [Lib.toList_data, str_toList]
theorem box_a {w w1 : World} {ca cb : Array Value} {Ta Tb : TypeId} (hb : Below ((w.alloc (.cells ca Ta)).alloc (.cells cb Tb)).heap.size ((w.alloc (.cells ca Ta)).alloc (.cells cb Tb)) w1) : w1.heap[w.heap.size]? = some (.cells ca Ta (0, 0)) := by
  rw [hb.block w.heap.size (by simp; omega), Below.heap_alloc _ _ _ (by simp)]; exact heap_alloc_new w _
theorem box_b {w w1 : World} {ca cb : Array Value} {Ta Tb : TypeId} (hb : Below ((w.alloc (.cells ca Ta)).alloc (.cells cb Tb)).heap.size ((w.alloc (.cells ca Ta)).alloc (.cells cb Tb)) w1) : w1.heap[w.heap.size + 1]? = some (.cells cb Tb (0, 0)) := by
  rw [hb.block (w.heap.size + 1) (by simp)]; have := heap_alloc_new (w.alloc (.cells ca Ta)) (.cells cb Tb); simpa using this
theorem box_next {w w1 : World} {g : Nat} {o : Obj} (hb : Below w.heap.size w w1) (h : w.heap[g]? = some o) : w1.heap[g]? = some o := (hb.block g (lt_of_heap h)).trans h
theorem row2 {w : World} {N : Nat} {T : TypeId} {v0 v1 : Value} (h : w.heap[N]? = some (.cells #[v0, v1] T (0, 0))) :
    w.cell? ⟨N, 0, none⟩ = some v0 ∧ w.cell? ⟨N, 1, none⟩ = some v1 := by
  simp [World.cell?, h]
theorem row3 {w : World} {N : Nat} {T : TypeId} {v0 v1 v2 : Value} (h : w.heap[N]? = some (.cells #[v0, v1, v2] T (0, 0))) :
    w.cell? ⟨N, 0, none⟩ = some v0 ∧ w.cell? ⟨N, 1, none⟩ = some v1 ∧ w.cell? ⟨N, 2, none⟩ = some v2 := by
  simp [World.cell?, h]
theorem row5 {w : World} {N : Nat} {T : TypeId} {v0 v1 v2 v3 v4 : Value} (h : w.heap[N]? = some (.cells #[v0, v1, v2, v3, v4] T (0, 0))) :
    w.cell? ⟨N, 0, none⟩ = some v0 ∧ w.cell? ⟨N, 1, none⟩ = some v1 ∧ w.cell? ⟨N, 2, none⟩ = some v2 ∧ w.cell? ⟨N, 3, none⟩ = some v3 ∧ w.cell? ⟨N, 4, none⟩ = some v4 := by
  simp [World.cell?, h]
theorem row6 {w : World} {N : Nat} {T : TypeId} {v0 v1 v2 v3 v4 v5 : Value} (h : w.heap[N]? = some (.cells #[v0, v1, v2, v3, v4, v5] T (0, 0))) :
    w.cell? ⟨N, 0, none⟩ = some v0 ∧ w.cell? ⟨N, 1, none⟩ = some v1 ∧ w.cell? ⟨N, 2, none⟩ = some v2 ∧ w.cell? ⟨N, 3, none⟩ = some v3 ∧ w.cell? ⟨N, 4, none⟩ = some v4 ∧ w.cell? ⟨N, 5, none⟩ = some v5 := by
  simp [World.cell?, h]
theorem row7 {w : World} {N : Nat} {T : TypeId} {v0 v1 v2 v3 v4 v5 v6 : Value} (h : w.heap[N]? = some (.cells #[v0, v1, v2, v3, v4, v5, v6] T (0, 0))) :
    w.cell? ⟨N, 0, none⟩ = some v0 ∧ w.cell? ⟨N, 1, none⟩ = some v1 ∧ w.cell? ⟨N, 2, none⟩ = some v2 ∧ w.cell? ⟨N, 3, none⟩ = some v3 ∧ w.cell? ⟨N, 4, none⟩ = some v4 ∧ w.cell? ⟨N, 5, none⟩ = some v5 ∧ w.cell? ⟨N, 6, none⟩ = some v6 := by
  simp [World.cell?, h]
theorem eq_take {l m : List Tx} {k : Nat} (hl : l.length = m.length) (h : SameTo (fun a b => a == b) l m k) (hk : k = l.length) : l = m := by
  have := h.all hl hk; exact (sameBy_iff (f := fun a b : Tx => a == b) (by simp) l m).1 this
set_option maxHeartbeats 1000000 in
theorem equalS_any {w0 : World} {va vb : Value} {la lb : List Tx} (ha : StrsAt w0 va la) (hb : StrsAt w0 vb lb) :
    ∀ w, Below w0.heap.size w0 w → Calls Tryz.prog 188 #[va, vb] w (BoolPost (la == lb) w) := by
  intro w hw; obtain ⟨A, ca, rfl, hca, hma, hea⟩ := ha; obtain ⟨B, cb, rfl, hcb, hmb, heb⟩ := hb; have hla : la.length ≤ 9223372036854775807 := (by unfold maxLen at hma; omega); have HW0 := Lib.hid hw; have hsz0 := hw.size; clear hw hca hma hcb hmb; by_cases hlen : la.length = lb.length
  · have hd : ((la.length : Int) != (lb.length : Int)) = false := by simp [hlen]
    have HL := Lib.hid hlen; clear hlen; go_enter Tryz.func188, Tryz.ntmps188
    go_wp2_with fail
    go_loopg [13] la.length (fun g v wr => ∃ k : Nat, k + g = la.length ∧ v = .int .i64 k ∧ SameTo (fun a b => a == b) la lb k ∧ Below w.heap.size w wr)
    case atStart => exact ⟨0, by omega, rfl, SameTo.zero, Below.refl _ _⟩
    case round =>
      obtain ⟨k, hkg, rfl, hto, hbw⟩ := hrel; have HK := Lib.hid hkg; have HW := Lib.hid hbw; have HT := Lib.hid hto; have hszw := hbw.size; have hkl : k ≤ la.length := (by omega); clear hkg hbw hto; by_cases hlt : k < la.length
      · obtain ⟨x, hx⟩ : ∃ x, la[k]? = some x := ⟨_, List.getElem?_eq_getElem hlt⟩; have hltb : k < lb.length := (by rw [← HL.out]; exact hlt); obtain ⟨y, hy⟩ : ∃ y, lb[k]? = some y := ⟨_, List.getElem?_eq_getElem hltb⟩; obtain ⟨L, hEL, rfl, _⟩ := hea k x hx; obtain ⟨M, hEM, rfl, _⟩ := heb k y hy; have HB0 := Lib.hid (HW0.out.trans (HW.out.mono hsz0)); have HX := Lib.hid hx; have HY := Lib.hid hy; obtain ⟨a, rfl, hab, haa, d0⟩ := elem1 (hEL.under HB0.out); obtain ⟨b, rfl, hbb, hbc, e0⟩ := elem1 (hEM.under HB0.out); rw [Nat.mul_one] at d0 e0; clear hEL hEM hea heb hx hy; go_wp2_with fail
        go_quiet (fail)
        go_wp2_with fail
        all_goals first
          | (have hxy : x = y := by
               have h : (!(str x).toList == (str y).toList) = false := (by assumption); simpa [str_toL] using h
             have HXY := Lib.hid hxy; clear hxy; go_roundg (la.length - (k + 1))
             case measure => have := HK.out; omega
             case rel => exact ⟨k + 1, by omega, by go_num, HT.out.succ HX.out HY.out (by simp [HXY.out]), below_drewN HW.out _⟩)
          | (have hxy : x ≠ y := by
               have h : (!(str x).toList == (str y).toList) = true := (by assumption); simpa [str_toL] using h
             go_ret; exact ⟨ret_bool (by rw [Eq.comm, Bool.eq_false_iff]; intro e; simp at e; subst e; have h1 := HX.out; rw [HY.out] at h1; exact hxy (Option.some.inj h1).symm), below_drewN HW.out _⟩)
      · have hke : k = la.length := by omega
        have HKE := Lib.hid hke; clear hke; go_wp2_with fail
        go_ret; exact ⟨ret_bool (by rw [eq_take HL.out HT.out HKE.out]; simp), HW.out⟩
  · have hd : ((la.length : Int) != (lb.length : Int)) = true := by simp; omega
    have HL := Lib.hid hlen; clear hlen; go_enter Tryz.func188, Tryz.ntmps188
    go_wp2_with fail
    go_ret; exact ⟨ret_bool (by rw [Eq.comm, Bool.eq_false_iff]; intro e; simp at e; exact HL.out (by rw [e])), Below.refl _ _⟩
end Go.Proofs.YtlhmdjhfmhkllaaGreatDoor

namespace Go.Proofs.YtlhmdjhfmhkllaaGreatDoor
open Go.RowKit
set_option maxHeartbeats 2000000 in
theorem sameExpr_any {w0 : World} : ∀ (x : Ex) (y : Ex) (L M : List Value), ExAt w0 L x → ExAt w0 M y → ∀ w, Below w0.heap.size w0 w → Calls Tryz.prog 169 #[.agg L.toArray, .agg M.toArray] w (BoolPost (sameX x y) w) := by
  intro x; induction x using Ex.ind with
  | h op nm n cs ks ih =>
    rintro ⟨op', nm', n', cs', ks'⟩ L M hL hM w hw; obtain ⟨cv, kv, rfl, _, _, _, hcs, hks⟩ := hL.open_; obtain ⟨cv', kv', rfl, _, _, _, hcs', hks'⟩ := hM.open_; have hE := Lib.hid (equalS_any hcs hcs'); have hF := Lib.hid (eqF_Expr hks hks' (fun x hx y _ L M h1 h2 => ih x hx y L M h1 h2)); obtain ⟨A1, n1, k1, rfl⟩ := SliceAt.shape hcs; obtain ⟨A2, n2, k2, rfl⟩ := SliceAt.shape hks; obtain ⟨B1, m1, j1, rfl⟩ := SliceAt.shape hcs'; obtain ⟨B2, m2, j2, rfl⟩ := SliceAt.shape hks'; have HW := Lib.hid hw; have hsz := hw.size; clear hw hcs hks hcs' hks' hL hM ih; go_enter Tryz.func169, Tryz.ntmps169
    go_wp2_with (first | (go_at_call 188; (with_reducible refine (hE.out _ ?hB).mono ?_); (case hB => exact (HW.out.alloc (by omega) _).alloc (by simp; omega) _); rintro e w1 ⟨rfl, hb1⟩; have hs1 := hb1.size; simp at hs1; have HB1 := Lib.hid (((HW.out.alloc (by omega) _).alloc (by simp; omega) _).trans (hb1.mono (by simp; omega))); have HC1 := Lib.hid ((((Below.refl _ _).alloc (Nat.le_refl _) _).alloc (by simp) _).trans (hb1.mono (by simp; omega))); have ba1 := box_a hb1; have bb1 := box_b hb1; obtain ⟨x1_0, x1_1, x1_2, x1_3, x1_4⟩ := row5 ba1; obtain ⟨y1_0, y1_1, y1_2, y1_3, y1_4⟩ := row5 bb1; have BA1 := Lib.hid ba1; have BB1 := Lib.hid bb1; clear ba1 bb1; clear hb1) | (go_at_call 189; (with_reducible refine (hF.out _ ?hB).mono ?_); (case hB => exact HB1.out); rintro e w2 ⟨rfl, hb2⟩; have hs2 := hb2.size; have HB2 := Lib.hid ((HB1.out).trans (hb2.mono (by omega))); have HC2 := Lib.hid ((HC1.out).trans (hb2.mono (by omega))); clear hb2))
    all_goals go_ret
    all_goals refine ⟨ret_bool ?_, ?_⟩
    all_goals first | exact HC2.out | exact HC1.out | exact ((Below.refl _ _).alloc (Nat.le_refl _) _).alloc (by simp) _ | skip
    all_goals simp_all [sameX, str_toL, sameXs_by]
end Go.Proofs.YtlhmdjhfmhkllaaGreatDoor

namespace Go.Proofs.YtlhmdjhfmhkllaaGreatDoor
open Go.RowKit
set_option maxHeartbeats 1000000 in
theorem size_any {w0 : World} {L : List Value} {x : Ex} (h : ExAt w0 L x) : ∀ w, Below w0.heap.size w0 w → Calls Tryz.prog 15 #[.agg L.toArray] w (IntPost (sizeW x) w) := by
  induction h with
  | @mk op nm n cs ks cv A c C hop hnm hn hcs hl hc hk hx ih =>
    intro w hb; have HB := Lib.hid hb; have hlm : ks.length ≤ 9223372036854775807 := (by unfold maxLen at hc; omega); have hsz0 := hb.size; clear hop hn hcs hb hl hc hnm; go_enter Tryz.func15, Tryz.ntmps15
    go_wp2_with fail
    go_loopg [3, 9] ks.length (fun g s v wr => ∃ k : Nat, k + g = ks.length ∧ v = .int .i64 k ∧ s = .int .i64 (sizeF 1 (ks.take k)) ∧ Below w.heap.size w wr)
    case atStart => exact ⟨0, by omega, rfl, by simp [sizeF], (Below.refl _ _).alloc (Nat.le_refl _) _⟩
    case round =>
      obtain ⟨k, hkg, rfl, rfl, hbw⟩ := hrel; have HK := Lib.hid hkg; have HW := Lib.hid hbw; have hszw := hbw.size; have hkl : k ≤ ks.length := (by omega); clear hkg hbw; by_cases hlt : k < ks.length
      · obtain ⟨y, hy⟩ : ∃ y, ks[k]? = some y := ⟨_, List.getElem?_eq_getElem hlt⟩; have hC := hk k y hy; have hih := Lib.hid (ih k y hy); have hxk := hx k y hy; have HS := Lib.hid (show sizeF 1 (ks.take (k + 1)) = _ by rw [take_snoc hy, sizeF_snoc]); obtain ⟨o1, s1, n1, A1, m1, k1, A2, m2, k2, hL⟩ := hxk.shape; generalize C k = L at hC hih hxk hL; subst hL; clear hy hxk hk hx ih; have hB0 := Lib.hid ((HB.out.trans (HW.out.mono hsz0))); obtain ⟨a, rfl, ha, haa, d0, d1, d2, d3, d4⟩ := elem5 (hC.under hB0.out); clear hC; go_wp2_with (go_at_call 15; refine (hih.out _ (hB0.out.alloc (by omega) _)).mono ?_; rintro e w1 ⟨rfl, hb1⟩)
        go_roundg (ks.length - (k + 1))
        case measure => have := HK.out; omega
        case rel => exact ⟨k + 1, by omega, by go_num, by rw [HS.out], (HW.out.alloc (by omega) _).trans (hb1.mono (by simp; omega))⟩
      · have hke : k = ks.length := by omega
        have HKE := Lib.hid hke; clear hke; go_wp2_with fail
        go_ret; exact ⟨ret_int (by rw [HKE.out, List.take_length, sizeW]), HW.out⟩
set_option maxHeartbeats 1000000 in
theorem depth_any {w0 : World} {L : List Value} {x : Ex} (h : ExAt w0 L x) : ∀ w, Below w0.heap.size w0 w → Calls Tryz.prog 14 #[.agg L.toArray] w (IntPost (depthW x) w) := by
  induction h with
  | @mk op nm n cs ks cv A c C hop hnm hn hcs hl hc hk hx ih =>
    intro w hb; have HB := Lib.hid hb; have hlm : ks.length ≤ 9223372036854775807 := (by unfold maxLen at hc; omega); have hsz0 := hb.size; clear hop hn hcs hb hl hc hnm; go_enter Tryz.func14, Tryz.ntmps14
    go_wp2_with fail
    go_loopg [3, 9] ks.length (fun g s v wr => ∃ k : Nat, k + g = ks.length ∧ v = .int .i64 k ∧ s = .int .i64 (depthF 0 (ks.take k)) ∧ Below w.heap.size w wr)
    case atStart => exact ⟨0, by omega, rfl, by simp [depthF], (Below.refl _ _).alloc (Nat.le_refl _) _⟩
    case round =>
      obtain ⟨k, hkg, rfl, rfl, hbw⟩ := hrel; have HK := Lib.hid hkg; have HW := Lib.hid hbw; have hszw := hbw.size; have hkl : k ≤ ks.length := (by omega); clear hkg hbw; by_cases hlt : k < ks.length
      · obtain ⟨y, hy⟩ : ∃ y, ks[k]? = some y := ⟨_, List.getElem?_eq_getElem hlt⟩; have hC := hk k y hy; have hih := Lib.hid (ih k y hy); have hxk := hx k y hy; have HS := Lib.hid (show depthF 0 (ks.take (k + 1)) = _ by rw [take_snoc hy, depthF_snoc]); obtain ⟨o1, s1, n1, A1, m1, k1, A2, m2, k2, hL⟩ := hxk.shape; generalize C k = L at hC hih hxk hL; subst hL; clear hy hxk hk hx ih; have hB0 := Lib.hid ((HB.out.trans (HW.out.mono hsz0))); obtain ⟨a, rfl, ha, haa, d0, d1, d2, d3, d4⟩ := elem5 (hC.under hB0.out); clear hC; go_wp2_with (go_at_call 14; refine (hih.out _ (hB0.out.alloc (by omega) _)).mono ?_; rintro e w1 ⟨rfl, hb1⟩)
        all_goals
          go_roundg (ks.length - (k + 1))
          case measure => have := HK.out; omega
          case rel => exact ⟨k + 1, by omega, by go_num, by rw [HS.out]; congr 1; omega, (HW.out.alloc (by omega) _).trans (hb1.mono (by simp; omega))⟩
      · have hke : k = ks.length := by omega
        have HKE := Lib.hid hke; clear hke; go_wp2_with fail
        go_ret; exact ⟨ret_int (by rw [HKE.out, List.take_length, depthW]), HW.out⟩
end Go.Proofs.YtlhmdjhfmhkllaaGreatDoor

namespace Go.Proofs.YtlhmdjhfmhkllaaGreatDoor
open Go.RowKit
set_option maxHeartbeats 1000000 in
theorem rSameNames_any {w0 : World} {va vb : Value} {la lb : List Tx} (ha : StrsAt w0 va la) (hb : StrsAt w0 vb lb) :
    ∀ w, Below w0.heap.size w0 w → Calls Tryz.prog 28 #[va, vb] w (BoolPost (la == lb) w) := by
  intro w hw; obtain ⟨A, ca, rfl, hca, hma, hea⟩ := ha; obtain ⟨B, cb, rfl, hcb, hmb, heb⟩ := hb; have hla : la.length ≤ 9223372036854775807 := (by unfold maxLen at hma; omega); have hlb : lb.length ≤ 9223372036854775807 := (by unfold maxLen at hmb; omega); have HW0 := Lib.hid hw; have hsz0 := hw.size; clear hw hca hma hcb hmb; by_cases hlen : la.length = lb.length
  · have hd : ((la.length : Int) != (lb.length : Int)) = false := by simp [hlen]
    have HL := Lib.hid hlen; clear hlen; go_enter Tryz.func28, Tryz.ntmps28
    go_wp2_with fail
    go_loopg [5] la.length (fun g v wr => ∃ k : Nat, k + g = la.length ∧ v = .int .i64 k ∧ SameTo (fun a b => a == b) la lb k ∧ Below w.heap.size w wr)
    case atStart => exact ⟨0, by omega, rfl, SameTo.zero, Below.refl _ _⟩
    case round =>
      obtain ⟨k, hkg, rfl, hto, hbw⟩ := hrel; obtain ⟨wq, rfl⟩ : ∃ W, W = wr := ⟨_, rfl⟩; have HK := Lib.hid hkg; have HW := Lib.hid hbw; have HT := Lib.hid hto; have hkl : k ≤ la.length := (by omega); clear hkg hbw hto; by_cases hlt : k < la.length
      · have hlt2 : k < lb.length := by have := HL.out; omega
        obtain ⟨x, hx⟩ : ∃ x, la[k]? = some x := ⟨_, List.getElem?_eq_getElem hlt⟩; obtain ⟨y, hy⟩ : ∃ y, lb[k]? = some y := ⟨_, List.getElem?_eq_getElem hlt2⟩; obtain ⟨L, hEL, rfl, _⟩ := hea k x hx; obtain ⟨M, hEM, rfl, _⟩ := heb k y hy; have HB0 := Lib.hid (HW0.out.trans (HW.out.mono hsz0)); obtain ⟨a, rfl, hab, haa, d0⟩ := elem1 (hEL.under HB0.out); obtain ⟨b, rfl, hbb, hba, e0⟩ := elem1 (hEM.under HB0.out); rw [Nat.mul_one] at d0 e0; have HX := Lib.hid hx; have HY := Lib.hid hy; clear hEL hEM hea heb hx hy; by_cases hxy : x = y
        · subst hxy; go_wp2_with fail
          go_quiet (fail)
          go_wp2_with fail
          go_roundg (la.length - (k + 1))
          case measure => have := HK.out; omega
          case rel => exact ⟨k + 1, by omega, by go_num, HT.out.succ HX.out HY.out (by simp), below_drewN HW.out _⟩
        · have HXY := Lib.hid hxy; have hne : ((str x).toList == (str y).toList) = false := (by rw [str_toL, str_toL]; simpa using hxy); have hne2 : ((str x).toList != (str y).toList) = true := (by rw [str_toL, str_toL]; simpa using hxy); clear hxy; go_wp2_with fail
          go_quiet (fail)
          go_wp2_with fail
          go_ret
          exact ⟨ret_bool (by
            have : la ≠ lb := fun e => HXY.out (by have h1 := HX.out; rw [e, HY.out] at h1; exact (Option.some.inj h1).symm); simp [this]), below_drewN HW.out _⟩
      · have hke : k = la.length := by omega
        have HKE := Lib.hid hke; clear hke; go_wp2_with fail
        go_ret; exact ⟨ret_bool (by rw [eq_take HL.out HT.out HKE.out]; simp), HW.out⟩
  · have hd : ((la.length : Int) != (lb.length : Int)) = true := by simp; omega
    have HL := Lib.hid hlen; clear hlen; go_enter Tryz.func28, Tryz.ntmps28
    go_wp2_with fail
    go_ret
    exact ⟨ret_bool (by
      have : la ≠ lb := fun e => HL.out (by rw [e]); simp [this]), Below.refl _ _⟩
end Go.Proofs.YtlhmdjhfmhkllaaGreatDoor
namespace Go.Proofs.YtlhmdjhfmhkllaaGreatDoor
open Go.RowKit
theorem sameX_no {o o' n n' : Int} {a a' : Tx} {c c' : List Tx} {k k' : List Ex} (h : ¬ (o = o' ∧ a = a' ∧ n = n' ∧ c = c')) : sameX (.mk o a n c k) (.mk o' a' n' c' k') = false := by
  rw [Bool.eq_false_iff]; intro e; rw [sameX_iff] at e; injection e with e1 e2 e3 e4 _; exact h ⟨e1, e2, e3, e4⟩
theorem sameX_len {o o' n n' : Int} {a a' : Tx} {c c' : List Tx} {k k' : List Ex} (h : k.length ≠ k'.length) : sameX (.mk o a n c k) (.mk o' a' n' c' k') = false := by
  rw [Bool.eq_false_iff]; intro e; rw [sameX_iff] at e; injection e with _ _ _ _ e5; exact h (by rw [e5])
theorem sameX_ks {o n : Int} {a : Tx} {c : List Tx} {k k' : List Ex} : sameX (.mk o a n c k) (.mk o a n c k') = sameBy sameX k k' := by
  simp [sameX, sameXs_by]
set_option maxHeartbeats 2000000 in
set_option maxRecDepth 100000 in
theorem rSameExpr_any {w0 : World} : ∀ (x : Ex) (y : Ex) (L M : List Value), ExAt w0 L x → ExAt w0 M y → ∀ w, Below w0.heap.size w0 w → Calls Tryz.prog 12 #[.agg L.toArray, .agg M.toArray] w (BoolPost (sameX x y) w) := by
  intro x; induction x using Ex.ind with
  | h o a n c ks ih =>
    intro y L M hL hM w hw; obtain ⟨o', a', n', c', ks'⟩ := y; obtain ⟨cv, kv, rfl, _, _, _, hc, hk⟩ := hL.open_; obtain ⟨cv', kv', rfl, _, _, _, hc', hk'⟩ := hM.open_; have HC := Lib.hid (rSameNames_any hc hc'); obtain ⟨A1, m1, k1, rfl⟩ := SliceAt.shape hc; obtain ⟨A2, m2, k2, rfl⟩ := SliceAt.shape hc'; obtain ⟨A, ca, rfl, _, hma, hea⟩ := hk; obtain ⟨B, cb, rfl, _, hmb, heb⟩ := hk'; have hla : ks.length ≤ 9223372036854775807 := (by unfold maxLen at hma; omega); have hlb : ks'.length ≤ 9223372036854775807 := (by unfold maxLen at hmb; omega); have HEA := Lib.hid hea; have HEB := Lib.hid heb; have HIH := Lib.hid ih; have HW := Lib.hid hw; have hsz := hw.size; clear hL hM hw hc hc' hma hmb hea heb ih; by_cases e0 : o = o'
    · subst e0; by_cases e1 : a = a'
      · subst e1; by_cases e2 : n = n'
        · subst e2; by_cases e3 : c = c'
          · subst e3; rw [show (c == c) = true by simp] at HC; by_cases e4 : ks.length = ks'.length
            · have hd : ((ks.length : Int) != (ks'.length : Int)) = false := by simp [e4]
              have HL := Lib.hid e4; clear e4; go_enter Tryz.func12, Tryz.ntmps12
              go_wp2_with (go_at_call 28
                           refine (HC.out _ ((HW.out.alloc hsz _).alloc (by simp; omega) _)).mono ?_; rintro e w1 ⟨rfl, hb1⟩; have hs1 := hb1.size; simp only [World.size_alloc] at hs1; have bx := box_a hb1; have by_ := box_b hb1; obtain ⟨p0, p1, p2, p3, p4⟩ := row5 bx; obtain ⟨r0, r1, r2, r3, r4⟩ := row5 by_; have BX := Lib.hid bx; have BY := Lib.hid by_; have HB1 := Lib.hid ((((Below.refl _ w).alloc (Nat.le_refl _) _).alloc (by simp) _).trans (hb1.mono (by simp; omega))); clear hb1 bx by_)
              clear p0 p1 p2 p3 p4 r0 r1 r2 r3 r4; go_loopg [5] ks.length (fun g v wr => ∃ k : Nat, k + g = ks.length ∧ v = .int .i64 k ∧ SameTo sameX ks ks' k ∧ Below w1.heap.size w1 wr)
              case atStart => exact ⟨0, by omega, rfl, SameTo.zero, Below.refl _ _⟩
              case round =>
                obtain ⟨k, hkg, rfl, hto, hbw⟩ := hrel; obtain ⟨wq, rfl⟩ : ∃ W, W = wr := ⟨_, rfl⟩; have HK := Lib.hid hkg; have HT := Lib.hid hto; have HW1 := Lib.hid hbw; have HQ := Lib.hid (HB1.out.trans (hbw.mono (by omega))); have HBQ := Lib.hid (HW.out.trans (HQ.out.mono hsz)); have bx := box_next hbw BX.out; have by_ := box_next hbw BY.out; obtain ⟨p0, p1, p2, p3, p4⟩ := row5 bx; obtain ⟨r0, r1, r2, r3, r4⟩ := row5 by_; have hkl : k ≤ ks.length := (by omega); clear hkg hto hbw bx by_; by_cases hlt : k < ks.length
                · have hlt2 : k < ks'.length := by have := HL.out; omega
                  obtain ⟨x, hx⟩ : ∃ x, ks[k]? = some x := ⟨_, List.getElem?_eq_getElem hlt⟩; obtain ⟨y, hy⟩ : ∃ y, ks'[k]? = some y := ⟨_, List.getElem?_eq_getElem hlt2⟩; obtain ⟨X, hEX, hRX⟩ := HEA.out k x hx; obtain ⟨Y, hEY, hRY⟩ := HEB.out k y hy; have HF := Lib.hid (HIH.out x (List.mem_of_getElem? hx) y X Y hRX hRY); obtain ⟨x0, x1, x2, X3, x4, x5, X6, x7, x8, rfl⟩ := hRX.shape; obtain ⟨y0, y1, y2, Y3, y4, y5, Y6, y7, y8, rfl⟩ := hRY.shape; obtain ⟨a1, rfl, hab, haa, d0, d1, d2, d3, d4⟩ := elem5 (hEX.under HBQ.out); obtain ⟨b1, rfl, hbb, hba, f0, f1, f2, f3, f4⟩ := elem5 (hEY.under HBQ.out); have HX := Lib.hid hx; have HY := Lib.hid hy; clear hx hy hEX hEY hRX hRY; cases hs : sameX x y
                  · have HS := Lib.hid hs; rw [hs] at HF; clear hs; go_wp2_with fail
                    go_region_with (go_at_call 12; refine (HF.out _ HBQ.out.drew).mono ?_; rintro e w2 ⟨rfl, hb2⟩)
                    all_goals go_wp2_with fail
                    all_goals go_ret
                    all_goals exact ⟨ret_bool (by rw [sameX_ks, sameBy_no HX.out HY.out HS.out]), HQ.out.drew.trans (hb2.mono HQ.out.size)⟩
                  · have HS := Lib.hid hs; rw [hs] at HF; clear hs; go_wp2_with fail
                    go_region_with (go_at_call 12; refine (HF.out _ HBQ.out.drew).mono ?_; rintro e w2 ⟨rfl, hb2⟩)
                    all_goals go_wp2_with fail
                    all_goals
                      go_roundg (ks.length - (k + 1))
                      case measure => have := HK.out; omega
                      case rel => exact ⟨k + 1, by omega, by go_num, HT.out.succ HX.out HY.out HS.out, HW1.out.drew.trans (hb2.mono HW1.out.size)⟩
                · have hke : k = ks.length := by omega
                  have HKE := Lib.hid hke; clear hke; go_wp2_with fail
                  go_ret; exact ⟨ret_bool (by rw [sameX_ks, HT.out.all HL.out HKE.out]), HQ.out⟩
            · have hd : ((ks.length : Int) != (ks'.length : Int)) = true := by simp; omega
              have HN := Lib.hid e4; clear e4; go_enter Tryz.func12, Tryz.ntmps12
              go_wp2_with (go_at_call 28; refine (HC.out _ ((HW.out.alloc hsz _).alloc (by simp; omega) _)).mono ?_; rintro e w1 ⟨rfl, hb1⟩; have bx := box_a hb1; have by_ := box_b hb1; obtain ⟨p0, p1, p2, p3, p4⟩ := row5 bx; obtain ⟨r0, r1, r2, r3, r4⟩ := row5 by_; have HB1 := Lib.hid ((((Below.refl _ w).alloc (Nat.le_refl _) _).alloc (by simp) _).trans (hb1.mono (by simp; omega))); clear hb1 bx by_)
              go_ret; exact ⟨ret_bool (by rw [sameX_len HN.out]), HB1.out⟩
          · have HN := Lib.hid e3; rw [show (c == c') = false by simpa using e3] at HC; clear e3; go_enter Tryz.func12, Tryz.ntmps12
            go_wp2_with (go_at_call 28; refine (HC.out _ ((HW.out.alloc hsz _).alloc (by simp; omega) _)).mono ?_; rintro e w1 ⟨rfl, hb1⟩; have bx := box_a hb1; have by_ := box_b hb1; obtain ⟨p0, p1, p2, p3, p4⟩ := row5 bx; obtain ⟨r0, r1, r2, r3, r4⟩ := row5 by_; have HB1 := Lib.hid ((((Below.refl _ w).alloc (Nat.le_refl _) _).alloc (by simp) _).trans (hb1.mono (by simp; omega))); clear hb1 bx by_)
            go_ret; exact ⟨ret_bool (by rw [sameX_no (fun h => HN.out h.2.2.2)]), HB1.out⟩
        · have HN := Lib.hid e2; have hd : (n != n') = true := (by simpa using e2); clear e2; go_enter Tryz.func12, Tryz.ntmps12
          go_wp2_with fail
          go_ret; exact ⟨ret_bool (by rw [sameX_no (fun h => HN.out h.2.2.1)]), ((Below.refl _ w).alloc (Nat.le_refl _) _).alloc (by simp) _⟩
      · have HN := Lib.hid e1; have hd : ((str a).toList != (str a').toList) = true := (by rw [str_toL, str_toL]; simpa using e1); have hd2 : ((str a).toList == (str a').toList) = false := (by rw [str_toL, str_toL]; simpa using e1); clear e1; go_enter Tryz.func12, Tryz.ntmps12
        go_wp2_with fail
        go_ret; exact ⟨ret_bool (by rw [sameX_no (fun h => HN.out h.2.1)]), ((Below.refl _ w).alloc (Nat.le_refl _) _).alloc (by simp) _⟩
    · have HN := Lib.hid e0; have hd : (o != o') = true := (by simpa using e0); clear e0; go_enter Tryz.func12, Tryz.ntmps12
      go_wp2_with fail
      go_ret; exact ⟨ret_bool (by rw [sameX_no (fun h => HN.out h.1)]), ((Below.refl _ w).alloc (Nat.le_refl _) _).alloc (by simp) _⟩
end Go.Proofs.YtlhmdjhfmhkllaaGreatDoor
