/-
  What the program has read so far: the reading's list and its set.
-/
import Derived.Test.YtifbdglhfoimjaaGreatDoorCauSpec
import Derived.Test.YtifbdglhfoimjaaGreatDoorSMap
import Derived.Test.YtifbdglhfoimjaaGreatDoorOwnStr
namespace Go.Proofs.YtifbdglhfoimjaaGreatDoor
open Go.RowKit

theorem OwnS.keep {B : Nat} {w w' : World} {v : Value} {l : List Tx} (h : OwnS B w v l) (hk : ∀ g o, v.ownBlock = some g → w.heap[g]? = some o → w'.heap[g]? = some o) : OwnS B w' v l := by
  obtain ⟨⟨h1, h2⟩, h3⟩ := h
  refine ⟨⟨h1, ?_⟩, h3⟩
  rcases h2 with h2 | ⟨g, cap, cur, rfl, hg, hh, hr⟩
  · exact .inl h2
  · exact .inr ⟨g, cap, cur, rfl, hg, hk g _ rfl hh, hr⟩
theorem OwnS.block {B : Nat} {w : World} {v : Value} {l : List Tx} (h : OwnS B w v l) {g : Nat} (hg : v.ownBlock = some g) : B ≤ g ∧ ∃ cur, w.heap[g]? = some (.cells cur 9 (0, 0)) := by
  rcases h.1.2 with ⟨rfl, _⟩ | ⟨g', cap, cur, rfl, hb, hh, _⟩
  · simp [Value.ownBlock] at hg
  · obtain rfl : g' = g := by simpa [Value.ownBlock] using hg
    exact ⟨hb, cur, hh⟩
def markS (l : List Tx) : List (Tx × Value) := l.map fun s => (s, .agg #[])
theorem markS_keys (l : List Tx) : (markS l).map Prod.fst = l := by
  unfold markS
  rw [List.map_map]
  induction l with
  | nil => rfl
  | cons x r ih => rw [List.map_cons, ih]; rfl
theorem markS_snoc (l : List Tx) (s : Tx) : markS (l ++ [s]) = markS l ++ [(s, .agg #[])] := by simp [markS]
/-- block N is a reading that holds the names l; its own blocks lie from B on -/
def RdAt (N B : Nat) (w : World) (l : List Tx) : Prop := ∃ v m, w.heap[N]? = some (.cells #[v, .map (some m)] 51 (0, 0)) ∧ OwnS B w v l ∧ MapAt w m (markS l) ∧ B ≤ m ∧ B ≤ N
/-- but for N, the strings' rows and the maps, all that lay there is kept -/
def RdKept (N B : Nat) (W w' : World) : Prop := Below B W w' ∧ ∀ (g : Nat) cs T0, T0 ≠ 9 → g ≠ N → W.heap[g]? = some (.cells cs T0 (0, 0)) → w'.heap[g]? = some (.cells cs T0 (0, 0))
theorem RdKept.refl (N B : Nat) (w : World) : RdKept N B w w := ⟨Below.refl _ _, fun _ _ _ _ _ h => h⟩
theorem RdKept.trans {N B : Nat} {a b c : World} (h : RdKept N B a b) (g : RdKept N B b c) : RdKept N B a c := ⟨h.1.trans g.1, fun k cs T0 h1 h2 h3 => g.2 k cs T0 h1 h2 (h.2 k cs T0 h1 h2 h3)⟩
theorem RdKept.of_below {N B : Nat} {a b : World} (h : Below a.heap.size a b) (hB : B ≤ a.heap.size) : RdKept N B a b := ⟨h.mono hB, fun g _ _ _ _ h3 => (h.block g (lt_of_heap h3)).trans h3⟩
theorem RdKept.drew {N B : Nat} {a b : World} (h : RdKept N B a b) : RdKept N B a b.drew := ⟨h.1.drew, h.2⟩
theorem RdAt.lt {N B : Nat} {w : World} {l : List Tx} (h : RdAt N B w l) : N < w.heap.size := by
  obtain ⟨v, m, h1, _⟩ := h
  exact lt_of_heap h1
theorem RdAt.under {N B : Nat} {w w' : World} {l : List Tx} (h : RdAt N B w l) (hb : Below w.heap.size w w') : RdAt N B w' l := by
  obtain ⟨v, m, h1, h2, h3, h4⟩ := h
  exact ⟨v, m, (hb.block N (lt_of_heap h1)).trans h1, h2.under hb, h3.under hb, h4⟩
/-- what a call that collects leaves -/
def RdPost (N B : Nat) (l : List Tx) (W : World) (e : Ending) (w' : World) : Prop := e = .returned (.tuple #[]) ∧ RdAt N B w' l ∧ RdKept N B W w'
end Go.Proofs.YtifbdglhfoimjaaGreatDoor
