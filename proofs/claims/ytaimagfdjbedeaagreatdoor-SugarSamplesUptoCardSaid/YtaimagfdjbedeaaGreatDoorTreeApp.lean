/-
  An expression appended to a slice of the call's own.
-/
import Derived.Test.YtaimagfdjbedeaaGreatDoorTreeSamX
import Derived.Laws.AppendOwn
namespace Go.Proofs.YtaimagfdjbedeaaGreatDoor
open Go.RowKit

def zeroEx : Value := .agg #[.int .i64 0, .string ⟨#[]⟩, .int .i64 0, .slice none 0 0, .slice none 0 0]
theorem expr_info : (Tryz.prog.info? 25).map (fun i => (i.zero, i.size, i.bytes)) = some (some zeroEx, 5, 80) := by kernel_rfl
/-- a slice of the call's own that holds the expressions xs -/
def OwnE (w0 : World) (B : Nat) (w : World) (v : Value) (xs : List Ex) : Prop :=
  ∃ Ls : List (List Value), w.ownsRow B 25 5 v xs.length Ls.flatten ∧ Ls.length = xs.length ∧ ∀ (i : Nat) L x, Ls[i]? = some L → xs[i]? = some x → ExAt w0 L x
theorem OwnE.nil (w0 : World) (B : Nat) (w : World) : OwnE w0 B w (.slice none 0 0) [] := ⟨[], ⟨rfl, .inl ⟨rfl, rfl⟩⟩, rfl, fun i L x h => by simp at h⟩
theorem OwnE.snoc {w0 w' : World} {B : Nat} {v' : Value} {xs : List Ex} {x : Ex} {L : List Value} {Ls : List (List Value)} (hlen : Ls.length = xs.length) (hE : ∀ (i : Nat) L x, Ls[i]? = some L → xs[i]? = some x → ExAt w0 L x) (hx : ExAt w0 L x)
    (ho : w'.ownsRow B 25 5 v' (xs.length + 1) (Ls.flatten ++ L)) : OwnE w0 B w' v' (xs ++ [x]) := by
  refine ⟨Ls ++ [L], by simpa using ho, by simp [hlen], fun i M y hM hy => ?_⟩
  by_cases hi : i < Ls.length
  · rw [List.getElem?_append_left hi] at hM
    rw [List.getElem?_append_left (by omega)] at hy
    exact hE i M y hM hy
  · rw [List.getElem?_append_right (by omega)] at hM hy
    rw [hlen] at hM
    have h0 : i - xs.length = 0 := by
      rcases Nat.eq_zero_or_pos (i - xs.length) with h | h
      · exact h
      · rw [List.getElem?_eq_none (by simp; omega)] at hM; cases hM
    rw [h0] at hM hy
    cases hM; cases hy
    exact hx
theorem OwnE.grown {w0 w w' : World} {B : Nat} {v : Value} {xs : List Ex} (h : OwnE w0 B w v xs) (hk : ∀ Ls : List Value, w.ownsRow B 25 5 v xs.length Ls → w'.ownsRow B 25 5 v xs.length Ls) : OwnE w0 B w' v xs := by
  obtain ⟨Ls, h1, h2, h3⟩ := h
  exact ⟨Ls, hk _ h1, h2, h3⟩
theorem OwnE.alloc {w0 w : World} {B : Nat} {v : Value} {xs : List Ex} (h : OwnE w0 B w v xs) (o : Obj) : OwnE w0 B (w.alloc o) v xs := h.grown fun _ h => h.alloc _
/-- a block of another type than the row's is kept -/
theorem other_kept {w w' : World} {B n : Nat} {v : Value} {xs : List Value} {g : Nat} {cs : Array Value} {T : TypeId} (ho : w.ownsRow B 25 5 v n xs) (hg : w.grownBy w' v.ownBlock) (h : w.heap[g]? = some (.cells cs T (0, 0))) (hne : T ≠ 25) : w'.heap[g]? = some (.cells cs T (0, 0)) := by
  refine (hg.block g (lt_of_heap h) fun e => ?_).trans h
  rcases ho.2 with ⟨rfl, _⟩ | ⟨g', cap, cur, rfl, _, hh, _⟩
  · simp [Value.ownBlock] at e
  · have : g = g' := by simpa [Value.ownBlock] using e
    subst this
    rw [h] at hh
    injection hh with hh
    injection hh with _ ht
    exact hne ht
/-- what an append leaves -/
def AppE (w0 : World) (B : Nat) (xs : List Ex) (W : World) (v' : Value) (w' : World) : Prop :=
  OwnE w0 B w' v' xs ∧ Below B W w' ∧ ∀ (g : Nat) (cs : Array Value) (T : TypeId), T ≠ 25 → W.heap[g]? = some (.cells cs T (0, 0)) → w'.heap[g]? = some (.cells cs T (0, 0))
theorem append_expr {ops : Array Oper} {rest : List Oper} {o : Oper} {a : Act} {Q : Exit → Act → World → Prop} {W : World} {w0 : World} {B : Nat} {v : Value} {xs : List Ex} {x : Ex} {L : List Value} {N : Nat} (hgd : o.guard = none) (s y : Operand)
    (ho : o.op = .call { callee := .builtin .append, args := #[s, y], argTypes := #[23, 23] }) (hs : a.eval s = v) (hy : a.eval y = .slice (some ⟨N, 0, none⟩) 1 1)
    (hN : W.heap[N]? = some (.cells L.toArray 25 (0, 0))) (hO : OwnE w0 B W v xs) (hx : ExAt w0 L x) (hl : xs.length ≤ 2097152) (hB : B ≤ W.heap.size)
    (h : ∀ v' w', AppE w0 B (xs ++ [x]) W v' w' → wpList Tryz.prog ops Q rest (a.put o.dst v') w') : wpList Tryz.prog ops Q (o :: rest) a W := by
  obtain ⟨i0, hi, hz0, hz1, hz2⟩ := info_parts expr_info
  obtain ⟨Ls, hown, hlen, hE⟩ := hO
  refine wpList_append_own W hgd s y 23 ho B 25 i0 zeroEx 5 80 Tryz.underlying23 hi hz0 hz1 hz2 rfl (by decide) v xs.length Ls.flatten hs hown ⟨N, 0, none⟩ 1 1 L hy (by rw [hx.len]) (fun j u hj => ?_) (fun u hu => ?_) (by unfold maxLen; omega) (by omega) hB fun v' w' h1 h2 _ => h v' w' ⟨OwnE.snoc hlen hE hx h1, ?_, fun g cs T hne hg => other_kept hown h2 hg hne⟩
  · have hadd : (⟨N, 0, none⟩ : Addr).add j = ⟨N, j, none⟩ := by unfold Addr.add; split <;> simp_all
    rw [hadd, cell_of_row _ _ _ _ _ _ hN]
    simpa using hj
  · obtain ⟨o1, s1, n1, A1, m1, k1, A2, m2, k2, rfl⟩ := hx.shape
    simp at hu
    rcases hu with rfl | rfl | rfl | rfl | rfl <;> rfl
  · exact (Below.refl B W).grown h2 hB (fun j hj => (hown.lt j hj).1)
end Go.Proofs.YtaimagfdjbedeaaGreatDoor
