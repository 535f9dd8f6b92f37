import Derived.Test.YtmceablhndldiaaGreatDoorSx20b
namespace Go.Sx
open Classical
/-- what the last operation of a set, in the text's order, left at a place that W writes -/
noncomputable def atS {α : Type} (val : Nat → α) (W S : Nat → Prop) : Nat → α
  | 0 => val 0
  | j + 1 => if S j ∧ W j then val (j + 1) else atS val W S j
section
variable {α : Type} {val : Nat → α} {W S : Nat → Prop}
theorem atS_all : ∀ {N : Nat}, (∀ j, j < N → ¬ W j → val (j + 1) = val j) → (∀ j, j < N → S j) → atS val W S N = val N
  | 0, _, _ => rfl
  | N + 1, hst, h => by
    unfold atS
    by_cases hw : W N
    · rw [if_pos ⟨h N (by omega), hw⟩]
    · rw [if_neg fun h => hw h.2, hst N (by omega) hw]
      exact atS_all (fun j hj => hst j (by omega)) fun j hj => h j (by omega)
theorem atS_none : ∀ {N : Nat}, (∀ j, j < N → S j → ¬ W j) → atS val W S N = val 0
  | 0, _ => rfl
  | N + 1, h => by
    unfold atS
    rw [if_neg fun hh => h N (by omega) hh.1 hh.2]
    exact atS_none fun j hj => h j (by omega)
/-- no operation of the set behind j writes the place -/
theorem atS_behind : ∀ {N j : Nat}, j ≤ N → (∀ k, j ≤ k → k < N → S k → ¬ W k) → atS val W S N = atS val W S j
  | 0, j, hj, _ => by rw [show j = 0 by omega]
  | N + 1, j, hj, h => by
    rcases Nat.lt_or_ge N j with hlt | hge
    · rw [show j = N + 1 by omega]
    · show (if S N ∧ W N then val (N + 1) else atS val W S N) = _
      rw [if_neg fun hh => h N hge (by omega) hh.1 hh.2]
      exact atS_behind hge fun k h1 h2 => h k h1 (by omega)
/-- what lies at a place ahead of j: those ahead of j in the text that are not in the set don't write it, nor do those of the set behind j -/
theorem atS_read : ∀ {j : Nat}, (∀ i, i < j → ¬ W i → val (i + 1) = val i) → (∀ i, i < j → ¬ S i → ¬ W i) → atS val W S j = val j
  | 0, _, _ => rfl
  | j + 1, hst, h => by
    unfold atS
    by_cases hw : W j
    · have hs : S j := Classical.byContradiction fun hs => h j (by omega) hs hw
      rw [if_pos ⟨hs, hw⟩]
    · rw [if_neg fun h => hw h.2, hst j (by omega) hw]
      exact atS_read (fun i hi => hst i (by omega)) fun i hi => h i (by omega)
theorem atS_put {j : Nat} (hj : ¬ W j) : ∀ {N : Nat}, atS val W (fun k => S k ∨ k = j) N = atS val W S N
  | 0 => rfl
  | N + 1 => by
    simp only [atS]
    rw [atS_put hj]
    by_cases hw : W N
    · have hn : N ≠ j := fun e => hj (e ▸ hw)
      simp [hn]
    · simp [hw]
theorem atS_wrote {j N : Nat} (hjN : j < N) (hj : W j) (hb : ∀ k, j < k → k < N → S k → ¬ W k) : atS val W (fun k => S k ∨ k = j) N = val (j + 1) := by
  rw [atS_behind (j := j + 1) hjN fun k h1 h2 h3 => hb k h1 h2 (h3.resolve_right (by omega))]
  unfold atS
  rw [if_pos ⟨.inr rfl, hj⟩]
end
end Go.Sx
