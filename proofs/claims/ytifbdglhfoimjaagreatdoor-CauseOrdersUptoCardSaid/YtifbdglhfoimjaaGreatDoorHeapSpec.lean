/-
  Plain mathematics: a list as a heap, the least number first: what a swap, a climb and a sinking keep.
-/
import Derived.Test.YtifbdglhfoimjaaGreatDoorCauSpec
namespace Go.Proofs.YtifbdglhfoimjaaGreatDoor

def swapL (l : List Int) (i j : Nat) : List Int := (l.set i (l.getD j 0)).set j (l.getD i 0)
theorem swapL_len (l : List Int) (i j : Nat) : (swapL l i j).length = l.length := by simp [swapL]
theorem swapL_get {l : List Int} {i j : Nat} (hi : i < l.length) (hj : j < l.length) (k : Nat) : (swapL l i j).getD k 0 = if k = j then l.getD i 0 else if k = i then l.getD j 0 else l.getD k 0 := by
  simp only [swapL, List.getD_eq_getElem?_getD, List.getElem?_set, List.length_set]
  by_cases h1 : k = j
  · subst h1
    simp [hj]
  · rw [if_neg (fun e => h1 e.symm), if_neg h1]
    by_cases h2 : k = i
    · subst h2
      simp [hi]
    · rw [if_neg (fun e => h2 e.symm), if_neg h2]
theorem count_set {l : List Int} : ∀ {i : Nat} (_ : i < l.length) (v x : Int), (l.set i v).count x + (if l.getD i 0 = x then 1 else 0) = l.count x + (if v = x then 1 else 0) := by
  induction l with
  | nil => intro i h; simp at h
  | cons a r ih =>
    intro i h v x
    cases i with
    | zero =>
      simp only [List.set_cons_zero, List.count_cons, List.getD_cons_zero]
      simp only [beq_iff_eq]
      omega
    | succ i =>
      have := ih (i := i) (by simpa using h) v x
      simp only [List.set_cons_succ, List.count_cons, List.getD_cons_succ]
      omega
theorem swapL_perm {l : List Int} {i j : Nat} (hi : i < l.length) (hj : j < l.length) : (swapL l i j).Perm l := by
  rw [List.perm_iff_count]
  intro x
  have h1 := count_set hi (l.getD j 0) x
  have h2 := count_set (l := l.set i (l.getD j 0)) (i := j) (by simpa using hj) (l.getD i 0) x
  have h3 : (l.set i (l.getD j 0)).getD j 0 = l.getD j 0 := by
    simp only [List.getD_eq_getElem?_getD, List.getElem?_set]
    split
    · rename_i e
      subst e
      simp [hi]
    · rfl
  rw [h3] at h2
  unfold swapL
  omega
/-- of the first n each is no less than the one above it, but for the one at j -/
def UpOk (l : List Int) (j : Nat) : Prop :=
  (∀ k, k < l.length → 0 < k → k ≠ j → l.getD ((k - 1) / 2) 0 ≤ l.getD k 0) ∧ ∀ k, k < l.length → 0 < k → 0 < j → (k - 1) / 2 = j → l.getD ((j - 1) / 2) 0 ≤ l.getD k 0
/-- of the first n each is no less than the one above it, but for those right below i -/
def DownOk (l : List Int) (n i : Nat) : Prop :=
  (∀ k, k < n → 0 < k → (k - 1) / 2 ≠ i → l.getD ((k - 1) / 2) 0 ≤ l.getD k 0) ∧ ∀ k, k < n → 0 < k → 0 < i → (k - 1) / 2 = i → l.getD ((i - 1) / 2) 0 ≤ l.getD k 0
def HeapL (l : List Int) (n : Nat) : Prop := ∀ k, k < n → 0 < k → l.getD ((k - 1) / 2) 0 ≤ l.getD k 0
theorem HeapL.least {l : List Int} {n : Nat} (h : HeapL l n) : ∀ k, k < n → l.getD 0 0 ≤ l.getD k 0 := by
  intro k
  induction k using Nat.strongRecOn with
  | _ k ih =>
    intro hk
    rcases Nat.eq_zero_or_pos k with rfl | h0
    · exact Int.le_refl _
    · exact Int.le_trans (ih ((k - 1) / 2) (by omega) (by omega)) (h k hk h0)
theorem UpOk.first {l : List Int} (h : UpOk l 0) : HeapL l l.length := fun k hk h0 => h.1 k hk h0 (by omega)
theorem UpOk.stop {l : List Int} {j : Nat} (h : UpOk l j) (hle : l.getD ((j - 1) / 2) 0 ≤ l.getD j 0) : HeapL l l.length := fun k hk h0 => by
  by_cases e : k = j
  · subst e; exact hle
  · exact h.1 k hk h0 e
theorem UpOk.push {l : List Int} (h : HeapL l l.length) (x : Int) : UpOk (l ++ [x]) l.length := by
  refine ⟨fun k hk h0 hne => ?_, fun k hk h0 hj e => ?_⟩
  · simp at hk
    have h1 : k < l.length := by omega
    have h2 : (k - 1) / 2 < l.length := by omega
    have := h k h1 h0
    simp only [List.getD_eq_getElem?_getD] at this ⊢
    rw [List.getElem?_append_left h1, List.getElem?_append_left h2]
    exact this
  · simp at hk
    omega
theorem UpOk.swap {l : List Int} {j : Nat} (h : UpOk l j) (hj : 0 < j) (hl : j < l.length) (hlt : l.getD j 0 < l.getD ((j - 1) / 2) 0) : UpOk (swapL l ((j - 1) / 2) j) ((j - 1) / 2) := by
  have hp : (j - 1) / 2 < l.length := by omega
  refine ⟨fun k hk h0 hne => ?_, fun k hk h0 hj2 e => ?_⟩
  · rw [swapL_len] at hk
    rw [swapL_get hp hl, swapL_get hp hl]
    by_cases e1 : k = j
    · subst e1
      rw [if_pos rfl, if_neg (by omega), if_pos rfl]
      omega
    · rw [if_neg e1, if_neg hne]
      by_cases e2 : (k - 1) / 2 = j
      · rw [if_pos e2]
        exact h.2 k hk h0 hj e2
      · rw [if_neg e2]
        by_cases e3 : (k - 1) / 2 = (j - 1) / 2
        · rw [if_pos e3]
          have := h.1 k hk h0 e1
          rw [e3] at this
          omega
        · rw [if_neg e3]
          exact h.1 k hk h0 e1
  · rw [swapL_len] at hk
    have hq : ((j - 1) / 2 - 1) / 2 < (j - 1) / 2 := by omega
    rw [swapL_get hp hl, swapL_get hp hl]
    rw [if_neg (by omega), if_neg (by omega)]
    have h5 := h.1 ((j - 1) / 2) hp hj2 (by omega)
    by_cases e1 : k = j
    · rw [if_pos e1]
      exact h5
    · rw [if_neg e1, if_neg (by omega)]
      have h6 := h.1 k hk h0 e1
      rw [e] at h6
      omega
theorem DownOk.stop {l : List Int} {n i : Nat} (h : DownOk l n i) (hs : ∀ k, k < n → 0 < k → (k - 1) / 2 = i → l.getD i 0 ≤ l.getD k 0) : HeapL l n := fun k hk h0 => by
  by_cases e : (k - 1) / 2 = i
  · rw [e]; exact hs k hk h0 e
  · exact h.1 k hk h0 e
/-- the last one in the place of the first -/
theorem DownOk.start {l : List Int} {n : Nat} (h : HeapL l (n + 1)) (hl : n < l.length) : DownOk (swapL l 0 n) n 0 := by
  refine ⟨fun k hk h0 hne => ?_, fun k hk h0 h1 => absurd h1 (by omega)⟩
  rw [swapL_get (by omega) hl, swapL_get (by omega) hl, if_neg (by omega), if_neg hne, if_neg (by omega), if_neg (by omega)]
  exact h k (by omega) h0
theorem DownOk.swap {l : List Int} {n i j : Nat} (h : DownOk l n i) (hn : n ≤ l.length) (hj : j < n) (hj0 : 0 < j) (hp : (j - 1) / 2 = i) (hlt : l.getD j 0 < l.getD i 0) (hmin : ∀ k, k < n → 0 < k → (k - 1) / 2 = i → l.getD j 0 ≤ l.getD k 0) : DownOk (swapL l i j) n j := by
  have hi : i < l.length := by omega
  have hjl : j < l.length := by omega
  refine ⟨fun k hk h0 hne => ?_, fun k hk h0 h1 e => ?_⟩
  · rw [swapL_get hi hjl, swapL_get hi hjl, if_neg hne]
    by_cases e1 : (k - 1) / 2 = i
    · rw [if_pos e1]
      by_cases e2 : k = j
      · rw [if_pos e2]; omega
      · rw [if_neg e2, if_neg (by omega)]
        exact hmin k hk h0 e1
    · rw [if_neg e1, if_neg (by omega)]
      by_cases e2 : k = i
      · rw [if_pos e2]
        have := h.2 j hj hj0 (by omega) hp
        rw [e2]
        exact this
      · rw [if_neg e2]
        exact h.1 k hk h0 e1
  · rw [swapL_get hi hjl, swapL_get hi hjl, hp, if_neg (by omega), if_pos rfl, if_neg (by omega), if_neg (by omega)]
    have := h.1 k hk h0 (by omega)
    rw [e] at this
    exact this
end Go.Proofs.YtifbdglhfoimjaaGreatDoor
