/-
  Plain mathematics of an order: each item behind those that it waits for, the least that can stand there first; and what a heap of those that can stand next keeps.
-/
import Derived.Test.YtifbdglhfoimjaaGreatDoorHeapSpec
namespace Go.Proofs.YtifbdglhfoimjaaGreatDoor

/-- an item can stand next -/
def Rdy (S : List (List Nat)) (out : List Nat) (r : Nat) : Prop := r < S.length ∧ r ∉ out ∧ ∀ d ∈ S.getD r [], d ∈ out
instance (S : List (List Nat)) (out : List Nat) (r : Nat) : Decidable (Rdy S out r) := inferInstanceAs (Decidable (_ ∧ _ ∧ _))
/-- the least that can stand next -/
def nextR (S : List (List Nat)) (out : List Nat) : Option Nat := (List.range S.length).find? (fun r => decide (Rdy S out r))
def ordF (S : List (List Nat)) : Nat → List Nat → List Nat
  | 0, out => out
  | f + 1, out => match nextR S out with
    | none => out
    | some b => ordF S f (out ++ [b])
def ordQ (S : List (List Nat)) : List Nat := ordF S S.length []
theorem range_find {n : Nat} {p : Nat → Bool} {b : Nat} (hb : b < n) (hp : p b = true) (hl : ∀ a, a < b → p a = false) : (List.range n).find? p = some b := by
  rw [List.find?_eq_some_iff_append]
  refine ⟨hp, List.range b, (List.range (n - b)).tail.map (b + ·), ?_, fun a ha => by simp [hl a (List.mem_range.1 ha)]⟩
  obtain ⟨k, hk⟩ : ∃ k, n = b + (k + 1) := ⟨n - b - 1, by omega⟩
  subst hk
  rw [show b + (k + 1) - b = k + 1 by omega, List.range_add, List.range_succ_eq_map]
  simp
theorem nextR_some {S : List (List Nat)} {out : List Nat} {b : Nat} (h : Rdy S out b) (hl : ∀ a, a < b → ¬ Rdy S out a) : nextR S out = some b :=
  range_find h.1 (by simpa using h) fun a ha => by simpa using hl a ha
theorem nextR_none {S : List (List Nat)} {out : List Nat} (h : ∀ a, ¬ Rdy S out a) : nextR S out = none := by
  unfold nextR
  rw [List.find?_eq_none]
  intro a _
  simpa using h a
theorem nextR_rdy {S : List (List Nat)} {out : List Nat} {b : Nat} (h : nextR S out = some b) : Rdy S out b := by
  have := List.find?_some h
  simpa using this
/-- what stands is there once, and so is all that it waits for -/
def OutOk (S : List (List Nat)) (out : List Nat) : Prop := out.Nodup ∧ ∀ r ∈ out, r < S.length ∧ ∀ d ∈ S.getD r [], d ∈ out
theorem OutOk.len {S : List (List Nat)} {out : List Nat} (h : OutOk S out) : out.length ≤ S.length := by
  have hm : ∀ x ∈ out, x ∈ List.range S.length := fun x hx => List.mem_range.2 (h.2 x hx).1
  simpa using nodup_le h.1 hm
theorem OutOk.next {S : List (List Nat)} {out : List Nat} {b : Nat} (h : OutOk S out) (hb : Rdy S out b) : OutOk S (out ++ [b]) := by
  refine ⟨?_, fun r hr => ?_⟩
  · rw [List.nodup_append]
    refine ⟨h.1, by simp, fun a ha c hc e => ?_⟩
    simp at hc
    subst hc
    subst e
    exact hb.2.1 ha
  · rcases List.mem_append.1 hr with hr | hr
    · obtain ⟨h1, h2⟩ := h.2 r hr
      exact ⟨h1, fun d hd => List.mem_append_left _ (h2 d hd)⟩
    · simp at hr
      subst hr
      exact ⟨hb.1, fun d hd => List.mem_append_left _ (hb.2.2 d hd)⟩
theorem OutOk.room {S : List (List Nat)} {out : List Nat} {b : Nat} (h : OutOk S out) (hb : Rdy S out b) : out.length < S.length := by
  have := (h.next hb).len
  simp at this
  omega
/-- how many of an item's sources don't stand yet -/
def missR (S : List (List Nat)) (out : List Nat) (r : Nat) : Nat := ((S.getD r []).filter (fun d => decide (d ∉ out))).length
theorem miss_zero {S : List (List Nat)} {out : List Nat} {r : Nat} : missR S out r = 0 ↔ ∀ d ∈ S.getD r [], d ∈ out := by
  unfold missR
  rw [List.length_eq_zero_iff, List.filter_eq_nil_iff]
  simp
theorem filter_less (p : Nat → Bool) {b : Nat} (hp : p b = true) (l : List Nat) : (l.filter p).length = (l.filter (fun d => p d && !(d == b))).length + l.count b := by
  induction l with
  | nil => rfl
  | cons d t ih =>
    rw [List.filter_cons, List.filter_cons, List.count_cons]
    by_cases h2 : d = b
    · subst h2
      rw [hp]
      simp
      omega
    · have h3 : (d == b) = false := by simpa using h2
      rw [h3]
      cases p d <;> simp <;> omega
theorem miss_next {S : List (List Nat)} {out : List Nat} {b r : Nat} (hb : b ∉ out) : missR S out r = missR S (out ++ [b]) r + (S.getD r []).count b := by
  unfold missR
  rw [filter_less (fun d => decide (d ∉ out)) (b := b) (by simpa using hb)]
  congr 2
  apply List.filter_congr
  intro d _
  simp only [List.mem_append, List.mem_singleton, not_or]
  by_cases h1 : d ∈ out <;> by_cases h2 : d = b <;> simp [h1, h2]
/-- between two items: what is missing, and what can stand next -/
structure OuterOk (S : List (List Nat)) (out : List Nat) (M : List Int) (H : List Int) : Prop where
  ook : OutOk S out
  len : M.length = S.length
  miss : ∀ r, r < S.length → M.getD r 0 = (missR S out r : Int)
  nodup : H.Nodup
  mem : ∀ z : Int, z ∈ H ↔ ∃ r : Nat, z = (r : Int) ∧ Rdy S out r
/-- behind the item b, the first j of its readers told -/
structure InnerOk (S : List (List Nat)) (out : List Nat) (b : Nat) (R : List Nat) (j : Nat) (M : List Int) (H : List Int) : Prop where
  ook : OutOk S out
  rdy : Rdy S out b
  reads : ∀ r, r < S.length → R.count r = (S.getD r []).count b
  below : ∀ r ∈ R, r < S.length
  len : M.length = S.length
  miss : ∀ r, r < S.length → M.getD r 0 = (missR S out r : Int) - ((R.take j).count r : Int)
  nodup : H.Nodup
  mem : ∀ z : Int, z ∈ H ↔ ∃ r : Nat, z = (r : Int) ∧ r < S.length ∧ ((Rdy S out r ∧ r ≠ b) ∨ (r ∈ R.take j ∧ missR S out r = (R.take j).count r))
theorem OuterOk.least {S : List (List Nat)} {out : List Nat} {M H : List Int} (h : OuterOk S out M H) (hh : HeapL H H.length) (h0 : 0 < H.length) : ∃ b : Nat, H.getD 0 0 = (b : Int) ∧ Rdy S out b ∧ nextR S out = some b := by
  have hm : H.getD 0 0 ∈ H := by
    rw [List.getD_eq_getElem?_getD, List.getElem?_eq_getElem h0]
    exact List.getElem_mem h0
  obtain ⟨b, hb, hr⟩ := (h.mem _).1 hm
  refine ⟨b, hb, hr, nextR_some hr fun a ha hra => ?_⟩
  obtain ⟨k, hk, hk2⟩ := List.getElem_of_mem ((h.mem (a : Int)).2 ⟨a, rfl, hra⟩)
  have := hh.least k hk
  rw [hb, List.getD_eq_getElem?_getD, List.getElem?_eq_getElem hk] at this
  simp [hk2] at this
  omega
theorem OuterOk.pop {S : List (List Nat)} {out : List Nat} {M H H' : List Int} {b : Nat} {R : List Nat} (h : OuterOk S out M H) (hb : Rdy S out b) (hp : H.Perm ((b : Int) :: H')) (hR : ∀ r, r < S.length → R.count r = (S.getD r []).count b) (hl : ∀ r ∈ R, r < S.length) : InnerOk S out b R 0 M H' := by
  have hn := hp.nodup_iff.1 h.nodup
  rw [List.nodup_cons] at hn
  refine ⟨h.ook, hb, hR, hl, h.len, fun r hr => by rw [h.miss r hr]; simp, hn.2, fun z => ?_⟩
  have hz := h.mem z
  rw [hp.mem_iff, List.mem_cons] at hz
  constructor
  · intro hz'
    obtain ⟨r, e, hr⟩ := hz.1 (.inr hz')
    refine ⟨r, e, hr.1, .inl ⟨hr, fun e2 => ?_⟩⟩
    subst e2
    rw [e] at hz'
    exact hn.1 hz'
  · rintro ⟨r, e, _, ⟨hr, hne⟩ | ⟨hr, _⟩⟩
    · rcases hz.2 ⟨r, e, hr⟩ with h1 | h1
      · exact absurd (by omega) hne
      · exact h1
    · simp at hr
theorem take_count {R : List Nat} {j r : Nat} (h : R[j]? = some r) (x : Nat) : (R.take (j + 1)).count x = (R.take j).count x + (if x = r then 1 else 0) := by
  obtain ⟨hj, rfl⟩ := List.getElem?_eq_some_iff.1 h
  rw [List.take_succ_eq_append_getElem hj, List.count_append, List.count_singleton]
  by_cases e : x = R[j]
  · simp [e]
  · simp [e, Ne.symm e]
theorem take_count_le (R : List Nat) (j x : Nat) : (R.take j).count x ≤ R.count x := (List.take_sublist j R).count_le x
section
variable {S : List (List Nat)} {out : List Nat} {b : Nat} {R : List Nat} {j : Nat} {M H : List Int} {r : Nat}
theorem InnerOk.most (h : InnerOk S out b R j M H) {x : Nat} (hx : x < S.length) : (R.take j).count x ≤ missR S out x := by
  have h1 := take_count_le R j x
  rw [h.reads x hx] at h1
  have h2 := miss_next (S := S) (out := out) (b := b) (r := x) h.rdy.2.1
  omega
theorem InnerOk.more (h : InnerOk S out b R j M H) (hr : R[j]? = some r) : (R.take j).count r + 1 ≤ missR S out r := by
  have hl := h.below r (List.mem_of_getElem? hr)
  have h1 := take_count_le R (j + 1) r
  rw [take_count hr, if_pos rfl, h.reads r hl] at h1
  have h2 := miss_next (S := S) (out := out) (b := b) (r := r) h.rdy.2.1
  omega
theorem InnerOk.fresh (h : InnerOk S out b R j M H) (hr : R[j]? = some r) : (r : Int) ∉ H := by
  intro hm
  have h1 := h.more hr
  obtain ⟨x, e, hx, ⟨hx2, _⟩ | ⟨_, hx2⟩⟩ := (h.mem _).1 hm
  · have e : r = x := by omega
    subst e
    have := miss_zero.2 hx2.2.2
    omega
  · have e : r = x := by omega
    subst e
    omega
theorem InnerOk.down (h : InnerOk S out b R j M H) (hr : R[j]? = some r) : M.getD r 0 - 1 = (missR S out r : Int) - ((R.take (j + 1)).count r : Int) := by
  rw [h.miss r (h.below r (List.mem_of_getElem? hr)), take_count hr, if_pos rfl]
  omega
theorem InnerOk.misses (h : InnerOk S out b R j M H) (hr : R[j]? = some r) : ∀ x, x < S.length → (M.set r (M.getD r 0 - 1)).getD x 0 = (missR S out x : Int) - ((R.take (j + 1)).count x : Int) := by
  intro x hx
  have hl := h.below r (List.mem_of_getElem? hr)
  by_cases e : r = x
  · subst e
    rw [← h.down hr]
    simp [List.getD_eq_getElem?_getD, h.len, hl]
  · have : (M.set r (M.getD r 0 - 1)).getD x 0 = M.getD x 0 := by
      rw [List.getD_eq_getElem?_getD, List.getElem?_set, if_neg e, List.getD_eq_getElem?_getD]
    rw [this, h.miss x hx, take_count hr, if_neg (fun e2 => e e2.symm)]
    simp
theorem InnerOk.stay (h : InnerOk S out b R j M H) (hr : R[j]? = some r) (hne : M.getD r 0 - 1 ≠ 0) : InnerOk S out b R (j + 1) (M.set r (M.getD r 0 - 1)) H := by
  refine ⟨h.ook, h.rdy, h.reads, h.below, by simp [h.len], h.misses hr, h.nodup, fun z => ?_⟩
  rw [h.mem z]
  have hd := h.down hr
  rw [hd] at hne
  have hm := h.more hr
  rw [take_count hr, if_pos rfl] at hne
  constructor
  · rintro ⟨x, e, hx, h1 | ⟨h1, h2⟩⟩
    · exact ⟨x, e, hx, .inl h1⟩
    · refine ⟨x, e, hx, .inr ⟨?_, ?_⟩⟩
      · have := List.take_sublist_take_left (l := R) (Nat.le_succ j)
        exact this.subset h1
      · rw [take_count hr]
        have : x ≠ r := fun e2 => by subst e2; omega
        rw [if_neg this]
        omega
  · rintro ⟨x, e, hx, h1 | ⟨h1, h2⟩⟩
    · exact ⟨x, e, hx, .inl h1⟩
    · rw [take_count hr] at h2
      have hxr : x ≠ r := fun e2 => by subst e2; rw [if_pos rfl] at h2; omega
      rw [if_neg hxr] at h2
      refine ⟨x, e, hx, .inr ⟨?_, by omega⟩⟩
      have h3 := List.count_pos_iff.2 h1
      rw [take_count hr, if_neg hxr] at h3
      exact List.count_pos_iff.1 (by omega)
theorem InnerOk.push (h : InnerOk S out b R j M H) (hr : R[j]? = some r) (he : M.getD r 0 - 1 = 0) {H' : List Int} (hp : H'.Perm (H ++ [(r : Int)])) : InnerOk S out b R (j + 1) (M.set r (M.getD r 0 - 1)) H' := by
  have hf := h.fresh hr
  have hl := h.below r (List.mem_of_getElem? hr)
  have hd := h.down hr
  rw [he, take_count hr, if_pos rfl] at hd
  refine ⟨h.ook, h.rdy, h.reads, h.below, by simp [h.len], h.misses hr, ?_, fun z => ?_⟩
  · rw [hp.nodup_iff, List.nodup_append]
    refine ⟨h.nodup, by simp, fun a ha c hc e => ?_⟩
    simp at hc
    subst hc
    subst e
    exact hf ha
  · rw [hp.mem_iff, List.mem_append, h.mem z]
    constructor
    · rintro (⟨x, e, hx, h1 | ⟨h1, h2⟩⟩ | h1)
      · exact ⟨x, e, hx, .inl h1⟩
      · refine ⟨x, e, hx, .inr ⟨(List.take_sublist_take_left (l := R) (Nat.le_succ j)).subset h1, ?_⟩⟩
        have hm := h.more hr
        have : x ≠ r := fun e2 => by subst e2; omega
        rw [take_count hr, if_neg this]
        omega
      · simp at h1
        refine ⟨r, h1, hl, .inr ⟨?_, ?_⟩⟩
        · have h3 := take_count hr r
          rw [if_pos rfl] at h3
          exact List.count_pos_iff.1 (by omega)
        · rw [take_count hr, if_pos rfl]
          omega
    · rintro ⟨x, e, hx, h1 | ⟨h1, h2⟩⟩
      · exact .inl ⟨x, e, hx, .inl h1⟩
      · by_cases hxr : x = r
        · subst hxr
          exact .inr (by simp [e])
        · rw [take_count hr, if_neg hxr] at h2
          have h3 := List.count_pos_iff.2 h1
          rw [take_count hr, if_neg hxr] at h3
          exact .inl ⟨x, e, hx, .inr ⟨List.count_pos_iff.1 (by omega), by omega⟩⟩
theorem InnerOk.done (h : InnerOk S out b R j M H) (hj : j = R.length) : OuterOk S (out ++ [b]) M H := by
  have ht : R.take j = R := by rw [hj, List.take_length]
  refine ⟨h.ook.next h.rdy, h.len, fun r hr => ?_, h.nodup, fun z => ?_⟩
  · rw [h.miss r hr, ht, h.reads r hr, miss_next (b := b) h.rdy.2.1]
    omega
  · rw [h.mem z, ht]
    constructor
    · rintro ⟨x, e, hx, ⟨h1, h2⟩ | ⟨h1, h2⟩⟩
      · exact ⟨x, e, hx, by simp [h1.2.1, h2], fun d hd => List.mem_append_left _ (h1.2.2 d hd)⟩
      · have h3 := List.count_pos_iff.2 h1
        rw [h.reads x hx] at h3 h2
        have hb := List.count_pos_iff.1 h3
        have h4 := miss_next (S := S) (out := out) (b := b) (r := x) h.rdy.2.1
        refine ⟨x, e, hx, ?_, miss_zero.1 (by omega)⟩
        intro hm
        rcases List.mem_append.1 hm with hm | hm
        · exact h.rdy.2.1 ((h.ook.2 x hm).2 b hb)
        · simp at hm
          subst hm
          exact h.rdy.2.1 (h.rdy.2.2 x hb)
    · rintro ⟨x, e, hx⟩
      refine ⟨x, e, hx.1, ?_⟩
      have hno : x ∉ out := fun hm => hx.2.1 (List.mem_append_left _ hm)
      have hnb : x ≠ b := fun e2 => hx.2.1 (by simp [e2])
      have h0 := miss_zero.2 hx.2.2
      have h4 := miss_next (S := S) (out := out) (b := b) (r := x) h.rdy.2.1
      by_cases hc : b ∈ S.getD x []
      · right
        have h5 := List.count_pos_iff.2 hc
        rw [← h.reads x hx.1] at h5
        refine ⟨List.count_pos_iff.1 h5, ?_⟩
        rw [h.reads x hx.1]
        omega
      · left
        refine ⟨⟨hx.1, hno, fun d hd => ?_⟩, hnb⟩
        rcases List.mem_append.1 (hx.2.2 d hd) with h6 | h6
        · exact h6
        · simp at h6
          subst h6
          exact absurd hd hc
end
theorem ordF_step {S : List (List Nat)} {f : Nat} {out : List Nat} {b : Nat} (h : nextR S out = some b) : ordF S (f + 1) out = ordF S f (out ++ [b]) := by rw [ordF, h]
theorem ordF_end {S : List (List Nat)} {f : Nat} {out : List Nat} (h : nextR S out = none) : ordF S f out = out := by
  cases f with
  | zero => rfl
  | succ f => rw [ordF, h]
theorem OuterOk.last {S : List (List Nat)} {out : List Nat} {M H : List Int} (h : OuterOk S out M H) (h0 : H.length = 0) : nextR S out = none := by
  refine nextR_none fun a ha => ?_
  have := (h.mem (a : Int)).2 ⟨a, rfl, ha⟩
  rw [List.eq_nil_of_length_eq_zero h0] at this
  cases this
end Go.Proofs.YtifbdglhfoimjaaGreatDoor
