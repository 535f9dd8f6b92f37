/-
  Plain mathematics: what a name, a constructor, a word alone scans to.
-/
import Derived.Test.YthffigagnodnmaaGreatDoorSpec
namespace Go.Proofs.YthffigagnodnmaaGreatDoor

theorem moreB_plain {c : UInt8} (h : moreB c = true) : spaceB c = false ∧ c.toNat ≠ 10 ∧ c.toNat ≠ 45 := by
  simp only [moreB, smallB, greatB, digitB, spaceB, Bool.or_eq_true, Bool.and_eq_true, decide_eq_true_eq, Bool.or_eq_false_iff, decide_eq_false_iff_not] at h ⊢
  omega
theorem runL_all {l : List UInt8} (h : runL l = l.length) : ∀ c ∈ l, moreB c = true := by
  induction l with
  | nil => intro c hc; cases hc
  | cons x r ih =>
    simp only [runL, List.length_cons] at h
    split at h
    · rename_i hx
      intro c hc
      cases hc with
      | head => exact hx
      | tail _ hc => exact ih (by omega) c hc
    · omega
theorem all_runL {l : List UInt8} (h : ∀ c ∈ l, moreB c = true) : runL l = l.length := by
  induction l with
  | nil => rfl
  | cons x r ih =>
    simp only [runL, List.length_cons]
    rw [if_pos (h x (by simp)), ih fun c hc => h c (by simp [hc])]
theorem gapL_more {c : UInt8} {r : List UInt8} (h : moreB c = true) : gapL (c :: r) = 0 := by
  have := moreB_plain h
  refine gapL_none this.1 ?_
  rw [Bool.eq_false_iff]
  intro e
  simp [List.isPrefixOf] at e
  apply this.2.2
  rw [← e.1]; rfl
theorem posL_run {l : List UInt8} (h : ∀ c ∈ l, moreB c = true) (p : Int × Int) : posL l p = (p.1, p.2 + l.length) := by
  induction l generalizing p with
  | nil => simp [posL]
  | cons x r ih =>
    have := moreB_plain (h x (by simp))
    simp only [posL, if_neg this.2.1, List.length_cons]
    rw [ih fun c hc => h c (by simp [hc])]
    simp; omega
theorem word_run {l : List UInt8} (h : wordB l = true) : l ≠ [] ∧ l.length ≤ 24 ∧ runL l = l.length := by
  simp only [wordB, List.any_eq_true, beq_iff_eq] at h
  obtain ⟨x, hx, rfl⟩ := h
  have : ∀ y ∈ wordsL, y ≠ [] ∧ y.length ≤ 24 ∧ runL y = y.length := by decide +kernel
  exact this l hx
theorem fit_run {l : List UInt8} (h : fitB l = true) : l ≠ [] ∧ l.length ≤ 24 ∧ runL l = l.length := by
  simp [fitB] at h
  refine ⟨?_, by omega, h.2⟩
  intro e; subst e; simp at h
/-- the sort of a text that is a name, a constructor or a word; 0: it is none -/
def kindL (l : List UInt8) : Int := if wordB l then 5 else if conB l then 2 else if nameB l then 1 else 0
theorem kind_run {l : List UInt8} (h : kindL l ≠ 0) : l ≠ [] ∧ l.length ≤ 24 ∧ runL l = l.length := by
  unfold kindL at h
  split at h
  · exact word_run (by assumption)
  · split at h
    · rename_i hc; simp only [conB, Bool.and_eq_true] at hc; exact fit_run hc.1
    · split at h
      · rename_i hn; simp only [nameB, Bool.and_eq_true] at hn; exact fit_run hn.1.1
      · exact absurd rfl h
theorem name_not_con {l : List UInt8} (h : nameB l = true) : conB l = false := by
  simp only [nameB, conB, Bool.and_eq_true, Bool.and_eq_false_iff, smallB, greatB, decide_eq_true_eq, decide_eq_false_iff_not] at h ⊢
  right; omega
theorem kind_sort {l : List UInt8} (h : kindL l ≠ 0) : sortL l = kindL l ∧ numL l = 0 := by
  unfold kindL at h ⊢
  by_cases hw : wordB l = true
  · simp [sortL, numL, hw]
  · by_cases hn : nameB l = true
    · have hc := name_not_con hn
      simp [sortL, numL, hw, hn, hc]
    · by_cases hc : conB l = true
      · simp [sortL, numL, hw, hn, hc]
      · simp [hw, hn, hc] at h
theorem sortL_kind {l : List UInt8} (h : kindL l = 0) : sortL l = 3 ∨ sortL l = 0 := by
  unfold kindL at h
  by_cases hw : wordB l = true
  · simp [hw] at h
  · by_cases hc : conB l = true
    · simp [hw, hc] at h
    · by_cases hn : nameB l = true
      · simp [hw, hc, hn] at h
      · unfold sortL
        simp only [hw, hn, hc]
        by_cases hl : litB l = true
        · simp [hl]
        · simp [hl]
theorem tok_whole {l : List UInt8} (h : l ≠ []) (hr : runL l = l.length) : tokSort l = sortL l ∧ tokText l = l ∧ tokNum l = numL l := by
  have hp := List.length_pos_iff.2 h
  have h0 : runL l ≠ 0 := by omega
  have ht : l.take (runL l) = l := by rw [hr]; exact List.take_length
  unfold tokSort tokText tokNum
  rw [if_neg h, if_neg h0, if_neg h0, if_neg h0, ht]
  exact ⟨rfl, rfl, rfl⟩
theorem scan_kind {l : List UInt8} (h : kindL l ≠ 0) : scanAll l = ([⟨kindL l, l, 0, 1, 1⟩, ⟨6, [], 0, 1, 1 + l.length⟩], none) := by
  obtain ⟨hne, _, hr⟩ := kind_run h
  obtain ⟨hs, hn⟩ := kind_sort h
  obtain ⟨t1, t2, t3⟩ := tok_whole hne hr
  have hall := runL_all hr
  have hg : gapL l = 0 := by
    cases l with
    | nil => exact absurd rfl hne
    | cons c r => exact gapL_more (hall c (by simp))
  have h6 := sortL_ne6 l
  unfold scanAll
  rw [scanF_tok (by rw [hg, List.drop_zero, t1, hs]; exact h) (by rw [hg, List.drop_zero, t1]; exact h6)]
  rw [hg, List.drop_zero, t2, List.take_zero, List.take_length, List.drop_length]
  obtain ⟨f, hf⟩ : ∃ f, l.length = f + 1 := ⟨l.length - 1, by have := List.length_pos_iff.2 hne; omega⟩
  rw [hf, scanF_end (by rw [List.drop_nil]; exact tokSort_end)]
  simp only [List.drop_nil, List.take_nil, posL, posL_run hall, tokAt, t1, t2, t3, hs, hn, tokSort_end]
  simp [hf, tokText, tokNum, runL, signL, signOf, signsL]
/-- the first token of a text's tokens is as its text says -/
theorem scanF_sorts {f : Nat} : ∀ {l : List UInt8} {p : Int × Int}, ∀ t ∈ (scanF f l p).1, t.sort = 6 ∨ t.sort = 4 ∨ (t.sort = sortL t.text ∧ t.sort ≠ 0) := by
  induction f with
  | zero => intro l p t ht; simp [scanF] at ht
  | succ f ih =>
    intro l p t ht
    by_cases h0 : tokSort (l.drop (gapL l)) = 0
    · rw [scanF_none h0] at ht; simp at ht
    · have one : ∀ q, (tokAt (l.drop (gapL l)) q).sort = 6 ∨ (tokAt (l.drop (gapL l)) q).sort = 4 ∨ ((tokAt (l.drop (gapL l)) q).sort = sortL (tokAt (l.drop (gapL l)) q).text ∧ (tokAt (l.drop (gapL l)) q).sort ≠ 0) := by
        intro q
        simp only [tokAt]
        by_cases he : l.drop (gapL l) = []
        · left; rw [he]; exact tokSort_end
        · right
          by_cases hr : runL (l.drop (gapL l)) = 0
          · left
            unfold tokSort at h0 ⊢
            rw [if_neg he, if_pos hr] at h0 ⊢
            split
            · rename_i hs; rw [if_pos hs] at h0; exact absurd rfl h0
            · rfl
          · right
            refine ⟨?_, h0⟩
            unfold tokSort tokText
            rw [if_neg he, if_neg hr, if_neg hr]
      by_cases h6 : tokSort (l.drop (gapL l)) = 6
      · rw [scanF_end h6] at ht
        simp only [List.mem_singleton] at ht
        rw [ht]; exact one _
      · rw [scanF_tok h0 h6] at ht
        simp only [List.mem_cons] at ht
        rcases ht with rfl | ht
        · exact one _
        · exact ih t ht
theorem scanF_two {f : Nat} {l : List UInt8} {p : Int × Int} {t u : Tok} {r : List Tok} (h : (scanF f l p).1 = t :: u :: r) : t.sort ≠ 6 := by
  cases f with
  | zero => simp [scanF] at h
  | succ f =>
    by_cases h0 : tokSort (l.drop (gapL l)) = 0
    · rw [scanF_none h0] at h; cases h
    · by_cases h6 : tokSort (l.drop (gapL l)) = 6
      · rw [scanF_end h6] at h; cases h
      · rw [scanF_tok h0 h6] at h
        simp only [List.cons.injEq] at h
        rw [← h.1]; exact h6
/-- a text that is no name, constructor or word: what scans to one token is a literal or a sign -/
theorem scan_other {l : List UInt8} (h : kindL l = 0) {t u : Tok} (h2 : (scanAll l).1 = [t, u]) (ht : t.text = l) : t.sort = 3 ∨ t.sort = 4 := by
  have h1 := scanF_sorts (f := l.length + 1) (l := l) (p := (1, 1)) t (by show t ∈ (scanAll l).1; rw [h2]; simp)
  have h6 := scanF_two (f := l.length + 1) (l := l) (p := (1, 1)) h2
  rcases h1 with h1 | h1 | ⟨h1, h0⟩
  · exact absurd h1 h6
  · exact .inr h1
  · rw [ht] at h1
    rcases sortL_kind h with e | e
    · exact .inl (h1.trans e)
    · exact absurd (h1.trans e) h0
theorem scanF_ne {f : Nat} {l : List UInt8} {p : Int × Int} (h : (scanF f l p).2 = none) : 0 < (scanF f l p).1.length := by
  cases f with
  | zero => simp [scanF] at h
  | succ f =>
    by_cases h0 : tokSort (l.drop (gapL l)) = 0
    · rw [scanF_none h0] at h; cases h
    · by_cases h6 : tokSort (l.drop (gapL l)) = 6
      · rw [scanF_end h6]; simp
      · rw [scanF_tok h0 h6]; simp
theorem scanF_len {f : Nat} : ∀ {l : List UInt8} {p : Int × Int}, (scanF f l p).1.length ≤ f := by
  induction f with
  | zero => intro l p; simp [scanF]
  | succ f ih =>
    intro l p
    by_cases h0 : tokSort (l.drop (gapL l)) = 0
    · rw [scanF_none h0]; simp
    · by_cases h6 : tokSort (l.drop (gapL l)) = 6
      · rw [scanF_end h6]; simp
      · rw [scanF_tok h0 h6]
        simp only [List.length_cons]
        exact Nat.succ_le_succ ih
theorem kind_zero {l : List UInt8} (h : kindL l = 0) : nameB l = false ∧ conB l = false ∧ wordB l = false := by
  unfold kindL at h
  by_cases hw : wordB l = true
  · simp [hw] at h
  · by_cases hc : conB l = true
    · simp [hw, hc] at h
    · by_cases hn : nameB l = true
      · simp [hw, hc, hn] at h
      · simp at hw hc hn; exact ⟨hn, hc, hw⟩
theorem kind_cases {l : List UInt8} (h : kindL l ≠ 0) :
    (kindL l = 1 ∧ nameB l = true ∧ conB l = false ∧ wordB l = false) ∨ (kindL l = 2 ∧ nameB l = false ∧ conB l = true ∧ wordB l = false) ∨ (kindL l = 5 ∧ nameB l = false ∧ conB l = false ∧ wordB l = true) := by
  by_cases hw : wordB l = true
  · refine .inr (.inr ⟨by simp [kindL, hw], by simp [nameB, hw], ?_, hw⟩)
    have hall : ∀ y ∈ wordsL, conB y = false := by decide +kernel
    simp only [wordB, List.any_eq_true, beq_iff_eq] at hw
    obtain ⟨x, hx, rfl⟩ := hw
    exact hall l hx
  · have hw' : wordB l = false := by simpa using hw
    by_cases hc : conB l = true
    · refine .inr (.inl ⟨by simp [kindL, hw', hc], ?_, hc, hw'⟩)
      cases hn : nameB l
      · rfl
      · rw [name_not_con hn] at hc; cases hc
    · have hc' : conB l = false := by simpa using hc
      by_cases hn : nameB l = true
      · exact .inl ⟨by simp [kindL, hw', hc', hn], hn, hc', hw'⟩
      · simp [kindL, hw', hc', hn] at h
end Go.Proofs.YthffigagnodnmaaGreatDoor
