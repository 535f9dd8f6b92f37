/-
  Plain mathematics: the token that a text begins with, by its first byte.
-/
import Derived.Test.YtnoifghbcfoaaaaDoorNumSpec
import Derived.Test.YtnoifghbcfoaaaaDoorPlaceSpec
namespace Go.Proofs.YtnoifghbcfoaaaaDoor

def digL : List UInt8 → Nat
  | [] => 0
  | c :: r => if digitB c then digL r + 1 else 0
theorem digL_le_run (l : List UInt8) : digL l ≤ runL l := by
  induction l with
  | nil => simp [digL]
  | cons c r ih =>
    simp only [digL, runL]
    by_cases h : digitB c = true
    · rw [if_pos h, if_pos (by simp [moreB, h])]; omega
    · rw [if_neg h]; omega
theorem digL_dig (l : List UInt8) : AllDig (l.take (digL l)) := by
  induction l with
  | nil => intro c hc; simp at hc
  | cons x r ih =>
    simp only [digL]
    split
    · rename_i hx
      rw [List.take_succ_cons]
      intro c hc
      cases hc with
      | head => simp only [digitB, Bool.and_eq_true, decide_eq_true_eq] at hx; exact hx
      | tail _ hc => exact ih c hc
    · intro c hc; simp at hc
theorem digL_all {l : List UInt8} : ∀ {n : Nat}, n ≤ l.length → AllDig (l.take n) → n ≤ digL l := by
  induction l with
  | nil => intro n h _; simp at h; omega
  | cons x r ih =>
    intro n hn h
    cases n with
    | zero => omega
    | succ n =>
      rw [List.take_succ_cons] at h
      have hx := h x (by simp)
      have := ih (n := n) (by simpa using hn) (fun c hc => h c (by simp [hc]))
      simp only [digL]
      rw [if_pos (by simp [digitB]; exact hx)]
      omega
theorem head_word {l : List UInt8} (h : wordB l = true) : smallB (l.head?.getD 0) = true := by
  simp only [wordB, List.any_eq_true, beq_iff_eq] at h
  obtain ⟨x, hx, rfl⟩ := h
  have : ∀ y ∈ wordsL, smallB (y.head?.getD 0) = true := by decide +kernel
  exact this l hx
theorem word_short {l : List UInt8} (h : wordB l = true) : l.length ≤ 24 := (word_run h).2.1
theorem head_take {l : List UInt8} {n : Nat} (hn : 0 < n) : (l.take n).head?.getD 0 = l.head?.getD 0 := by
  cases l with
  | nil => simp
  | cons c r => cases n with
    | zero => omega
    | succ n => rfl
theorem alldig_head {l : List UInt8} (hl : l ≠ []) (h : AllDig l) : digitB (l.head?.getD 0) = true := by
  cases l with
  | nil => exact absurd rfl hl
  | cons c r =>
    have := h c (by simp)
    simp only [List.head?_cons, Option.getD_some, digitB, Bool.and_eq_true]
    exact ⟨decide_eq_true this.1, decide_eq_true this.2⟩
theorem run_more {l : List UInt8} : ∀ c ∈ l.take (runL l), moreB c = true := run_take l
theorem run_len {l : List UInt8} : (l.take (runL l)).length = runL l := by
  rw [List.length_take]; have := runL_le l; omega
theorem run_run {l : List UInt8} : runL (l.take (runL l)) = (l.take (runL l)).length := all_runL run_more
theorem tok_of_run {l : List UInt8} (h : 0 < runL l) : l ≠ [] ∧ tokSort l = sortL (l.take (runL l)) ∧ tokText l = l.take (runL l) ∧ tokNum l = numL (l.take (runL l)) := by
  have hne : l ≠ [] := by intro e; subst e; simp [runL] at h
  have h0 : runL l ≠ 0 := by omega
  exact ⟨hne, by simp [tokSort, hne, h0], by simp [tokText, h0], by simp [tokNum, h0]⟩
theorem nolit_letter {q : List UInt8} (hq : q ≠ []) (hm : ∀ c ∈ q, moreB c = true) (hd : digitB (q.head?.getD 0) = false) : litB q = false := by
  have : litL q = none := litL_not hm (fun h => by have := alldig_head hq h; rw [hd] at this; cases this)
  simp [litB, this]
/-- a run that begins with a digit -/
theorem tok_digit {l : List UInt8} (hd : digitB (l.head?.getD 0) = true) (hn : 0 < runL l) :
    (litB (l.take (digL l)) = true ∧ runL l = digL l → tokSort l = 3 ∧ tokText l = l.take (digL l) ∧ tokNum l = litN (l.take (digL l))) ∧ (¬ (litB (l.take (digL l)) = true ∧ runL l = digL l) → tokSort l = 0) := by
  obtain ⟨hne, h1, h2, h3⟩ := tok_of_run hn
  have hq : (l.take (runL l)).head?.getD 0 = l.head?.getD 0 := head_take hn
  have hs : smallB (l.head?.getD 0) = false := by simp [digitB] at hd; simp [smallB]; omega
  have hg : greatB (l.head?.getD 0) = false := by simp [digitB] at hd; simp [greatB]; omega
  have hw : wordB (l.take (runL l)) = false := by
    cases h : wordB (l.take (runL l))
    · rfl
    · have := head_word h; rw [hq, hs] at this; cases this
  have hname : nameB (l.take (runL l)) = false := by simp [nameB, hq, hs]
  have hcon : conB (l.take (runL l)) = false := by simp [conB, hq, hg]
  refine ⟨fun ⟨ha, hb⟩ => ?_, fun h => ?_⟩
  · rw [hb] at h1 h2 h3 hw hname hcon
    exact ⟨by rw [h1]; simp [sortL, hw, hname, hcon, ha], h2, by rw [h3]; simp [numL, hw, hname, hcon]⟩
  · rw [h1]
    have hl : litB (l.take (runL l)) = false := by
      by_cases hb : runL l = digL l
      · rw [hb]
        cases hx : litB (l.take (digL l))
        · rfl
        · exact absurd ⟨hx, hb⟩ h
      · have hle := digL_le_run l
        have : litL (l.take (runL l)) = none := litL_not run_more (fun hh => by have := digL_all (runL_le l) hh; omega)
        simp [litB, this]
    simp [sortL, hw, hname, hcon, hl]
/-- a run that begins with a letter -/
theorem tok_letter {l : List UInt8} (hn : 0 < runL l) (hs : smallB (l.head?.getD 0) = true ∨ greatB (l.head?.getD 0) = true) :
    (runL l ≤ 24 → tokSort l = (if wordB (l.take (runL l)) then 5 else if smallB (l.head?.getD 0) then 1 else 2) ∧ tokText l = l.take (runL l) ∧ tokNum l = 0) ∧ (24 < runL l → tokSort l = 0) := by
  obtain ⟨hne, h1, h2, h3⟩ := tok_of_run hn
  have hq : (l.take (runL l)).head?.getD 0 = l.head?.getD 0 := head_take hn
  have hlen := run_len (l := l)
  have hrr := run_run (l := l)
  refine ⟨fun h => ?_, fun h => ?_⟩
  · have hf : fitB (l.take (runL l)) = true := by simp only [fitB, hrr, hlen]; simp; omega
    by_cases hw : wordB (l.take (runL l)) = true
    · rw [h1, h2, h3]; simp [sortL, numL, hw]
    · have hw' : wordB (l.take (runL l)) = false := by simpa using hw
      by_cases hsm : smallB (l.head?.getD 0) = true
      · have hnm : nameB (l.take (runL l)) = true := by simp [nameB, hf, hw', hq, hsm]
        rw [h1, h2, h3]; simp [sortL, numL, hw', hnm, hsm]
      · have hg : greatB (l.head?.getD 0) = true := by rcases hs with h | h; exact absurd h hsm; exact h
        have hsm' : smallB (l.head?.getD 0) = false := by simpa using hsm
        have hnm : nameB (l.take (runL l)) = false := by simp [nameB, hq, hsm']
        have hcn : conB (l.take (runL l)) = true := by simp [conB, hf, hq, hg]
        rw [h1, h2, h3]; simp [sortL, numL, hw', hnm, hcn, hsm']
  · have hf : fitB (l.take (runL l)) = false := by simp only [fitB, hrr, hlen]; simp; omega
    have hw : wordB (l.take (runL l)) = false := by
      cases hw : wordB (l.take (runL l))
      · rfl
      · have := word_short hw; omega
    have hl := nolit_letter (q := l.take (runL l)) (by intro e; rw [e] at hlen; simp at hlen; omega) run_more (by
      rw [hq]
      rcases hs with h | h
      · simp [smallB] at h; simp [digitB]; omega
      · simp [greatB] at h; simp [digitB]; omega)
    rw [h1]; simp [sortL, nameB, conB, hf, hw, hl]
/-- a run that begins with an underscore -/
theorem tok_under {l : List UInt8} (h : (l.head?.getD 0).toNat = 95) (hl : l ≠ []) : tokSort l = 0 ∧ signL l = [] := by
  obtain ⟨c, r, rfl⟩ : ∃ c r, l = c :: r := by cases l with
    | nil => exact absurd rfl hl
    | cons c r => exact ⟨c, r, rfl⟩
  have hc : c = 95 := UInt8.toNat_inj.1 h
  subst hc
  have hn : 0 < runL ((95 : UInt8) :: r) := by rw [runL_cons_yes (by decide)]; omega
  obtain ⟨hne, h1, h2, h3⟩ := tok_of_run hn
  have hq : ((95 :: r).take (runL ((95 : UInt8) :: r))).head?.getD 0 = 95 := head_take hn
  have hlen := run_len (l := (95 : UInt8) :: r)
  have hw : wordB ((95 :: r).take (runL ((95 : UInt8) :: r))) = false := by
    cases hw : wordB ((95 :: r).take (runL ((95 : UInt8) :: r)))
    · rfl
    · have := head_word hw; rw [hq] at this; exact absurd this (by decide)
  have hs : smallB 95 = false := by decide
  have hg : greatB 95 = false := by decide
  have hll := nolit_letter (q := (95 :: r).take (runL ((95 : UInt8) :: r))) (by intro e; rw [e] at hlen; simp at hlen; omega) run_more (by rw [hq]; decide)
  refine ⟨by rw [h1]; simp [sortL, nameB, conB, hq, hs, hg, hw, hll], ?_⟩
  unfold signL signOf
  have : signsL.find? (fun p => p.isPrefixOf ((95 : UInt8) :: r)) = none := by
    rw [List.find?_eq_none]
    intro p hp
    have hall : ∀ y ∈ signsL, y.head? ≠ some 95 ∧ y ≠ [] := by decide +kernel
    have := hall p hp
    cases p with
    | nil => exact absurd rfl this.2
    | cons x y =>
      simp only [List.isPrefixOf, Bool.and_eq_true, beq_iff_eq]
      intro hx
      exact this.1 (by simp [hx.1])
  rw [this]; rfl
theorem tok_sign0 {l : List UInt8} (hl : l ≠ []) (hn : runL l = 0) : tokText l = signL l ∧ tokSort l = (if signL l = [] then 0 else 4) ∧ tokNum l = 0 := by
  simp [tokText, tokSort, tokNum, hl, hn]
end Go.Proofs.YtnoifghbcfoaaaaDoor
