/-
  Plain mathematics: a text's tokens but for their places; texts one behind the other; what tokens spell.
-/
import Derived.Test.YthffigagnodnmaaGreatDoorSpec
import Derived.Test.YthffigagnodnmaaGreatDoorAloneSpec
import Derived.Test.YthffigagnodnmaaGreatDoorPlaceSpec
namespace Go.Proofs.YthffigagnodnmaaGreatDoor

structure Key where
  sort : Int
  text : List UInt8
  num : Int
def Tok.key (t : Tok) : Key := ⟨t.sort, t.text, t.num⟩
def keyAt (l : List UInt8) : Key := ⟨tokSort l, tokText l, tokNum l⟩
def endKey : Key := ⟨6, [], 0⟩
/-- a text's tokens, the end among them -/
inductive Lex : List UInt8 → List Key → Prop
  | fin {l : List UInt8} : l.drop (gapL l) = [] → Lex l [endKey]
  | tok {l m : List UInt8} {ks : List Key} : l.drop (gapL l) = m → m ≠ [] → tokSort m ≠ 0 → Lex (m.drop (tokText m).length) ks → Lex l (keyAt m :: ks)

theorem keyAt_nil : keyAt [] = endKey := by simp [keyAt, endKey, tokSort_end, tokText_nil, tokNum, runL]
theorem lex_of_scanF {f : Nat} : ∀ {l : List UInt8} {p : Int × Int}, (scanF f l p).2 = none → Lex l ((scanF f l p).1.map Tok.key) := by
  induction f with
  | zero => intro l p h; simp [scanF] at h
  | succ f ih =>
    intro l p h
    by_cases h0 : tokSort (l.drop (gapL l)) = 0
    · rw [scanF_none h0] at h; cases h
    · by_cases h6 : l.drop (gapL l) = []
      · rw [scanF_end (by rw [h6]; exact tokSort_end), h6]
        exact .fin h6
      · have h6' := tokSort_ne6 h6
        rw [scanF_tok h0 h6'] at h ⊢
        exact .tok rfl h6 h0 (ih h)
theorem lex_scanF {l : List UInt8} {ks : List Key} (h : Lex l ks) : ∀ {f : Nat} {p : Int × Int}, l.length < f → (scanF f l p).2 = none ∧ (scanF f l p).1.map Tok.key = ks := by
  induction h with
  | fin h =>
    intro f p hf
    obtain ⟨f, rfl⟩ : ∃ g, f = g + 1 := ⟨f - 1, by omega⟩
    rw [scanF_end (by rw [h]; exact tokSort_end), h]
    exact ⟨rfl, rfl⟩
  | @tok l m ks hm h6 h0 _ ih =>
    intro f p hf
    obtain ⟨f, rfl⟩ : ∃ g, f = g + 1 := ⟨f - 1, by omega⟩
    have hlen : m.length ≤ l.length := by rw [← hm, List.length_drop]; omega
    have hp := tokText_pos h6 h0
    have hl : (m.drop (tokText m).length).length < f := by rw [List.length_drop]; have := List.length_pos_iff.2 h6; omega
    subst hm
    rw [scanF_tok h0 (tokSort_ne6 h6)]
    obtain ⟨h1, h2⟩ := ih (p := posL ((l.drop (gapL l)).take (tokText (l.drop (gapL l))).length) (posL (l.take (gapL l)) p)) hl
    exact ⟨h1, by rw [List.map_cons, h2]; rfl⟩
theorem lex_of_scan {l : List UInt8} (h : (scanAll l).2 = none) : Lex l ((scanAll l).1.map Tok.key) := lex_of_scanF h
theorem scan_of_lex {l : List UInt8} {ks : List Key} (h : Lex l ks) : (scanAll l).2 = none ∧ (scanAll l).1.map Tok.key = ks := lex_scanF h (by omega)
theorem Lex.same {l l' : List UInt8} {ks : List Key} (h : Lex l ks) (he : l'.drop (gapL l') = l.drop (gapL l)) : Lex l' ks := by
  cases h with
  | fin h => exact .fin (he.trans h)
  | tok hm h6 h0 hr => exact .tok (he.trans hm) h6 h0 hr
theorem Lex.ne {l : List UInt8} {ks : List Key} (h : Lex l ks) : ks ≠ [] := by cases h <;> simp

/-- a byte behind which nothing of a token goes on -/
def sepB (c : UInt8) : Prop := c.toNat = 10 ∨ c.toNat = 32
theorem sep_more {c : UInt8} (h : sepB c) : moreB c = false := by
  rcases h with h | h <;> simp [moreB, smallB, greatB, digitB, h]
theorem signs_sep : ∀ p ∈ signsL, ∀ x ∈ p, x.toNat ≠ 10 ∧ x.toNat ≠ 32 := by decide +kernel
theorem prefix_sep {p : List UInt8} {c : UInt8} (hp : c ∉ p) (r : List UInt8) : ∀ (m : List UInt8), p.isPrefixOf (m ++ c :: r) = p.isPrefixOf m := by
  induction p with
  | nil => intro m; cases m <;> rfl
  | cons x p ih =>
    intro m
    cases m with
    | nil =>
      have : (x == c) = false := by simp; rintro rfl; simp at hp
      simp [List.isPrefixOf, this]
    | cons y m =>
      simp only [List.cons_append, List.isPrefixOf]
      rw [ih (fun h => hp (by simp [h]))]
theorem find_congr' {α : Type} {p q : α → Bool} : ∀ {l : List α}, (∀ x ∈ l, p x = q x) → l.find? p = l.find? q
  | [], _ => rfl
  | x :: r, h => by simp only [List.find?_cons, h x (by simp)]; rw [find_congr' fun y hy => h y (by simp [hy])]
theorem sign_sep {c : UInt8} (hc : sepB c) (m r : List UInt8) : signL (m ++ c :: r) = signL m := by
  unfold signL signOf
  rw [find_congr' (q := fun p => p.isPrefixOf m)]
  intro p hp
  exact prefix_sep (fun hx => by have := signs_sep p hp c hx; rcases hc with h | h <;> omega) r m
theorem run_sep {c : UInt8} (hc : sepB c) (r : List UInt8) : ∀ (m : List UInt8), runL (m ++ c :: r) = runL m
  | [] => by simp [runL, sep_more hc]
  | x :: m => by simp only [List.cons_append, runL]; rw [run_sep hc r m]
theorem take_sep (m s : List UInt8) : (m ++ s).take (runL m) = m.take (runL m) := by
  rw [List.take_append_of_le_length (runL_le m)]
theorem key_sep {c : UInt8} (hc : sepB c) {m : List UInt8} (hm : m ≠ []) (r : List UInt8) : keyAt (m ++ c :: r) = keyAt m := by
  simp only [keyAt, tokSort, tokText, tokNum, run_sep hc, sign_sep hc, take_sep]
  simp [hm]
theorem com_nl (r : List UInt8) {c : UInt8} (hc : c.toNat = 10) : ∀ (m : List UInt8), comL (m ++ c :: r) = comL m
  | [] => by simp [comL, hc]
  | x :: m => by simp only [List.cons_append, comL]; rw [com_nl r hc m]
theorem note_prefix {m r : List UInt8} {c : UInt8} (hc : sepB c) : [45, 45].isPrefixOf (m ++ c :: r) = [45, 45].isPrefixOf m :=
  prefix_sep (fun h => by
    have : c = 45 := by simpa using h
    subst this
    rcases hc with h | h <;> exact absurd h (by decide)) r m
/-- the blanks of a text that goes on with a new line -/
theorem gap_nl (r : List UInt8) {c : UInt8} (hc : c.toNat = 10) : ∀ (n : Nat) (a : List UInt8), a.length ≤ n → gapL (a ++ c :: r) = if gapL a = a.length then a.length + gapL (c :: r) else gapL a := by
  have hs : sepB c := .inl hc
  intro n
  induction n with
  | zero => intro a ha; have : a = [] := List.eq_nil_of_length_eq_zero (by omega); subst this; simp [gapL_nil]
  | succ n ih =>
    intro a ha
    cases a with
    | nil => simp [gapL_nil]
    | cons x a =>
      simp only [List.length_cons] at ha
      by_cases h1 : spaceB x = true
      · rw [List.cons_append, gapL_space h1, gapL_space h1, ih a (by omega)]
        by_cases h : gapL a = a.length
        · simp [h]; omega
        · rw [if_neg h, if_neg (by simpa using h)]
      · have h1 : spaceB x = false := by simpa using h1
        by_cases h2 : [45, 45].isPrefixOf (x :: a) = true
        · have h3 : [45, 45].isPrefixOf (x :: (a ++ c :: r)) = true := by
            rw [← List.cons_append, note_prefix hs]; exact h2
          have hp := comL_pos h2
          have hle := comL_le (x :: a)
          have hcm : comL (x :: (a ++ c :: r)) = comL (x :: a) := by rw [← List.cons_append]; exact com_nl r hc _
          rw [List.cons_append, gapL_note h1 h3, gapL_note h1 h2, hcm, ← List.cons_append, List.drop_append_of_le_length hle, ih _ (by rw [List.length_drop, List.length_cons]; omega), List.length_drop]
          have hg := gapL_le ((x :: a).drop (comL (x :: a)))
          rw [List.length_drop] at hg
          by_cases h : gapL ((x :: a).drop (comL (x :: a))) = (x :: a).length - comL (x :: a)
          · rw [if_pos h, if_pos (by omega)]; omega
          · rw [if_neg h, if_neg (by omega)]
        · have h2 : [45, 45].isPrefixOf (x :: a) = false := Bool.not_eq_true _ ▸ h2
          have h3 : [45, 45].isPrefixOf (x :: (a ++ c :: r)) = false := by
            rw [← List.cons_append, note_prefix hs]; exact h2
          rw [List.cons_append, gapL_none h1 h3, gapL_none h1 h2]
          simp
/-- two texts one behind the other, a new line between -/
theorem lex_append {a : List UInt8} {ks : List Key} (h : Lex a ks) {c : UInt8} (hc : c.toNat = 10) {r : List UInt8} {qs : List Key} (hr : Lex (c :: r) qs) : Lex (a ++ c :: r) (ks.dropLast ++ qs) := by
  have hs : sepB c := .inl hc
  induction h with
  | @fin a h =>
    have hl : gapL a = a.length := by
      have h1 := congrArg List.length h
      have h2 := gapL_le a
      rw [List.length_drop, List.length_nil] at h1
      omega
    have hg := gap_nl r hc _ a (Nat.le_refl _)
    rw [if_pos hl] at hg
    refine hr.same ?_
    rw [hg, ← List.drop_drop, List.drop_left]
  | @tok a m ks hm h6 h0 hk ih =>
    have hl : gapL a ≠ a.length := fun e => h6 (by rw [← hm, e]; exact List.drop_length)
    have hle := gapL_le a
    have hg := gap_nl r hc _ a (Nat.le_refl _)
    rw [if_neg hl] at hg
    have hd : (a ++ c :: r).drop (gapL (a ++ c :: r)) = m ++ c :: r := by rw [hg, List.drop_append_of_le_length hle, hm]
    have hk' := key_sep hs h6 r
    have hso : tokSort (m ++ c :: r) = tokSort m := congrArg Key.sort hk'
    have htx : tokText (m ++ c :: r) = tokText m := congrArg Key.text hk'
    have := Lex.tok hd (by simp) (by rw [hso]; exact h0) (ks := ks.dropLast ++ qs) (by rw [htx, List.drop_append_of_le_length (tokText_le m)]; exact ih)
    rw [hk'] at this
    rw [List.dropLast_cons_of_ne_nil hk.ne]
    exact this
theorem gap_skip {c : UInt8} {r : List UInt8} (h : spaceB c = true) : (c :: r).drop (gapL (c :: r)) = r.drop (gapL r) := by rw [gapL_space h]; rfl
theorem lex_skip {c : UInt8} {r : List UInt8} {ks : List Key} (h : spaceB c = true) (hr : Lex r ks) : Lex (c :: r) ks := hr.same (gap_skip h)
theorem com_plain {n : List UInt8} (h : ∀ x ∈ n, x.toNat ≠ 10) {c : UInt8} (hc : c.toNat = 10) (r : List UInt8) : comL (n ++ c :: r) = n.length := by
  induction n with
  | nil => simp [comL, hc]
  | cons x n ih => simp only [List.cons_append, comL, if_neg (h x (by simp)), List.length_cons]; rw [ih fun y hy => h y (by simp [hy])]
def sepL (note : List UInt8) : List UInt8 := [10, 32, 45, 45, 32] ++ note ++ [10, 9]
/-- a blank and a note between two texts -/
theorem lex_blanks {a b note : List UInt8} {ka kb : List Key} (ha : Lex a ka) (hb : Lex b kb) (hn : ∀ x ∈ note, x.toNat ≠ 10) : Lex (a ++ sepL note ++ b) (ka.dropLast ++ kb) := by
  have e : a ++ sepL note ++ b = a ++ 10 :: (32 :: (45 :: 45 :: 32 :: note ++ 10 :: 9 :: b)) := by simp [sepL]
  rw [e]
  refine lex_append ha rfl (lex_skip rfl (lex_skip rfl ?_))
  have h10 : Lex (10 :: 9 :: b) kb := lex_skip rfl (lex_skip rfl hb)
  refine h10.same ?_
  have hp : [45, 45].isPrefixOf (45 :: (45 :: 32 :: note ++ 10 :: 9 :: b)) = true := rfl
  have hc : comL (45 :: (45 :: 32 :: note ++ 10 :: 9 :: b)) = (45 :: 45 :: 32 :: note).length := com_plain (n := 45 :: 45 :: 32 :: note) (fun x hx => by
    simp only [List.mem_cons] at hx
    rcases hx with rfl | rfl | rfl | hx
    · decide
    · decide
    · decide
    · exact hn x hx) (c := 10) rfl (9 :: b)
  have hg := gapL_note (c := 45) (r := 45 :: 32 :: note ++ 10 :: 9 :: b) rfl hp
  rw [hc] at hg
  have hd : (45 :: (45 :: 32 :: note ++ 10 :: 9 :: b)).drop (45 :: 45 :: 32 :: note).length = 10 :: 9 :: b := List.drop_left (l₁ := 45 :: 45 :: 32 :: note) (l₂ := 10 :: 9 :: b)
  rw [hd] at hg
  show (45 :: (45 :: 32 :: note ++ 10 :: 9 :: b)).drop (gapL (45 :: (45 :: 32 :: note ++ 10 :: 9 :: b))) = _
  rw [hg, Nat.add_comm, ← List.drop_drop, hd]

theorem com_lt {l : List UInt8} : ∀ {k : Nat}, k < comL l → ∀ (hk : k < l.length), (l[k]'hk).toNat ≠ 10 := by
  induction l with
  | nil => intro k _ hk; simp at hk
  | cons x r ih =>
    intro k h hk
    simp only [comL] at h
    split at h
    · omega
    · rename_i hx
      cases k with
      | zero => simpa using hx
      | succ k => simpa using ih (by omega) (by simpa using hk)
theorem com_at {l : List UInt8} (h : comL l < l.length) : (l[comL l]'h).toNat = 10 := by
  induction l with
  | nil => simp at h
  | cons x r ih =>
    by_cases hx : x.toNat = 10
    · have : comL (x :: r) = 0 := by simp [comL, hx]
      simp only [this, List.getElem_cons_zero, hx]
    · have e : comL (x :: r) = comL r + 1 := by simp [comL, hx]
      simp only [e, List.getElem_cons_succ]
      rw [e, List.length_cons] at h
      exact ih (by omega)
theorem com_all {l : List UInt8} (h : comL l = l.length) : ∀ x ∈ l, x.toNat ≠ 10 := by
  intro x hx
  obtain ⟨k, hk, rfl⟩ := List.getElem_of_mem hx
  exact com_lt (by omega) hk

/-- what tokens spell -/
def spellL : List (List UInt8) → List UInt8
  | [] => []
  | t :: r => t ++ (if r = [] then [] else 32 :: spellL r)
theorem run_self (l : List UInt8) : runL (l.take (runL l)) = runL l := by
  induction l with
  | nil => rfl
  | cons x r ih =>
    simp only [runL]
    split
    · rename_i hx
      rw [List.take_succ_cons]
      simp only [runL, hx, if_true, ih]
    · rfl
theorem signs_self : ∀ p ∈ signsL, signL p = p ∧ runL p = 0 ∧ p ≠ [] ∧ spaceB (p.headD 0) = false ∧ [45, 45].isPrefixOf p = false := by decide +kernel
theorem signL_mem {l : List UInt8} (h : signL l ≠ []) : signL l ∈ signsL := by
  unfold signL signOf at *
  cases hf : signsL.find? fun p => p.isPrefixOf l with
  | none => simp [hf] at h
  | some x => exact List.mem_of_find?_eq_some hf
theorem more_space {c : UInt8} (h : moreB c = true) : spaceB c = false ∧ c.toNat ≠ 45 := by
  simp [moreB, smallB, greatB, digitB] at h
  simp [spaceB]
  omega
theorem key_self {m : List UInt8} (h6 : m ≠ []) (h0 : tokSort m ≠ 0) : keyAt (tokText m) = keyAt m ∧ ∀ r, gapL (tokText m ++ 32 :: r) = 0 := by
  have hs : sepB 32 := .inr rfl
  by_cases hr : runL m = 0
  · have ht : tokText m = signL m := by simp [tokText, hr]
    have hne : signL m ≠ [] := by
      intro e; apply h0; simp [tokSort, h6, hr, e]
    obtain ⟨s1, s2, s3, s4, s5⟩ := signs_self _ (signL_mem hne)
    rw [ht]
    refine ⟨by simp [keyAt, tokSort, tokText, tokNum, s1, s2, hr, h6, hne], fun r => ?_⟩
    have hn := note_prefix (m := signL m) (r := r) hs
    rw [s5] at hn
    generalize signL m = p at *
    cases p with
    | nil => exact absurd rfl s3
    | cons x p => exact gapL_none s4 hn
  · have ht : tokText m = m.take (runL m) := by simp [tokText, hr]
    have hl := runL_le m
    have hrt := run_self m
    have htt : (m.take (runL m)).take (runL m) = m.take (runL m) := by rw [List.take_take, Nat.min_self]
    have hne : m.take (runL m) ≠ [] := by
      intro e; have := congrArg List.length e; rw [List.length_take, List.length_nil] at this; omega
    rw [ht]
    refine ⟨by simp only [keyAt, tokSort, tokText, tokNum, hrt, htt]; simp [hr, h6, hne], fun r => ?_⟩
    have hall := run_take m
    have hn := note_prefix (m := m.take (runL m)) (r := r) hs
    generalize m.take (runL m) = p at *
    cases p with
    | nil => exact absurd rfl hne
    | cons x p =>
      obtain ⟨g1, g2⟩ := more_space (hall x (by simp))
      refine gapL_none g1 (hn.trans ?_)
      have : (45 == x) = false := by simp; rintro rfl; exact g2 rfl
      simp [List.isPrefixOf, this]
theorem lex_texts {l : List UInt8} {ks : List Key} (h : Lex l ks) : ks.map Key.text ≠ [] := by simpa using h.ne
theorem lex_spell {l : List UInt8} {ks : List Key} (h : Lex l ks) : Lex (spellL (ks.map Key.text)) ks := by
  induction h with
  | fin h => exact .fin rfl
  | @tok l m ks hm h6 h0 hk ih =>
    obtain ⟨h1, h2⟩ := key_self h6 h0
    have e : spellL ((keyAt m :: ks).map Key.text) = tokText m ++ 32 :: spellL (ks.map Key.text) := by
      rw [List.map_cons, spellL, if_neg (lex_texts hk)]; rfl
    have hp := tokText_pos h6 h0
    have hne : tokText m ≠ [] := List.length_pos_iff.1 hp
    have hk' := (key_sep (.inr rfl) hne (spellL (ks.map Key.text)) (c := 32)).trans h1
    have hso : tokSort (tokText m ++ 32 :: spellL (ks.map Key.text)) = tokSort m := congrArg Key.sort hk'
    have htx : tokText (tokText m ++ 32 :: spellL (ks.map Key.text)) = tokText m := congrArg Key.text hk'
    rw [e]
    have := Lex.tok (l := tokText m ++ 32 :: spellL (ks.map Key.text)) (m := tokText m ++ 32 :: spellL (ks.map Key.text)) (by rw [h2]; rfl) (by simp) (by rw [hso]; exact h0) (ks := ks) (by rw [htx, List.drop_left]; exact lex_skip rfl ih)
    rw [hk'] at this
    exact this
theorem lex_spell_len {l : List UInt8} {ks : List Key} (h : Lex l ks) : (spellL (ks.map Key.text)).length ≤ 2 * l.length := by
  induction h with
  | fin _ => simp [spellL, endKey]
  | @tok l m ks hm h6 h0 hk ih =>
    have e : spellL ((keyAt m :: ks).map Key.text) = tokText m ++ 32 :: spellL (ks.map Key.text) := by
      rw [List.map_cons, spellL, if_neg (lex_texts hk)]; rfl
    have hp := tokText_pos h6 h0
    have hlen : m.length ≤ l.length := by rw [← hm, List.length_drop]; omega
    have htl := tokText_le m
    rw [List.length_drop] at ih
    rw [e, List.length_append, List.length_cons]
    omega
end Go.Proofs.YthffigagnodnmaaGreatDoor
