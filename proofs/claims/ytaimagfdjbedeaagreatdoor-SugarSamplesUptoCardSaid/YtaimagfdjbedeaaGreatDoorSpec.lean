/-
  Plain mathematics of scanning: bytes, runs, words. Nothing of the program stands here.
  Plain mathematics: what a name, a constructor, a word alone scans to.
  Plain mathematics: where the tokens of a text stand.
  Plain mathematics: a text's tokens but for their places; texts one behind the other; what tokens spell.
  Plain mathematics: the numbers that digits spell.
-/
import Derived.Lib.Strings
import Derived.Lib.Bytealg
import Derived.Lib.ParseIntB
import Derived.WalkKit
namespace Go.Proofs.YtaimagfdjbedeaaGreatDoor

theorem ret_bool {a b : Bool} (h : a = b) : Ending.returned (.bool a) = .returned (.bool b) := by rw [h]
theorem ret_int {k : IntKind} {a b : Int} (h : a = b) : Ending.returned (.int k a) = .returned (.int k b) := by rw [h]

def smallB (c : UInt8) : Bool := decide (97 ≤ c.toNat) && decide (c.toNat ≤ 122)
def greatB (c : UInt8) : Bool := decide (65 ≤ c.toNat) && decide (c.toNat ≤ 90)
def digitB (c : UInt8) : Bool := decide (48 ≤ c.toNat) && decide (c.toNat ≤ 57)
def spaceB (c : UInt8) : Bool := decide (c.toNat = 32) || decide (c.toNat = 9) || decide (c.toNat = 13) || decide (c.toNat = 10)
def moreB (c : UInt8) : Bool := smallB c || greatB c || digitB c || decide (c.toNat = 95)

def runL : List UInt8 → Nat
  | [] => 0
  | c :: r => if moreB c then runL r + 1 else 0
theorem runL_le (l : List UInt8) : runL l ≤ l.length := by
  induction l with
  | nil => simp [runL]
  | cons c r ih => simp only [runL, List.length_cons]; split <;> omega
theorem runL_cons_yes {c : UInt8} {r : List UInt8} (h : moreB c = true) : runL (c :: r) = runL r + 1 := by simp [runL, h]
theorem runL_cons_no {c : UInt8} {r : List UInt8} (h : moreB c = false) : runL (c :: r) = 0 := by simp [runL, h]
theorem drop_cons (s : ByteArray) (k : Nat) (h : k < s.size) : s.data.toList.drop k = s[k] :: s.data.toList.drop (k + 1) := by
  rw [List.drop_eq_getElem_cons (by simpa using h)]; rfl
theorem drop_end (s : ByteArray) (k : Nat) (h : s.size ≤ k) : s.data.toList.drop k = [] := by
  apply List.drop_of_length_le; simpa using h

def wordsL : List (List UInt8) :=
  [[116, 121, 112, 101], [110, 111, 100, 101], [119, 104, 101, 114, 101], [101, 110, 100], [97, 117, 116, 111, 109, 97, 116, 111, 110],
   [115, 116, 97, 116, 101], [117, 110, 116, 105, 108], [116, 104, 101, 110], [105, 102], [101, 108, 115, 101], [102, 98, 121], [112, 114, 101],
   [110, 111, 116], [97, 110, 100], [111, 114], [119, 104, 101, 110], [109, 101, 114, 103, 101], [109, 97, 116, 99, 104], [101, 118, 101, 114, 121],
   [116, 114, 117, 101], [102, 97, 108, 115, 101]]
def wordB (l : List UInt8) : Bool := wordsL.any (l == ·)
def fitB (l : List UInt8) : Bool := decide (1 ≤ l.length) && decide (l.length ≤ 24) && decide (runL l = l.length)
def nameB (l : List UInt8) : Bool := fitB l && smallB (l.headD 0) && !wordB l
def conB (l : List UInt8) : Bool := fitB l && greatB (l.headD 0)

/-- how many bytes a note is long: up to the line's end -/
def comL : List UInt8 → Nat
  | [] => 0
  | c :: r => if c.toNat = 10 then 0 else comL r + 1
theorem comL_le (l : List UInt8) : comL l ≤ l.length := by
  induction l with
  | nil => simp [comL]
  | cons c r ih => simp only [comL, List.length_cons]; split <;> omega
theorem indexByte_com (l : List UInt8) : (Lib.indexByte l 10 = -1 ∧ comL l = l.length) ∨ Lib.indexByte l 10 = (comL l : Nat) := by
  induction l with
  | nil => simp [Lib.indexByte, comL]
  | cons c r ih =>
    have hc : (c == 10) = decide (c.toNat = 10) := by
      rw [Bool.eq_iff_iff]; simp only [beq_iff_eq, decide_eq_true_eq]
      exact ⟨fun h => by rw [h]; rfl, fun h => UInt8.toNat_inj.1 h⟩
    simp only [Lib.indexByte, comL, hc]
    by_cases h : c.toNat = 10
    · simp [h]
    · rcases ih with ⟨h1, h2⟩ | h1
      · simp [h, h1, h2]
      · have : ((comL r : Nat) : Int) ≠ -1 := by omega
        simp [h, h1, this]

def signsL : List (List UInt8) := [[45, 62], [60, 61], [60, 62], [40], [41], [91], [93], [60], [61], [44], [59], [58], [124], [43], [45], [42], [47], [37]]
/-- the first sign that a text begins with -/
def signOf (n : List (List UInt8)) (l : List UInt8) : List UInt8 := (n.find? fun p => p.isPrefixOf l).getD []
def signL (l : List UInt8) : List UInt8 := signOf signsL l

/-- the number of a literal -/
def litL (l : List UInt8) : Option Int :=
  if 1 < l.length ∧ (l.head?.getD 0).toNat = 48 then none else match Lib.parseIntB 64 l with | .ok v => some v | _ => none
def litN (l : List UInt8) : Int := (litL l).getD 0
def litB (l : List UInt8) : Bool := (litL l).isSome

/-- the sort of a run, and its number -/
def sortL (l : List UInt8) : Int := if wordB l then 5 else if nameB l then 1 else if conB l then 2 else if litB l then 3 else 0
def numL (l : List UInt8) : Int := if wordB l then 0 else if nameB l then 0 else if conB l then 0 else litN l

/-- the token that a text begins with: its text, its sort (6: the end; 0: none), its number -/
def tokText (l : List UInt8) : List UInt8 := if runL l = 0 then signL l else l.take (runL l)
def tokSort (l : List UInt8) : Int := if l = [] then 6 else if runL l = 0 then (if signL l = [] then 0 else 4) else sortL (l.take (runL l))
def tokNum (l : List UInt8) : Int := if runL l = 0 then 0 else numL (l.take (runL l))
def str (l : List UInt8) : ByteArray := ⟨l.toArray⟩
theorem str_toList (l : List UInt8) : (str l).data.toList = l := rfl
theorem str_size (l : List UInt8) : (str l).size = l.length := rfl
theorem str_eq (s : ByteArray) : str s.data.toList = s := by cases s; rfl
theorem extract_str (s : ByteArray) (a b : Nat) : s.extract a b = str ((s.data.toList.take b).drop a) := by
  apply ByteArray.ext
  rw [ByteArray.data_extract]
  apply Array.ext'
  simp [str, List.drop_take]

/-- the place behind bytes -/
def posL : List UInt8 → Int × Int → Int × Int
  | [], p => p
  | c :: r, p => posL r (if c.toNat = 10 then (p.1 + 1, 1) else (p.1, p.2 + 1))
theorem posL_append (l m : List UInt8) (p : Int × Int) : posL (l ++ m) p = posL m (posL l p) := by
  induction l generalizing p with
  | nil => rfl
  | cons c r ih => simp only [List.cons_append, posL]; rw [ih]
theorem posL_snoc (l : List UInt8) (c : UInt8) (p : Int × Int) : posL (l ++ [c]) p = if c.toNat = 10 then ((posL l p).1 + 1, 1) else ((posL l p).1, (posL l p).2 + 1) := by
  rw [posL_append]; rfl
theorem posL_bd (l : List UInt8) (p : Int × Int) (h1 : 1 ≤ p.1) (h2 : 1 ≤ p.2) : 1 ≤ (posL l p).1 ∧ (posL l p).1 ≤ p.1 + l.length ∧ 1 ≤ (posL l p).2 ∧ (posL l p).2 ≤ p.2 + l.length := by
  induction l generalizing p with
  | nil => simp [posL, h1, h2]
  | cons c r ih =>
    simp only [posL, List.length_cons]
    by_cases h : c.toNat = 10
    · have := ih (p.1 + 1, 1) (by simp; omega) (by simp)
      simp only [h, if_true] at this ⊢
      omega
    · have := ih (p.1, p.2 + 1) (by simpa using h1) (by simp; omega)
      simp only [h, if_false] at this ⊢
      omega
/-- how many bytes of blanks and notes a text begins with -/
def gapF : Nat → List UInt8 → Nat
  | 0, _ => 0
  | f + 1, l => match l with
    | [] => 0
    | c :: r => if spaceB c then gapF f r + 1 else if [45, 45].isPrefixOf (c :: r) then gapF f ((c :: r).drop (comL (c :: r))) + comL (c :: r) else 0
def gapL (l : List UInt8) : Nat := gapF l.length l
theorem comL_pos {c : UInt8} {r : List UInt8} (h : [45, 45].isPrefixOf (c :: r) = true) : 0 < comL (c :: r) := by
  have : c = 45 := by
    simp [List.isPrefixOf] at h
    exact h.1.symm
  subst this
  simp [comL]
theorem gapF_le (f : Nat) : ∀ (l : List UInt8), gapF f l ≤ l.length := by
  induction f with
  | zero => intro l; simp [gapF]
  | succ f ih =>
    intro l
    cases l with
    | nil => simp [gapF]
    | cons c r =>
      simp only [gapF]
      split
      · have := ih r; simp; omega
      · split
        · have h1 := ih ((c :: r).drop (comL (c :: r)))
          have h2 := comL_le (c :: r)
          rw [List.length_drop] at h1
          omega
        · simp
theorem gapL_le (l : List UInt8) : gapL l ≤ l.length := gapF_le _ l
theorem gapF_more (f : Nat) : ∀ (l : List UInt8) (g : Nat), l.length ≤ f → l.length ≤ g → gapF f l = gapF g l := by
  induction f with
  | zero => intro l g h _; have : l = [] := List.eq_nil_of_length_eq_zero (by omega); subst this; cases g <;> simp [gapF]
  | succ f ih =>
    intro l g hf hg
    cases l with
    | nil => cases g <;> simp [gapF]
    | cons c r =>
      cases g with
      | zero => simp at hg
      | succ g =>
        simp only [List.length_cons] at hf hg
        simp only [gapF]
        split
        · rw [ih r g (by omega) (by omega)]
        · split
          · rename_i h
            have := comL_pos h
            rw [ih _ g (by rw [List.length_drop, List.length_cons]; omega) (by rw [List.length_drop, List.length_cons]; omega)]
          · rfl
theorem gapL_nil : gapL [] = 0 := rfl
theorem gapL_space {c : UInt8} {r : List UInt8} (h : spaceB c = true) : gapL (c :: r) = gapL r + 1 := by
  show gapF (r.length + 1) (c :: r) = gapF r.length r + 1
  simp [gapF, h]
theorem gapL_note {c : UInt8} {r : List UInt8} (h0 : spaceB c = false) (h : [45, 45].isPrefixOf (c :: r) = true) : gapL (c :: r) = gapL ((c :: r).drop (comL (c :: r))) + comL (c :: r) := by
  have hp := comL_pos h
  show gapF (r.length + 1) (c :: r) = gapF _ ((c :: r).drop (comL (c :: r))) + comL (c :: r)
  rw [← gapF_more r.length ((c :: r).drop (comL (c :: r))) _ (by rw [List.length_drop, List.length_cons]; omega) (Nat.le_refl _)]
  simp only [gapF, h0, h]
  simp
theorem gapL_none {c : UInt8} {r : List UInt8} (h0 : spaceB c = false) (h : [45, 45].isPrefixOf (c :: r) = false) : gapL (c :: r) = 0 := by
  show gapF (r.length + 1) (c :: r) = 0
  simp [gapF, h0, h]

structure Tok where
  sort : Int
  text : List UInt8
  num : Int
  line : Int
  col : Int
def Tok.cells (t : Tok) : List Value := [.int .i64 t.sort, .string (str t.text), .int .i64 t.num, .int .i64 t.line, .int .i64 t.col]
def tokAt (l : List UInt8) (p : Int × Int) : Tok := ⟨tokSort l, tokText l, tokNum l, p.1, p.2⟩
/-- the tokens of a text, or the place where there is none; 'f' bounds how many there are -/
def scanF : Nat → List UInt8 → Int × Int → List Tok × Option (Int × Int)
  | 0, _, p => ([], some p)
  | f + 1, l, p =>
    let m := l.drop (gapL l)
    let q := posL (l.take (gapL l)) p
    if tokSort m = 0 then ([], some q)
    else if tokSort m = 6 then ([tokAt m q], none)
    else
      let z := scanF f (m.drop (tokText m).length) (posL (m.take (tokText m).length) q)
      (tokAt m q :: z.1, z.2)
def scanAll (l : List UInt8) : List Tok × Option (Int × Int) := scanF (l.length + 1) l (1, 1)

theorem signOf_prefix (n : List (List UInt8)) (l : List UInt8) : signOf n l <+: l := by
  unfold signOf
  cases h : n.find? fun p => p.isPrefixOf l with
  | none => simp
  | some x =>
    have := List.find?_some h
    simpa using this
theorem tokText_prefix (l : List UInt8) : tokText l <+: l := by
  unfold tokText
  split
  · exact signOf_prefix _ _
  · exact List.take_prefix _ _
theorem tokText_le (l : List UInt8) : (tokText l).length ≤ l.length := (tokText_prefix l).length_le
theorem tokText_take (l : List UInt8) : l.take (tokText l).length = tokText l := (List.prefix_iff_eq_take.1 (tokText_prefix l)).symm
theorem sortL_ne6 (l : List UInt8) : sortL l ≠ 6 := by
  unfold sortL
  repeat (split; · decide)
  decide
theorem tokSort_end : tokSort [] = 6 := by simp [tokSort]
theorem tokSort_ne6 {l : List UInt8} (h : l ≠ []) : tokSort l ≠ 6 := by
  unfold tokSort
  rw [if_neg h]
  split
  · split <;> decide
  · exact sortL_ne6 _
theorem tokText_pos {l : List UInt8} (h : l ≠ []) (h0 : tokSort l ≠ 0) : 0 < (tokText l).length := by
  unfold tokSort at h0
  rw [if_neg h] at h0
  unfold tokText
  split
  · rename_i hr
    rw [if_pos hr] at h0
    by_cases hs : signL l = []
    · simp [hs] at h0
    · exact List.length_pos_iff.2 hs
  · rename_i hr
    have := runL_le l
    rw [List.length_take]; omega
theorem scanF_none {f : Nat} {l : List UInt8} {p : Int × Int} (h : tokSort (l.drop (gapL l)) = 0) : scanF (f + 1) l p = ([], some (posL (l.take (gapL l)) p)) := by
  simp [scanF, h]
theorem scanF_end {f : Nat} {l : List UInt8} {p : Int × Int} (h : tokSort (l.drop (gapL l)) = 6) : scanF (f + 1) l p = ([tokAt (l.drop (gapL l)) (posL (l.take (gapL l)) p)], none) := by
  simp [scanF, h]
theorem scanF_tok {f : Nat} {l : List UInt8} {p : Int × Int} (h0 : tokSort (l.drop (gapL l)) ≠ 0) (h6 : tokSort (l.drop (gapL l)) ≠ 6) :
    scanF (f + 1) l p = (tokAt (l.drop (gapL l)) (posL (l.take (gapL l)) p) :: (scanF f ((l.drop (gapL l)).drop (tokText (l.drop (gapL l))).length) (posL ((l.drop (gapL l)).take (tokText (l.drop (gapL l))).length) (posL (l.take (gapL l)) p))).1,
      (scanF f ((l.drop (gapL l)).drop (tokText (l.drop (gapL l))).length) (posL ((l.drop (gapL l)).take (tokText (l.drop (gapL l))).length) (posL (l.take (gapL l)) p))).2) := by
  simp [scanF, h0, h6]
end Go.Proofs.YtaimagfdjbedeaaGreatDoor
namespace Go.Proofs.YtaimagfdjbedeaaGreatDoor

theorem moreB_plain {c : UInt8} (h : moreB c = true) : spaceB c = false ∧ c.toNat ≠ 10 ∧ c.toNat ≠ 45 := by
  simp only [moreB, smallB, greatB, digitB, spaceB, Bool.or_eq_true, Bool.and_eq_true, decide_eq_true_eq, Bool.or_eq_false_iff, decide_eq_false_iff_not] at h ⊢
  omega
theorem runL_all {l : List UInt8} (h : runL l = l.length) : ∀ c ∈ l, moreB c = true := by
  induction l with
  | nil => intro c hc; cases hc
  | cons x r ih =>
    simp only [runL, List.length_cons] at h
    split at h
    · rename_i hx
      intro c hc
      cases hc with
      | head => exact hx
      | tail _ hc => exact ih (by omega) c hc
    · omega
theorem all_runL {l : List UInt8} (h : ∀ c ∈ l, moreB c = true) : runL l = l.length := by
  induction l with
  | nil => rfl
  | cons x r ih =>
    simp only [runL, List.length_cons]
    rw [if_pos (h x (by simp)), ih fun c hc => h c (by simp [hc])]
theorem gapL_more {c : UInt8} {r : List UInt8} (h : moreB c = true) : gapL (c :: r) = 0 := by
  have := moreB_plain h
  refine gapL_none this.1 ?_
  rw [Bool.eq_false_iff]
  intro e
  simp [List.isPrefixOf] at e
  apply this.2.2
  rw [← e.1]; rfl
theorem posL_run {l : List UInt8} (h : ∀ c ∈ l, moreB c = true) (p : Int × Int) : posL l p = (p.1, p.2 + l.length) := by
  induction l generalizing p with
  | nil => simp [posL]
  | cons x r ih =>
    have := moreB_plain (h x (by simp))
    simp only [posL, if_neg this.2.1, List.length_cons]
    rw [ih fun c hc => h c (by simp [hc])]
    simp; omega
theorem word_run {l : List UInt8} (h : wordB l = true) : l ≠ [] ∧ l.length ≤ 24 ∧ runL l = l.length := by
  simp only [wordB, List.any_eq_true, beq_iff_eq] at h
  obtain ⟨x, hx, rfl⟩ := h
  have : ∀ y ∈ wordsL, y ≠ [] ∧ y.length ≤ 24 ∧ runL y = y.length := by decide +kernel
  exact this l hx
theorem fit_run {l : List UInt8} (h : fitB l = true) : l ≠ [] ∧ l.length ≤ 24 ∧ runL l = l.length := by
  simp [fitB] at h
  refine ⟨?_, by omega, h.2⟩
  intro e; subst e; simp at h
/-- the sort of a text that is a name, a constructor or a word; 0: it is none -/
def kindL (l : List UInt8) : Int := if wordB l then 5 else if conB l then 2 else if nameB l then 1 else 0
theorem kind_run {l : List UInt8} (h : kindL l ≠ 0) : l ≠ [] ∧ l.length ≤ 24 ∧ runL l = l.length := by
  unfold kindL at h
  split at h
  · exact word_run (by assumption)
  · split at h
    · rename_i hc; simp only [conB, Bool.and_eq_true] at hc; exact fit_run hc.1
    · split at h
      · rename_i hn; simp only [nameB, Bool.and_eq_true] at hn; exact fit_run hn.1.1
      · exact absurd rfl h
theorem name_not_con {l : List UInt8} (h : nameB l = true) : conB l = false := by
  simp only [nameB, conB, Bool.and_eq_true, Bool.and_eq_false_iff, smallB, greatB, decide_eq_true_eq, decide_eq_false_iff_not] at h ⊢
  right; omega
theorem kind_sort {l : List UInt8} (h : kindL l ≠ 0) : sortL l = kindL l ∧ numL l = 0 := by
  unfold kindL at h ⊢
  by_cases hw : wordB l = true
  · simp [sortL, numL, hw]
  · by_cases hn : nameB l = true
    · have hc := name_not_con hn
      simp [sortL, numL, hw, hn, hc]
    · by_cases hc : conB l = true
      · simp [sortL, numL, hw, hn, hc]
      · simp [hw, hn, hc] at h
theorem sortL_kind {l : List UInt8} (h : kindL l = 0) : sortL l = 3 ∨ sortL l = 0 := by
  unfold kindL at h
  by_cases hw : wordB l = true
  · simp [hw] at h
  · by_cases hc : conB l = true
    · simp [hw, hc] at h
    · by_cases hn : nameB l = true
      · simp [hw, hc, hn] at h
      · unfold sortL
        simp only [hw, hn, hc]
        by_cases hl : litB l = true
        · simp [hl]
        · simp [hl]
theorem tok_whole {l : List UInt8} (h : l ≠ []) (hr : runL l = l.length) : tokSort l = sortL l ∧ tokText l = l ∧ tokNum l = numL l := by
  have hp := List.length_pos_iff.2 h
  have h0 : runL l ≠ 0 := by omega
  have ht : l.take (runL l) = l := by rw [hr]; exact List.take_length
  unfold tokSort tokText tokNum
  rw [if_neg h, if_neg h0, if_neg h0, if_neg h0, ht]
  exact ⟨rfl, rfl, rfl⟩
theorem scan_kind {l : List UInt8} (h : kindL l ≠ 0) : scanAll l = ([⟨kindL l, l, 0, 1, 1⟩, ⟨6, [], 0, 1, 1 + l.length⟩], none) := by
  obtain ⟨hne, _, hr⟩ := kind_run h
  obtain ⟨hs, hn⟩ := kind_sort h
  obtain ⟨t1, t2, t3⟩ := tok_whole hne hr
  have hall := runL_all hr
  have hg : gapL l = 0 := by
    cases l with
    | nil => exact absurd rfl hne
    | cons c r => exact gapL_more (hall c (by simp))
  have h6 := sortL_ne6 l
  unfold scanAll
  rw [scanF_tok (by rw [hg, List.drop_zero, t1, hs]; exact h) (by rw [hg, List.drop_zero, t1]; exact h6)]
  rw [hg, List.drop_zero, t2, List.take_zero, List.take_length, List.drop_length]
  obtain ⟨f, hf⟩ : ∃ f, l.length = f + 1 := ⟨l.length - 1, by have := List.length_pos_iff.2 hne; omega⟩
  rw [hf, scanF_end (by rw [List.drop_nil]; exact tokSort_end)]
  simp only [List.drop_nil, List.take_nil, posL, posL_run hall, tokAt, t1, t2, t3, hs, hn, tokSort_end]
  simp [hf, tokText, tokNum, runL, signL, signOf, signsL]
/-- the first token of a text's tokens is as its text says -/
theorem scanF_sorts {f : Nat} : ∀ {l : List UInt8} {p : Int × Int}, ∀ t ∈ (scanF f l p).1, t.sort = 6 ∨ t.sort = 4 ∨ (t.sort = sortL t.text ∧ t.sort ≠ 0) := by
  induction f with
  | zero => intro l p t ht; simp [scanF] at ht
  | succ f ih =>
    intro l p t ht
    by_cases h0 : tokSort (l.drop (gapL l)) = 0
    · rw [scanF_none h0] at ht; simp at ht
    · have one : ∀ q, (tokAt (l.drop (gapL l)) q).sort = 6 ∨ (tokAt (l.drop (gapL l)) q).sort = 4 ∨ ((tokAt (l.drop (gapL l)) q).sort = sortL (tokAt (l.drop (gapL l)) q).text ∧ (tokAt (l.drop (gapL l)) q).sort ≠ 0) := by
        intro q
        simp only [tokAt]
        by_cases he : l.drop (gapL l) = []
        · left; rw [he]; exact tokSort_end
        · right
          by_cases hr : runL (l.drop (gapL l)) = 0
          · left
            unfold tokSort at h0 ⊢
            rw [if_neg he, if_pos hr] at h0 ⊢
            split
            · rename_i hs; rw [if_pos hs] at h0; exact absurd rfl h0
            · rfl
          · right
            refine ⟨?_, h0⟩
            unfold tokSort tokText
            rw [if_neg he, if_neg hr, if_neg hr]
      by_cases h6 : tokSort (l.drop (gapL l)) = 6
      · rw [scanF_end h6] at ht
        simp only [List.mem_singleton] at ht
        rw [ht]; exact one _
      · rw [scanF_tok h0 h6] at ht
        simp only [List.mem_cons] at ht
        rcases ht with rfl | ht
        · exact one _
        · exact ih t ht
theorem scanF_two {f : Nat} {l : List UInt8} {p : Int × Int} {t u : Tok} {r : List Tok} (h : (scanF f l p).1 = t :: u :: r) : t.sort ≠ 6 := by
  cases f with
  | zero => simp [scanF] at h
  | succ f =>
    by_cases h0 : tokSort (l.drop (gapL l)) = 0
    · rw [scanF_none h0] at h; cases h
    · by_cases h6 : tokSort (l.drop (gapL l)) = 6
      · rw [scanF_end h6] at h; cases h
      · rw [scanF_tok h0 h6] at h
        simp only [List.cons.injEq] at h
        rw [← h.1]; exact h6
/-- a text that is no name, constructor or word: what scans to one token is a literal or a sign -/
theorem scan_other {l : List UInt8} (h : kindL l = 0) {t u : Tok} (h2 : (scanAll l).1 = [t, u]) (ht : t.text = l) : t.sort = 3 ∨ t.sort = 4 := by
  have h1 := scanF_sorts (f := l.length + 1) (l := l) (p := (1, 1)) t (by show t ∈ (scanAll l).1; rw [h2]; simp)
  have h6 := scanF_two (f := l.length + 1) (l := l) (p := (1, 1)) h2
  rcases h1 with h1 | h1 | ⟨h1, h0⟩
  · exact absurd h1 h6
  · exact .inr h1
  · rw [ht] at h1
    rcases sortL_kind h with e | e
    · exact .inl (h1.trans e)
    · exact absurd (h1.trans e) h0
theorem scanF_ne {f : Nat} {l : List UInt8} {p : Int × Int} (h : (scanF f l p).2 = none) : 0 < (scanF f l p).1.length := by
  cases f with
  | zero => simp [scanF] at h
  | succ f =>
    by_cases h0 : tokSort (l.drop (gapL l)) = 0
    · rw [scanF_none h0] at h; cases h
    · by_cases h6 : tokSort (l.drop (gapL l)) = 6
      · rw [scanF_end h6]; simp
      · rw [scanF_tok h0 h6]; simp
theorem scanF_len {f : Nat} : ∀ {l : List UInt8} {p : Int × Int}, (scanF f l p).1.length ≤ f := by
  induction f with
  | zero => intro l p; simp [scanF]
  | succ f ih =>
    intro l p
    by_cases h0 : tokSort (l.drop (gapL l)) = 0
    · rw [scanF_none h0]; simp
    · by_cases h6 : tokSort (l.drop (gapL l)) = 6
      · rw [scanF_end h6]; simp
      · rw [scanF_tok h0 h6]
        simp only [List.length_cons]
        exact Nat.succ_le_succ ih
theorem kind_zero {l : List UInt8} (h : kindL l = 0) : nameB l = false ∧ conB l = false ∧ wordB l = false := by
  unfold kindL at h
  by_cases hw : wordB l = true
  · simp [hw] at h
  · by_cases hc : conB l = true
    · simp [hw, hc] at h
    · by_cases hn : nameB l = true
      · simp [hw, hc, hn] at h
      · simp at hw hc hn; exact ⟨hn, hc, hw⟩
theorem kind_cases {l : List UInt8} (h : kindL l ≠ 0) :
    (kindL l = 1 ∧ nameB l = true ∧ conB l = false ∧ wordB l = false) ∨ (kindL l = 2 ∧ nameB l = false ∧ conB l = true ∧ wordB l = false) ∨ (kindL l = 5 ∧ nameB l = false ∧ conB l = false ∧ wordB l = true) := by
  by_cases hw : wordB l = true
  · refine .inr (.inr ⟨by simp [kindL, hw], by simp [nameB, hw], ?_, hw⟩)
    have hall : ∀ y ∈ wordsL, conB y = false := by decide +kernel
    simp only [wordB, List.any_eq_true, beq_iff_eq] at hw
    obtain ⟨x, hx, rfl⟩ := hw
    exact hall l hx
  · have hw' : wordB l = false := by simpa using hw
    by_cases hc : conB l = true
    · refine .inr (.inl ⟨by simp [kindL, hw', hc], ?_, hc, hw'⟩)
      cases hn : nameB l
      · rfl
      · rw [name_not_con hn] at hc; cases hc
    · have hc' : conB l = false := by simpa using hc
      by_cases hn : nameB l = true
      · exact .inl ⟨by simp [kindL, hw', hc', hn], hn, hc', hw'⟩
      · simp [kindL, hw', hc', hn] at h
end Go.Proofs.YtaimagfdjbedeaaGreatDoor
namespace Go.Proofs.YtaimagfdjbedeaaGreatDoor

/-- from byte a on, the tokens stand one behind the other in the text, each where its place says; the last one is empty, at the text's end -/
def Placed (l : List UInt8) : Nat → List Tok → Prop
  | a, [] => a = l.length
  | a, t :: r => ∃ off, a ≤ off ∧ off + t.text.length ≤ l.length ∧ (l.drop off).take t.text.length = t.text ∧ (t.line, t.col) = posL (l.take off) (1, 1) ∧ (t.text.length = 0 ↔ r = []) ∧ (∀ c ∈ t.text, c.toNat ≠ 10) ∧ Placed l (off + t.text.length) r

theorem signs_plain : ∀ p ∈ signsL, ∀ c ∈ p, c.toNat ≠ 10 := by decide +kernel
theorem sign_plain (l : List UInt8) : ∀ c ∈ signL l, c.toNat ≠ 10 := by
  unfold signL signOf
  cases h : signsL.find? fun p => p.isPrefixOf l with
  | none => intro c hc; simp at hc
  | some x => exact signs_plain x (List.mem_of_find?_eq_some h)
theorem run_take (l : List UInt8) : ∀ c ∈ l.take (runL l), moreB c = true := by
  induction l with
  | nil => intro c hc; simp at hc
  | cons x r ih =>
    simp only [runL]
    split
    · rename_i hx
      intro c hc
      rw [List.take_succ_cons] at hc
      cases hc with
      | head => exact hx
      | tail _ hc => exact ih c hc
    · intro c hc; simp at hc
theorem tok_plain (l : List UInt8) : ∀ c ∈ tokText l, c.toNat ≠ 10 := by
  unfold tokText
  split
  · exact sign_plain l
  · exact fun c hc => (moreB_plain (run_take l c hc)).2.1
theorem posL_plain {l : List UInt8} (h : ∀ c ∈ l, c.toNat ≠ 10) (p : Int × Int) : posL l p = (p.1, p.2 + l.length) := by
  induction l generalizing p with
  | nil => simp [posL]
  | cons x r ih =>
    simp only [posL, if_neg (h x (by simp)), List.length_cons]
    rw [ih fun c hc => h c (by simp [hc])]
    simp; omega
theorem tokText_nil : tokText [] = [] := by simp [tokText, runL, signL, signOf, signsL]

theorem placed_scanF {l : List UInt8} {f : Nat} : ∀ {m : Nat}, m ≤ l.length → (scanF f (l.drop m) (posL (l.take m) (1, 1))).2 = none → Placed l m (scanF f (l.drop m) (posL (l.take m) (1, 1))).1 := by
  induction f with
  | zero => intro m _ h; simp [scanF] at h
  | succ f ih =>
    intro m hm h
    have hg := gapL_le (l.drop m)
    rw [List.length_drop] at hg
    have e1 : (l.drop m).drop (gapL (l.drop m)) = l.drop (m + gapL (l.drop m)) := by rw [List.drop_drop]
    have e2 : posL ((l.drop m).take (gapL (l.drop m))) (posL (l.take m) (1, 1)) = posL (l.take (m + gapL (l.drop m))) (1, 1) := by rw [← posL_append, ← List.take_add]
    have htl := tokText_le (l.drop (m + gapL (l.drop m)))
    rw [List.length_drop] at htl
    by_cases h0 : tokSort ((l.drop m).drop (gapL (l.drop m))) = 0
    · rw [scanF_none h0] at h; cases h
    · by_cases h6 : tokSort ((l.drop m).drop (gapL (l.drop m))) = 6
      · rw [scanF_end h6]
        have hnil : l.drop (m + gapL (l.drop m)) = [] := by
          rw [← e1]
          by_cases hn : (l.drop m).drop (gapL (l.drop m)) = []
          · exact hn
          · exact absurd h6 (tokSort_ne6 hn)
        have hlen : m + gapL (l.drop m) = l.length := by
          have := congrArg List.length hnil
          rw [List.length_drop] at this
          simp at this; omega
        rw [e1, e2]
        refine ⟨m + gapL (l.drop m), by omega, ?_, ?_, rfl, ?_, ?_, ?_⟩
        · simp only [tokAt, hnil, tokText_nil, List.length_nil]; omega
        · simp only [tokAt, hnil, tokText_nil]; rfl
        · simp [tokAt, hnil, tokText_nil]
        · simp [tokAt, hnil, tokText_nil]
        · simp only [tokAt, hnil, tokText_nil, List.length_nil, Placed]; omega
      · rw [scanF_tok h0 h6] at h ⊢
        rw [e1, e2] at h ⊢
        rw [e1] at h0 h6
        have hne : l.drop (m + gapL (l.drop m)) ≠ [] := by
          intro e; rw [e, tokSort_end] at h6; exact h6 rfl
        have hpos := tokText_pos hne h0
        have e3 : (l.drop (m + gapL (l.drop m))).drop (tokText (l.drop (m + gapL (l.drop m)))).length = l.drop (m + gapL (l.drop m) + (tokText (l.drop (m + gapL (l.drop m)))).length) := by rw [List.drop_drop]
        have e4 : posL ((l.drop (m + gapL (l.drop m))).take (tokText (l.drop (m + gapL (l.drop m)))).length) (posL (l.take (m + gapL (l.drop m))) (1, 1)) = posL (l.take (m + gapL (l.drop m) + (tokText (l.drop (m + gapL (l.drop m)))).length)) (1, 1) := by rw [← posL_append, ← List.take_add]
        rw [e3, e4] at h ⊢
        have hz : (scanF f (l.drop (m + gapL (l.drop m) + (tokText (l.drop (m + gapL (l.drop m)))).length)) (posL (l.take (m + gapL (l.drop m) + (tokText (l.drop (m + gapL (l.drop m)))).length)) (1, 1))).1 ≠ [] := fun e => by
          have := scanF_ne h; rw [e] at this; simp at this
        have htl2 : m + gapL (l.drop m) + (tokText (l.drop (m + gapL (l.drop m)))).length ≤ l.length := by omega
        refine ⟨m + gapL (l.drop m), by omega, ?_, tokText_take _, rfl, ?_, tok_plain _, ih htl2 h⟩
        · show m + gapL (l.drop m) + (tokText (l.drop (m + gapL (l.drop m)))).length ≤ l.length
          omega
        · exact ⟨fun e => absurd e (by show (tokText _).length ≠ 0; omega), fun e => absurd e hz⟩
theorem placed_scan {l : List UInt8} (h : (scanAll l).2 = none) : Placed l 0 (scanAll l).1 := by
  have := placed_scanF (l := l) (f := l.length + 1) (m := 0) (Nat.zero_le _) (by simpa [posL, scanAll] using h)
  simpa [posL, scanAll] using this
theorem scanF_place {f : Nat} : ∀ {l : List UInt8} {p q : Int × Int}, 1 ≤ p.1 → 1 ≤ p.2 → (scanF f l p).2 = some q → 1 ≤ q.1 ∧ 1 ≤ q.2 := by
  induction f with
  | zero => intro l p q h1 h2 h; simp [scanF] at h; rw [← h]; exact ⟨h1, h2⟩
  | succ f ih =>
    intro l p q h1 h2 h
    have hb := posL_bd (l.take (gapL l)) p h1 h2
    by_cases h0 : tokSort (l.drop (gapL l)) = 0
    · rw [scanF_none h0] at h
      simp only [Option.some.injEq] at h
      rw [← h]; exact ⟨hb.1, hb.2.2.1⟩
    · by_cases h6 : tokSort (l.drop (gapL l)) = 6
      · rw [scanF_end h6] at h; cases h
      · rw [scanF_tok h0 h6] at h
        have hc := posL_bd ((l.drop (gapL l)).take (tokText (l.drop (gapL l))).length) (posL (l.take (gapL l)) p) hb.1 hb.2.2.1
        exact ih hc.1 hc.2.2.1 h
/-- a place further on is a greater one -/
def Less (p q : Int × Int) : Prop := p.1 < q.1 ∨ (p.1 = q.1 ∧ p.2 < q.2)
theorem Less.trans {p q r : Int × Int} (h : Less p q) (k : Less q r) : Less p r := by
  unfold Less at *; omega
theorem posL_step (l : List UInt8) (c : UInt8) (p : Int × Int) (h2 : 1 ≤ p.2) (h1 : 1 ≤ p.1) : Less (posL l p) (posL (l ++ [c]) p) := by
  have := posL_bd l p h1 h2
  rw [posL_snoc]
  unfold Less
  split
  · left; show _ < _ + 1; omega
  · right; exact ⟨rfl, by show _ < _ + 1; omega⟩
theorem posL_less {l : List UInt8} {a : Nat} : ∀ {d : Nat}, a + d + 1 ≤ l.length → Less (posL (l.take a) (1, 1)) (posL (l.take (a + d + 1)) (1, 1)) := by
  intro d
  induction d with
  | zero =>
    intro h
    rw [show a + 0 + 1 = a + 1 from rfl, List.take_succ_eq_append_getElem (by omega)]
    exact posL_step _ _ _ (by simp) (by simp)
  | succ d ih =>
    intro h
    refine Less.trans (ih (by omega)) ?_
    rw [show a + (d + 1) + 1 = (a + d + 1) + 1 from by omega, List.take_succ_eq_append_getElem (i := a + d + 1) (by omega)]
    exact posL_step _ _ _ (by simp) (by simp)
end Go.Proofs.YtaimagfdjbedeaaGreatDoor
namespace Go.Proofs.YtaimagfdjbedeaaGreatDoor

structure Key where
  sort : Int
  text : List UInt8
  num : Int
def Tok.key (t : Tok) : Key := ⟨t.sort, t.text, t.num⟩
def keyAt (l : List UInt8) : Key := ⟨tokSort l, tokText l, tokNum l⟩
def endKey : Key := ⟨6, [], 0⟩
/-- a text's tokens, the end among them -/
inductive Lex : List UInt8 → List Key → Prop
  | fin {l : List UInt8} : l.drop (gapL l) = [] → Lex l [endKey]
  | tok {l m : List UInt8} {ks : List Key} : l.drop (gapL l) = m → m ≠ [] → tokSort m ≠ 0 → Lex (m.drop (tokText m).length) ks → Lex l (keyAt m :: ks)

theorem keyAt_nil : keyAt [] = endKey := by simp [keyAt, endKey, tokSort_end, tokText_nil, tokNum, runL]
theorem lex_of_scanF {f : Nat} : ∀ {l : List UInt8} {p : Int × Int}, (scanF f l p).2 = none → Lex l ((scanF f l p).1.map Tok.key) := by
  induction f with
  | zero => intro l p h; simp [scanF] at h
  | succ f ih =>
    intro l p h
    by_cases h0 : tokSort (l.drop (gapL l)) = 0
    · rw [scanF_none h0] at h; cases h
    · by_cases h6 : l.drop (gapL l) = []
      · rw [scanF_end (by rw [h6]; exact tokSort_end), h6]
        exact .fin h6
      · have h6' := tokSort_ne6 h6
        rw [scanF_tok h0 h6'] at h ⊢
        exact .tok rfl h6 h0 (ih h)
theorem lex_scanF {l : List UInt8} {ks : List Key} (h : Lex l ks) : ∀ {f : Nat} {p : Int × Int}, l.length < f → (scanF f l p).2 = none ∧ (scanF f l p).1.map Tok.key = ks := by
  induction h with
  | fin h =>
    intro f p hf
    obtain ⟨f, rfl⟩ : ∃ g, f = g + 1 := ⟨f - 1, by omega⟩
    rw [scanF_end (by rw [h]; exact tokSort_end), h]
    exact ⟨rfl, rfl⟩
  | @tok l m ks hm h6 h0 _ ih =>
    intro f p hf
    obtain ⟨f, rfl⟩ : ∃ g, f = g + 1 := ⟨f - 1, by omega⟩
    have hlen : m.length ≤ l.length := by rw [← hm, List.length_drop]; omega
    have hp := tokText_pos h6 h0
    have hl : (m.drop (tokText m).length).length < f := by rw [List.length_drop]; have := List.length_pos_iff.2 h6; omega
    subst hm
    rw [scanF_tok h0 (tokSort_ne6 h6)]
    obtain ⟨h1, h2⟩ := ih (p := posL ((l.drop (gapL l)).take (tokText (l.drop (gapL l))).length) (posL (l.take (gapL l)) p)) hl
    exact ⟨h1, by rw [List.map_cons, h2]; rfl⟩
theorem lex_of_scan {l : List UInt8} (h : (scanAll l).2 = none) : Lex l ((scanAll l).1.map Tok.key) := lex_of_scanF h
theorem scan_of_lex {l : List UInt8} {ks : List Key} (h : Lex l ks) : (scanAll l).2 = none ∧ (scanAll l).1.map Tok.key = ks := lex_scanF h (by omega)
theorem Lex.same {l l' : List UInt8} {ks : List Key} (h : Lex l ks) (he : l'.drop (gapL l') = l.drop (gapL l)) : Lex l' ks := by
  cases h with
  | fin h => exact .fin (he.trans h)
  | tok hm h6 h0 hr => exact .tok (he.trans hm) h6 h0 hr
theorem Lex.ne {l : List UInt8} {ks : List Key} (h : Lex l ks) : ks ≠ [] := by cases h <;> simp

/-- a byte behind which nothing of a token goes on -/
def sepB (c : UInt8) : Prop := c.toNat = 10 ∨ c.toNat = 32
theorem sep_more {c : UInt8} (h : sepB c) : moreB c = false := by
  rcases h with h | h <;> simp [moreB, smallB, greatB, digitB, h]
theorem signs_sep : ∀ p ∈ signsL, ∀ x ∈ p, x.toNat ≠ 10 ∧ x.toNat ≠ 32 := by decide +kernel
theorem prefix_sep {p : List UInt8} {c : UInt8} (hp : c ∉ p) (r : List UInt8) : ∀ (m : List UInt8), p.isPrefixOf (m ++ c :: r) = p.isPrefixOf m := by
  induction p with
  | nil => intro m; cases m <;> rfl
  | cons x p ih =>
    intro m
    cases m with
    | nil =>
      have : (x == c) = false := by simp; rintro rfl; simp at hp
      simp [List.isPrefixOf, this]
    | cons y m =>
      simp only [List.cons_append, List.isPrefixOf]
      rw [ih (fun h => hp (by simp [h]))]
theorem find_congr' {α : Type} {p q : α → Bool} : ∀ {l : List α}, (∀ x ∈ l, p x = q x) → l.find? p = l.find? q
  | [], _ => rfl
  | x :: r, h => by simp only [List.find?_cons, h x (by simp)]; rw [find_congr' fun y hy => h y (by simp [hy])]
theorem sign_sep {c : UInt8} (hc : sepB c) (m r : List UInt8) : signL (m ++ c :: r) = signL m := by
  unfold signL signOf
  rw [find_congr' (q := fun p => p.isPrefixOf m)]
  intro p hp
  exact prefix_sep (fun hx => by have := signs_sep p hp c hx; rcases hc with h | h <;> omega) r m
theorem run_sep {c : UInt8} (hc : sepB c) (r : List UInt8) : ∀ (m : List UInt8), runL (m ++ c :: r) = runL m
  | [] => by simp [runL, sep_more hc]
  | x :: m => by simp only [List.cons_append, runL]; rw [run_sep hc r m]
theorem take_sep (m s : List UInt8) : (m ++ s).take (runL m) = m.take (runL m) := by
  rw [List.take_append_of_le_length (runL_le m)]
theorem key_sep {c : UInt8} (hc : sepB c) {m : List UInt8} (hm : m ≠ []) (r : List UInt8) : keyAt (m ++ c :: r) = keyAt m := by
  simp only [keyAt, tokSort, tokText, tokNum, run_sep hc, sign_sep hc, take_sep]
  simp [hm]
theorem com_nl (r : List UInt8) {c : UInt8} (hc : c.toNat = 10) : ∀ (m : List UInt8), comL (m ++ c :: r) = comL m
  | [] => by simp [comL, hc]
  | x :: m => by simp only [List.cons_append, comL]; rw [com_nl r hc m]
theorem note_prefix {m r : List UInt8} {c : UInt8} (hc : sepB c) : [45, 45].isPrefixOf (m ++ c :: r) = [45, 45].isPrefixOf m :=
  prefix_sep (fun h => by
    have : c = 45 := by simpa using h
    subst this
    rcases hc with h | h <;> exact absurd h (by decide)) r m
/-- the blanks of a text that goes on with a new line -/
theorem gap_nl (r : List UInt8) {c : UInt8} (hc : c.toNat = 10) : ∀ (n : Nat) (a : List UInt8), a.length ≤ n → gapL (a ++ c :: r) = if gapL a = a.length then a.length + gapL (c :: r) else gapL a := by
  have hs : sepB c := .inl hc
  intro n
  induction n with
  | zero => intro a ha; have : a = [] := List.eq_nil_of_length_eq_zero (by omega); subst this; simp [gapL_nil]
  | succ n ih =>
    intro a ha
    cases a with
    | nil => simp [gapL_nil]
    | cons x a =>
      simp only [List.length_cons] at ha
      by_cases h1 : spaceB x = true
      · rw [List.cons_append, gapL_space h1, gapL_space h1, ih a (by omega)]
        by_cases h : gapL a = a.length
        · simp [h]; omega
        · rw [if_neg h, if_neg (by simpa using h)]
      · have h1 : spaceB x = false := by simpa using h1
        by_cases h2 : [45, 45].isPrefixOf (x :: a) = true
        · have h3 : [45, 45].isPrefixOf (x :: (a ++ c :: r)) = true := by
            rw [← List.cons_append, note_prefix hs]; exact h2
          have hp := comL_pos h2
          have hle := comL_le (x :: a)
          have hcm : comL (x :: (a ++ c :: r)) = comL (x :: a) := by rw [← List.cons_append]; exact com_nl r hc _
          rw [List.cons_append, gapL_note h1 h3, gapL_note h1 h2, hcm, ← List.cons_append, List.drop_append_of_le_length hle, ih _ (by rw [List.length_drop, List.length_cons]; omega), List.length_drop]
          have hg := gapL_le ((x :: a).drop (comL (x :: a)))
          rw [List.length_drop] at hg
          by_cases h : gapL ((x :: a).drop (comL (x :: a))) = (x :: a).length - comL (x :: a)
          · rw [if_pos h, if_pos (by omega)]; omega
          · rw [if_neg h, if_neg (by omega)]
        · have h2 : [45, 45].isPrefixOf (x :: a) = false := Bool.not_eq_true _ ▸ h2
          have h3 : [45, 45].isPrefixOf (x :: (a ++ c :: r)) = false := by
            rw [← List.cons_append, note_prefix hs]; exact h2
          rw [List.cons_append, gapL_none h1 h3, gapL_none h1 h2]
          simp
/-- two texts one behind the other, a new line between -/
theorem lex_append {a : List UInt8} {ks : List Key} (h : Lex a ks) {c : UInt8} (hc : c.toNat = 10) {r : List UInt8} {qs : List Key} (hr : Lex (c :: r) qs) : Lex (a ++ c :: r) (ks.dropLast ++ qs) := by
  have hs : sepB c := .inl hc
  induction h with
  | @fin a h =>
    have hl : gapL a = a.length := by
      have h1 := congrArg List.length h
      have h2 := gapL_le a
      rw [List.length_drop, List.length_nil] at h1
      omega
    have hg := gap_nl r hc _ a (Nat.le_refl _)
    rw [if_pos hl] at hg
    refine hr.same ?_
    rw [hg, ← List.drop_drop, List.drop_left]
  | @tok a m ks hm h6 h0 hk ih =>
    have hl : gapL a ≠ a.length := fun e => h6 (by rw [← hm, e]; exact List.drop_length)
    have hle := gapL_le a
    have hg := gap_nl r hc _ a (Nat.le_refl _)
    rw [if_neg hl] at hg
    have hd : (a ++ c :: r).drop (gapL (a ++ c :: r)) = m ++ c :: r := by rw [hg, List.drop_append_of_le_length hle, hm]
    have hk' := key_sep hs h6 r
    have hso : tokSort (m ++ c :: r) = tokSort m := congrArg Key.sort hk'
    have htx : tokText (m ++ c :: r) = tokText m := congrArg Key.text hk'
    have := Lex.tok hd (by simp) (by rw [hso]; exact h0) (ks := ks.dropLast ++ qs) (by rw [htx, List.drop_append_of_le_length (tokText_le m)]; exact ih)
    rw [hk'] at this
    rw [List.dropLast_cons_of_ne_nil hk.ne]
    exact this
theorem gap_skip {c : UInt8} {r : List UInt8} (h : spaceB c = true) : (c :: r).drop (gapL (c :: r)) = r.drop (gapL r) := by rw [gapL_space h]; rfl
theorem lex_skip {c : UInt8} {r : List UInt8} {ks : List Key} (h : spaceB c = true) (hr : Lex r ks) : Lex (c :: r) ks := hr.same (gap_skip h)
theorem com_plain {n : List UInt8} (h : ∀ x ∈ n, x.toNat ≠ 10) {c : UInt8} (hc : c.toNat = 10) (r : List UInt8) : comL (n ++ c :: r) = n.length := by
  induction n with
  | nil => simp [comL, hc]
  | cons x n ih => simp only [List.cons_append, comL, if_neg (h x (by simp)), List.length_cons]; rw [ih fun y hy => h y (by simp [hy])]
def sepL (note : List UInt8) : List UInt8 := [10, 32, 45, 45, 32] ++ note ++ [10, 9]
/-- a blank and a note between two texts -/
theorem lex_blanks {a b note : List UInt8} {ka kb : List Key} (ha : Lex a ka) (hb : Lex b kb) (hn : ∀ x ∈ note, x.toNat ≠ 10) : Lex (a ++ sepL note ++ b) (ka.dropLast ++ kb) := by
  have e : a ++ sepL note ++ b = a ++ 10 :: (32 :: (45 :: 45 :: 32 :: note ++ 10 :: 9 :: b)) := by simp [sepL]
  rw [e]
  refine lex_append ha rfl (lex_skip rfl (lex_skip rfl ?_))
  have h10 : Lex (10 :: 9 :: b) kb := lex_skip rfl (lex_skip rfl hb)
  refine h10.same ?_
  have hp : [45, 45].isPrefixOf (45 :: (45 :: 32 :: note ++ 10 :: 9 :: b)) = true := rfl
  have hc : comL (45 :: (45 :: 32 :: note ++ 10 :: 9 :: b)) = (45 :: 45 :: 32 :: note).length := com_plain (n := 45 :: 45 :: 32 :: note) (fun x hx => by
    simp only [List.mem_cons] at hx
    rcases hx with rfl | rfl | rfl | hx
    · decide
    · decide
    · decide
    · exact hn x hx) (c := 10) rfl (9 :: b)
  have hg := gapL_note (c := 45) (r := 45 :: 32 :: note ++ 10 :: 9 :: b) rfl hp
  rw [hc] at hg
  have hd : (45 :: (45 :: 32 :: note ++ 10 :: 9 :: b)).drop (45 :: 45 :: 32 :: note).length = 10 :: 9 :: b := List.drop_left (l₁ := 45 :: 45 :: 32 :: note) (l₂ := 10 :: 9 :: b)
  rw [hd] at hg
  show (45 :: (45 :: 32 :: note ++ 10 :: 9 :: b)).drop (gapL (45 :: (45 :: 32 :: note ++ 10 :: 9 :: b))) = _
  rw [hg, Nat.add_comm, ← List.drop_drop, hd]

theorem com_lt {l : List UInt8} : ∀ {k : Nat}, k < comL l → ∀ (hk : k < l.length), (l[k]'hk).toNat ≠ 10 := by
  induction l with
  | nil => intro k _ hk; simp at hk
  | cons x r ih =>
    intro k h hk
    simp only [comL] at h
    split at h
    · omega
    · rename_i hx
      cases k with
      | zero => simpa using hx
      | succ k => simpa using ih (by omega) (by simpa using hk)
theorem com_at {l : List UInt8} (h : comL l < l.length) : (l[comL l]'h).toNat = 10 := by
  induction l with
  | nil => simp at h
  | cons x r ih =>
    by_cases hx : x.toNat = 10
    · have : comL (x :: r) = 0 := by simp [comL, hx]
      simp only [this, List.getElem_cons_zero, hx]
    · have e : comL (x :: r) = comL r + 1 := by simp [comL, hx]
      simp only [e, List.getElem_cons_succ]
      rw [e, List.length_cons] at h
      exact ih (by omega)
theorem com_all {l : List UInt8} (h : comL l = l.length) : ∀ x ∈ l, x.toNat ≠ 10 := by
  intro x hx
  obtain ⟨k, hk, rfl⟩ := List.getElem_of_mem hx
  exact com_lt (by omega) hk

/-- what tokens spell -/
def spellL : List (List UInt8) → List UInt8
  | [] => []
  | t :: r => t ++ (if r = [] then [] else 32 :: spellL r)
theorem run_self (l : List UInt8) : runL (l.take (runL l)) = runL l := by
  induction l with
  | nil => rfl
  | cons x r ih =>
    simp only [runL]
    split
    · rename_i hx
      rw [List.take_succ_cons]
      simp only [runL, hx, if_true, ih]
    · rfl
theorem signs_self : ∀ p ∈ signsL, signL p = p ∧ runL p = 0 ∧ p ≠ [] ∧ spaceB (p.headD 0) = false ∧ [45, 45].isPrefixOf p = false := by decide +kernel
theorem signL_mem {l : List UInt8} (h : signL l ≠ []) : signL l ∈ signsL := by
  unfold signL signOf at *
  cases hf : signsL.find? fun p => p.isPrefixOf l with
  | none => simp [hf] at h
  | some x => exact List.mem_of_find?_eq_some hf
theorem more_space {c : UInt8} (h : moreB c = true) : spaceB c = false ∧ c.toNat ≠ 45 := by
  simp [moreB, smallB, greatB, digitB] at h
  simp [spaceB]
  omega
theorem key_self {m : List UInt8} (h6 : m ≠ []) (h0 : tokSort m ≠ 0) : keyAt (tokText m) = keyAt m ∧ ∀ r, gapL (tokText m ++ 32 :: r) = 0 := by
  have hs : sepB 32 := .inr rfl
  by_cases hr : runL m = 0
  · have ht : tokText m = signL m := by simp [tokText, hr]
    have hne : signL m ≠ [] := by
      intro e; apply h0; simp [tokSort, h6, hr, e]
    obtain ⟨s1, s2, s3, s4, s5⟩ := signs_self _ (signL_mem hne)
    rw [ht]
    refine ⟨by simp [keyAt, tokSort, tokText, tokNum, s1, s2, hr, h6, hne], fun r => ?_⟩
    have hn := note_prefix (m := signL m) (r := r) hs
    rw [s5] at hn
    generalize signL m = p at *
    cases p with
    | nil => exact absurd rfl s3
    | cons x p => exact gapL_none s4 hn
  · have ht : tokText m = m.take (runL m) := by simp [tokText, hr]
    have hl := runL_le m
    have hrt := run_self m
    have htt : (m.take (runL m)).take (runL m) = m.take (runL m) := by rw [List.take_take, Nat.min_self]
    have hne : m.take (runL m) ≠ [] := by
      intro e; have := congrArg List.length e; rw [List.length_take, List.length_nil] at this; omega
    rw [ht]
    refine ⟨by simp only [keyAt, tokSort, tokText, tokNum, hrt, htt]; simp [hr, h6, hne], fun r => ?_⟩
    have hall := run_take m
    have hn := note_prefix (m := m.take (runL m)) (r := r) hs
    generalize m.take (runL m) = p at *
    cases p with
    | nil => exact absurd rfl hne
    | cons x p =>
      obtain ⟨g1, g2⟩ := more_space (hall x (by simp))
      refine gapL_none g1 (hn.trans ?_)
      have : (45 == x) = false := by simp; rintro rfl; exact g2 rfl
      simp [List.isPrefixOf, this]
theorem lex_texts {l : List UInt8} {ks : List Key} (h : Lex l ks) : ks.map Key.text ≠ [] := by simpa using h.ne
theorem lex_spell {l : List UInt8} {ks : List Key} (h : Lex l ks) : Lex (spellL (ks.map Key.text)) ks := by
  induction h with
  | fin h => exact .fin rfl
  | @tok l m ks hm h6 h0 hk ih =>
    obtain ⟨h1, h2⟩ := key_self h6 h0
    have e : spellL ((keyAt m :: ks).map Key.text) = tokText m ++ 32 :: spellL (ks.map Key.text) := by
      rw [List.map_cons, spellL, if_neg (lex_texts hk)]; rfl
    have hp := tokText_pos h6 h0
    have hne : tokText m ≠ [] := List.length_pos_iff.1 hp
    have hk' := (key_sep (.inr rfl) hne (spellL (ks.map Key.text)) (c := 32)).trans h1
    have hso : tokSort (tokText m ++ 32 :: spellL (ks.map Key.text)) = tokSort m := congrArg Key.sort hk'
    have htx : tokText (tokText m ++ 32 :: spellL (ks.map Key.text)) = tokText m := congrArg Key.text hk'
    rw [e]
    have := Lex.tok (l := tokText m ++ 32 :: spellL (ks.map Key.text)) (m := tokText m ++ 32 :: spellL (ks.map Key.text)) (by rw [h2]; rfl) (by simp) (by rw [hso]; exact h0) (ks := ks) (by rw [htx, List.drop_left]; exact lex_skip rfl ih)
    rw [hk'] at this
    exact this
theorem lex_spell_len {l : List UInt8} {ks : List Key} (h : Lex l ks) : (spellL (ks.map Key.text)).length ≤ 2 * l.length := by
  induction h with
  | fin _ => simp [spellL, endKey]
  | @tok l m ks hm h6 h0 hk ih =>
    have e : spellL ((keyAt m :: ks).map Key.text) = tokText m ++ 32 :: spellL (ks.map Key.text) := by
      rw [List.map_cons, spellL, if_neg (lex_texts hk)]; rfl
    have hp := tokText_pos h6 h0
    have hlen : m.length ≤ l.length := by rw [← hm, List.length_drop]; omega
    have htl := tokText_le m
    rw [List.length_drop] at ih
    rw [e, List.length_append, List.length_cons]
    omega
end Go.Proofs.YtaimagfdjbedeaaGreatDoor
namespace Go.Proofs.YtaimagfdjbedeaaGreatDoor

def digV (acc : Nat) (l : List UInt8) : Nat := l.foldl (fun a c => a * 10 + (c.toNat - 48)) acc
def AllDig (l : List UInt8) : Prop := ∀ c ∈ l, 48 ≤ c.toNat ∧ c.toNat ≤ 57
theorem digV_cons (acc : Nat) (c : UInt8) (r : List UInt8) : digV acc (c :: r) = digV (acc * 10 + (c.toNat - 48)) r := List.foldl_cons ..
theorem digV_nil (acc : Nat) : digV acc [] = acc := List.foldl_nil ..
/-- ten, so many times -/
def ten : Nat → Nat
  | 0 => 1
  | n + 1 => 10 * ten n
theorem ten_pos (n : Nat) : 1 ≤ ten n := by
  induction n with
  | zero => exact Nat.le_refl _
  | succ n ih => simp only [ten]; omega
theorem ten_mono {a b : Nat} (h : a ≤ b) : ten a ≤ ten b := by
  induction b with
  | zero => have : a = 0 := by omega
            subst this; exact Nat.le_refl _
  | succ b ih =>
    by_cases hb : a = b + 1
    · subst hb; exact Nat.le_refl _
    · have := ih (by omega); simp only [ten]; omega
theorem ten_step (acc n : Nat) : acc * ten (n + 1) = acc * 10 * ten n := by
  rw [Nat.mul_assoc]; rfl
theorem digV_ge (l : List UInt8) : ∀ acc, acc * ten l.length ≤ digV acc l := by
  induction l with
  | nil => intro acc; rw [digV_nil]; simp [ten]
  | cons c r ih =>
    intro acc
    have h1 := ih (acc * 10 + (c.toNat - 48))
    have h2 : acc * 10 * ten r.length ≤ (acc * 10 + (c.toNat - 48)) * ten r.length := Nat.mul_le_mul_right _ (Nat.le_add_right _ _)
    rw [digV_cons, List.length_cons, ten_step]
    exact Nat.le_trans h2 h1
theorem digV_lt {l : List UInt8} (h : AllDig l) : ∀ acc, digV acc l < (acc + 1) * ten l.length := by
  induction l with
  | nil => intro acc; rw [digV_nil]; simp [ten]
  | cons c r ih =>
    intro acc
    have hc := h c (by simp)
    have h1 := ih (fun x hx => h x (by simp [hx])) (acc * 10 + (c.toNat - 48))
    have h2 : (acc * 10 + (c.toNat - 48) + 1) * ten r.length ≤ (acc + 1) * 10 * ten r.length := Nat.mul_le_mul_right _ (by omega)
    rw [digV_cons, List.length_cons, ten_step]
    exact Nat.lt_of_lt_of_le h1 h2
theorem digV_acc (l : List UInt8) (acc : Nat) : acc ≤ digV acc l :=
  Nat.le_trans (Nat.le_mul_of_pos_right _ (ten_pos _)) (digV_ge l acc)
theorem digV_snoc (l : List UInt8) (c : UInt8) : ∀ acc, digV acc (l ++ [c]) = digV acc l * 10 + (c.toNat - 48) := by
  induction l with
  | nil => intro acc; rw [List.nil_append, digV_cons, digV_nil, digV_nil]
  | cons x r ih => intro acc; rw [List.cons_append, digV_cons, digV_cons]; exact ih _
theorem parse_dig {l : List UInt8} (h : AllDig l) : ∀ acc, acc ≤ 18446744073709551615 → (digV acc l ≤ 18446744073709551615 → Lib.parseUintM 18446744073709551615 acc l = .ok (digV acc l)) ∧ (18446744073709551615 < digV acc l → Lib.parseUintM 18446744073709551615 acc l = .range) := by
  induction l with
  | nil =>
    intro acc ha
    rw [digV_nil]
    exact ⟨fun _ => rfl, fun h => by omega⟩
  | cons c r ih =>
    intro acc ha
    have hc := h c (by simp)
    have hr := digV_acc r (acc * 10 + (c.toNat - 48))
    rw [digV_cons]
    generalize hv : digV (acc * 10 + (c.toNat - 48)) r = V at hr
    simp only [Lib.parseUintM]
    rw [if_pos hc]
    by_cases h1 : 1844674407370955162 ≤ acc
    · rw [if_pos h1]
      exact ⟨fun hh => absurd hh (by omega), fun _ => rfl⟩
    · rw [if_neg h1]
      by_cases h2 : 18446744073709551615 < acc * 10 + (c.toNat - 48)
      · rw [if_pos h2]
        exact ⟨fun hh => absurd hh (by omega), fun _ => rfl⟩
      · rw [if_neg h2]
        have := ih (fun x hx => h x (by simp [hx])) (acc * 10 + (c.toNat - 48)) (by omega)
        rw [hv] at this
        exact this
theorem parse_ok_dig {M : Nat} : ∀ {l : List UInt8} {acc u : Nat}, Lib.parseUintM M acc l = .ok u → AllDig l := by
  intro l
  induction l with
  | nil => intro acc u _ c hc; cases hc
  | cons c r ih =>
    intro acc u h
    simp only [Lib.parseUintM] at h
    split at h
    · rename_i hc
      split at h
      · cases h
      · split at h
        · cases h
        · intro x hx
          cases hx with
          | head => exact hc
          | tail _ hx => exact ih h x hx
    · cases h
theorem uintB_eq {l : List UInt8} (hl : l ≠ []) : Lib.parseUintB 64 l = Lib.parseUintM 18446744073709551615 0 l := by
  unfold Lib.parseUintB
  rw [if_neg hl]
theorem parse_small {l : List UInt8} (hl : l ≠ []) (h : AllDig l) (hv : digV 0 l < 9223372036854775808) : Lib.parseIntB 64 l = .ok (digV 0 l : Int) := by
  cases l with
  | nil => exact absurd rfl hl
  | cons c r =>
    have hc := h c (by simp)
    have hp := (parse_dig h 0 (by omega)).1 (by omega)
    generalize digV 0 (c :: r) = V at hv hp ⊢
    unfold Lib.parseIntB
    simp only
    rw [if_neg (by omega), uintB_eq hl, hp]
    simp only
    rw [if_neg (by rintro ⟨_, h⟩; omega), if_neg (by rintro ⟨h, _⟩; omega), if_neg (by omega)]
theorem parse_great {l : List UInt8} (hl : l ≠ []) (h : AllDig l) (hv : 9223372036854775808 ≤ digV 0 l) : ∀ v, Lib.parseIntB 64 l ≠ .ok v := by
  cases l with
  | nil => exact absurd rfl hl
  | cons c r =>
    have hc := h c (by simp)
    have hp := parse_dig h 0 (by omega)
    generalize digV 0 (c :: r) = V at hv hp ⊢
    intro v hn
    unfold Lib.parseIntB at hn
    simp only at hn
    rw [if_neg (by omega), uintB_eq hl] at hn
    by_cases h1 : V ≤ 18446744073709551615
    · rw [hp.1 h1] at hn
      simp only at hn
      rw [if_pos ⟨by omega, by omega⟩] at hn
      cases hn
    · rw [hp.2 (by omega)] at hn
      cases hn
theorem litL_dig {l : List UInt8} (hl : l ≠ []) (h : AllDig l) :
    litL l = if 1 < l.length ∧ (l.head?.getD 0).toNat = 48 then none else if digV 0 l < 9223372036854775808 then some (digV 0 l : Int) else none := by
  unfold litL
  split
  · rfl
  · by_cases hv : digV 0 l < 9223372036854775808
    · rw [if_pos hv, parse_small hl h hv]
    · rw [if_neg hv]
      have hp := parse_great hl h (by omega)
      cases hq : Lib.parseIntB 64 l with
      | ok v => exact absurd hq (hp v)
      | _ => rfl
theorem litL_noS {l : List UInt8} (hp : ∀ n, Lib.parseIntB 64 l ≠ .ok n) : litL l = none := by
  unfold litL
  split
  · rfl
  · split
    · rename_i v hv; exact absurd hv (hp v)
    · rfl
theorem litL_not {l : List UInt8} (hr : ∀ c ∈ l, moreB c = true) (h : ¬ AllDig l) : litL l = none := by
  apply litL_noS
  intro n hn
  cases l with
  | nil => exact h (fun c hc => by cases hc)
  | cons c r =>
    have hc := hr c (by simp)
    have hp := moreB_plain hc
    have h43 : c.toNat ≠ 43 := by
      intro e
      simp only [moreB, smallB, greatB, digitB, Bool.or_eq_true, Bool.and_eq_true, decide_eq_true_eq] at hc
      omega
    unfold Lib.parseIntB at hn
    simp only at hn
    rw [if_neg (by rintro (h | h) <;> omega), uintB_eq (by simp)] at hn
    split at hn
    · cases hn
    · cases hn
    · rename_i u hu
      exact h (parse_ok_dig hu)
/-- where a text of digits is too long, its number is too great -/
theorem dig_long {l : List UInt8} (h : AllDig l) (hlen : 19 < l.length) (h0 : (l.head?.getD 0).toNat ≠ 48) : 9223372036854775808 ≤ digV 0 l := by
  cases l with
  | nil => simp at hlen
  | cons c r =>
    have hc := h c (by simp)
    simp only [List.head?_cons, Option.getD_some] at h0
    simp only [List.length_cons] at hlen
    have h1 := digV_ge r (0 * 10 + (c.toNat - 48))
    have h2 : ten 19 ≤ ten r.length := ten_mono (by omega)
    have h3 : 1 * ten 19 ≤ (0 * 10 + (c.toNat - 48)) * ten r.length := Nat.mul_le_mul (by omega) h2
    have h4 : ten 19 = 10000000000000000000 := by kernel_rfl
    rw [digV_cons]
    omega
theorem dig_short {l : List UInt8} (h : AllDig l) {k : Nat} (hk : l.length ≤ k) : digV 0 l < ten k := by
  have h1 := digV_lt h 0
  have h2 : ten l.length ≤ ten k := ten_mono hk
  omega
end Go.Proofs.YtaimagfdjbedeaaGreatDoor
