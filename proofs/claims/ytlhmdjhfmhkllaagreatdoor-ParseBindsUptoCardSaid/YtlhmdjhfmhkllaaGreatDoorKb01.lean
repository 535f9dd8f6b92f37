/-
  Texts joined.
-/
import Derived.Lib.Bytealg
import Derived.Lib.ParseIntB
import Derived.Lib.Strings
import Derived.WalkKit
namespace Go.Proofs.YtlhmdjhfmhkllaaGreatDoor
theorem ret_bool {a b : Bool} (h : a = b) : Ending.returned (.bool a) = .returned (.bool b) := by rw [h]
theorem ret_int {k : IntKind} {a b : Int} (h : a = b) : Ending.returned (.int k a) = .returned (.int k b) := by rw [h]
def smallB (c : UInt8) : Bool := decide (97 ≤ c.toNat) && decide (c.toNat ≤ 122)
def greatB (c : UInt8) : Bool := decide (65 ≤ c.toNat) && decide (c.toNat ≤ 90)
def digitB (c : UInt8) : Bool := decide (48 ≤ c.toNat) && decide (c.toNat ≤ 57)
def spaceB (c : UInt8) : Bool := decide (c.toNat = 32) || decide (c.toNat = 9) || decide (c.toNat = 13) || decide (c.toNat = 10)
def moreB (c : UInt8) : Bool := smallB c || greatB c || digitB c || decide (c.toNat = 95)
def runL : List UInt8 → Nat
  | [] => 0
  | c :: r => if moreB c then runL r + 1 else 0
theorem runL_le (l : List UInt8) : runL l ≤ l.length := by
  induction l with
  | nil => simp [runL]
  | cons c r ih => simp only [runL, List.length_cons]; split <;> omega
theorem runL_cons_yes {c : UInt8} {r : List UInt8} (h : moreB c = true) : runL (c :: r) = runL r + 1 := by simp [runL, h]
theorem runL_cons_no {c : UInt8} {r : List UInt8} (h : moreB c = false) : runL (c :: r) = 0 := by simp [runL, h]
theorem drop_cons (s : ByteArray) (k : Nat) (h : k < s.size) : s.data.toList.drop k = s[k] :: s.data.toList.drop (k + 1) := by
  rw [List.drop_eq_getElem_cons (by simpa using h)]; rfl
theorem drop_end (s : ByteArray) (k : Nat) (h : s.size ≤ k) : s.data.toList.drop k = [] := by
  apply List.drop_of_length_le; simpa using h
def wordsL : List (List UInt8) :=
  [[116, 121, 112, 101], [110, 111, 100, 101], [119, 104, 101, 114, 101], [101, 110, 100], [97, 117, 116, 111, 109, 97, 116, 111, 110],
   [115, 116, 97, 116, 101], [117, 110, 116, 105, 108], [116, 104, 101, 110], [105, 102], [101, 108, 115, 101], [102, 98, 121], [112, 114, 101],
   [110, 111, 116], [97, 110, 100], [111, 114], [119, 104, 101, 110], [109, 101, 114, 103, 101], [109, 97, 116, 99, 104], [101, 118, 101, 114, 121],
   [116, 114, 117, 101], [102, 97, 108, 115, 101]]
def wordB (l : List UInt8) : Bool := wordsL.any (l == ·)
def fitB (l : List UInt8) : Bool := decide (1 ≤ l.length) && decide (l.length ≤ 24) && decide (runL l = l.length)
def nameB (l : List UInt8) : Bool := fitB l && smallB (l.headD 0) && !wordB l
def conB (l : List UInt8) : Bool := fitB l && greatB (l.headD 0)
/-- how many bytes a note is long: up to the line's end -/
def comL : List UInt8 → Nat
  | [] => 0
  | c :: r => if c.toNat = 10 then 0 else comL r + 1
theorem comL_le (l : List UInt8) : comL l ≤ l.length := by
  induction l with
  | nil => simp [comL]
  | cons c r ih => simp only [comL, List.length_cons]; split <;> omega
theorem indexByte_com (l : List UInt8) : (Lib.indexByte l 10 = -1 ∧ comL l = l.length) ∨ Lib.indexByte l 10 = (comL l : Nat) := by
  induction l with
  | nil => simp [Lib.indexByte, comL]
  | cons c r ih =>
    have hc : (c == 10) = decide (c.toNat = 10) := by
      rw [Bool.eq_iff_iff]; simp only [beq_iff_eq, decide_eq_true_eq]; exact ⟨fun h => by rw [h]; rfl, fun h => UInt8.toNat_inj.1 h⟩
    simp only [Lib.indexByte, comL, hc]; by_cases h : c.toNat = 10
    · simp [h]
    · rcases ih with ⟨h1, h2⟩ | h1
      · simp [h, h1, h2]
      · have : ((comL r : Nat) : Int) ≠ -1 := by omega
        simp [h, h1, this]
def signsL : List (List UInt8) := [[45, 62], [60, 61], [60, 62], [40], [41], [91], [93], [60], [61], [44], [59], [58], [124], [43], [45], [42], [47], [37]]
/-- the first sign that a text begins with -/
def signOf (n : List (List UInt8)) (l : List UInt8) : List UInt8 := (n.find? fun p => p.isPrefixOf l).getD []
def signL (l : List UInt8) : List UInt8 := signOf signsL l
/-- the number of a literal -/
def litL (l : List UInt8) : Option Int :=
  if 1 < l.length ∧ (l.head?.getD 0).toNat = 48 then none else match Lib.parseIntB 64 l with | .ok v => some v | _ => none
def litN (l : List UInt8) : Int := (litL l).getD 0
def litB (l : List UInt8) : Bool := (litL l).isSome
/-- the sort of a run, and its number -/
def sortL (l : List UInt8) : Int := if wordB l then 5 else if nameB l then 1 else if conB l then 2 else if litB l then 3 else 0
def numL (l : List UInt8) : Int := if wordB l then 0 else if nameB l then 0 else if conB l then 0 else litN l
/-- the token that a text begins with: its text, its sort (6: the end; 0: none), its number -/
def tokText (l : List UInt8) : List UInt8 := if runL l = 0 then signL l else l.take (runL l)
def tokSort (l : List UInt8) : Int := if l = [] then 6 else if runL l = 0 then (if signL l = [] then 0 else 4) else sortL (l.take (runL l))
def tokNum (l : List UInt8) : Int := if runL l = 0 then 0 else numL (l.take (runL l))
def str (l : List UInt8) : ByteArray := ⟨l.toArray⟩
theorem str_toList (l : List UInt8) : (str l).data.toList = l := rfl
theorem str_size (l : List UInt8) : (str l).size = l.length := rfl
theorem str_eq (s : ByteArray) : str s.data.toList = s := by cases s; rfl
theorem extract_str (s : ByteArray) (a b : Nat) : s.extract a b = str ((s.data.toList.take b).drop a) := by
  apply ByteArray.ext; rw [ByteArray.data_extract]; apply Array.ext'; simp [str, List.drop_take]
/-- the place behind bytes -/
def posL : List UInt8 → Int × Int → Int × Int
  | [], p => p
  | c :: r, p => posL r (if c.toNat = 10 then (p.1 + 1, 1) else (p.1, p.2 + 1))
theorem posL_append (l m : List UInt8) (p : Int × Int) : posL (l ++ m) p = posL m (posL l p) := by
  induction l generalizing p with
  | nil => rfl
  | cons c r ih => simp only [List.cons_append, posL]; rw [ih]
theorem posL_snoc (l : List UInt8) (c : UInt8) (p : Int × Int) : posL (l ++ [c]) p = if c.toNat = 10 then ((posL l p).1 + 1, 1) else ((posL l p).1, (posL l p).2 + 1) := by
  rw [posL_append]; rfl
theorem posL_bd (l : List UInt8) (p : Int × Int) (h1 : 1 ≤ p.1) (h2 : 1 ≤ p.2) : 1 ≤ (posL l p).1 ∧ (posL l p).1 ≤ p.1 + l.length ∧ 1 ≤ (posL l p).2 ∧ (posL l p).2 ≤ p.2 + l.length := by
  induction l generalizing p with
  | nil => simp [posL, h1, h2]
  | cons c r ih =>
    simp only [posL, List.length_cons]; by_cases h : c.toNat = 10
    · have := ih (p.1 + 1, 1) (by simp; omega) (by simp); simp only [h, if_true] at this ⊢; omega
    · have := ih (p.1, p.2 + 1) (by simpa using h1) (by simp; omega); simp only [h, if_false] at this ⊢; omega
/-- how many bytes of blanks and notes a text begins with -/
def gapF : Nat → List UInt8 → Nat
  | 0, _ => 0
  | f + 1, l => match l with
    | [] => 0
    | c :: r => if spaceB c then gapF f r + 1 else if [45, 45].isPrefixOf (c :: r) then gapF f ((c :: r).drop (comL (c :: r))) + comL (c :: r) else 0
def gapL (l : List UInt8) : Nat := gapF l.length l
theorem comL_pos {c : UInt8} {r : List UInt8} (h : [45, 45].isPrefixOf (c :: r) = true) : 0 < comL (c :: r) := by
  have : c = 45 := by
    simp [List.isPrefixOf] at h; exact h.1.symm
  subst this; simp [comL]
theorem gapF_le (f : Nat) : ∀ (l : List UInt8), gapF f l ≤ l.length := by
  induction f with
  | zero => intro l; simp [gapF]
  | succ f ih =>
    intro l; cases l with
    | nil => simp [gapF]
    | cons c r =>
      simp only [gapF]; split
      · have := ih r; simp; omega
      · split
        · have h1 := ih ((c :: r).drop (comL (c :: r))); have h2 := comL_le (c :: r); rw [List.length_drop] at h1; omega
        · simp
theorem gapL_le (l : List UInt8) : gapL l ≤ l.length := gapF_le _ l
theorem gapF_more (f : Nat) : ∀ (l : List UInt8) (g : Nat), l.length ≤ f → l.length ≤ g → gapF f l = gapF g l := by
  induction f with
  | zero => intro l g h _; have : l = [] := List.eq_nil_of_length_eq_zero (by omega); subst this; cases g <;> simp [gapF]
  | succ f ih =>
    intro l g hf hg; cases l with
    | nil => cases g <;> simp [gapF]
    | cons c r =>
      cases g with
      | zero => simp at hg
      | succ g =>
        simp only [List.length_cons] at hf hg; simp only [gapF]; split
        · rw [ih r g (by omega) (by omega)]
        · split
          · rename_i h; have := comL_pos h; rw [ih _ g (by rw [List.length_drop, List.length_cons]; omega) (by rw [List.length_drop, List.length_cons]; omega)]
          · rfl
theorem gapL_nil : gapL [] = 0 := rfl
theorem gapL_space {c : UInt8} {r : List UInt8} (h : spaceB c = true) : gapL (c :: r) = gapL r + 1 := by
  show gapF (r.length + 1) (c :: r) = gapF r.length r + 1; simp [gapF, h]
theorem gapL_note {c : UInt8} {r : List UInt8} (h0 : spaceB c = false) (h : [45, 45].isPrefixOf (c :: r) = true) : gapL (c :: r) = gapL ((c :: r).drop (comL (c :: r))) + comL (c :: r) := by
  have hp := comL_pos h; show gapF (r.length + 1) (c :: r) = gapF _ ((c :: r).drop (comL (c :: r))) + comL (c :: r); rw [← gapF_more r.length ((c :: r).drop (comL (c :: r))) _ (by rw [List.length_drop, List.length_cons]; omega) (Nat.le_refl _)]; simp only [gapF, h0, h]; simp
theorem gapL_none {c : UInt8} {r : List UInt8} (h0 : spaceB c = false) (h : [45, 45].isPrefixOf (c :: r) = false) : gapL (c :: r) = 0 := by
  show gapF (r.length + 1) (c :: r) = 0; simp [gapF, h0, h]
structure Tok where
  sort : Int
  text : List UInt8
  num : Int
  line : Int
  col : Int
def Tok.cells (t : Tok) : List Value := [.int .i64 t.sort, .string (str t.text), .int .i64 t.num, .int .i64 t.line, .int .i64 t.col]
def tokAt (l : List UInt8) (p : Int × Int) : Tok := ⟨tokSort l, tokText l, tokNum l, p.1, p.2⟩
/-- the tokens of a text, or the place where there is none; 'f' bounds how many there are -/
def scanF : Nat → List UInt8 → Int × Int → List Tok × Option (Int × Int)
  | 0, _, p => ([], some p)
  | f + 1, l, p =>
    let m := l.drop (gapL l)
    let q := posL (l.take (gapL l)) p
    if tokSort m = 0 then ([], some q)
    else if tokSort m = 6 then ([tokAt m q], none)
    else
      let z := scanF f (m.drop (tokText m).length) (posL (m.take (tokText m).length) q)
      (tokAt m q :: z.1, z.2)
def scanAll (l : List UInt8) : List Tok × Option (Int × Int) := scanF (l.length + 1) l (1, 1)
theorem signOf_prefix (n : List (List UInt8)) (l : List UInt8) : signOf n l <+: l := by
  unfold signOf; cases h : n.find? fun p => p.isPrefixOf l with
  | none => simp
  | some x =>
    have := List.find?_some h; simpa using this
theorem tokText_prefix (l : List UInt8) : tokText l <+: l := by
  unfold tokText; split
  · exact signOf_prefix _ _
  · exact List.take_prefix _ _
theorem tokText_le (l : List UInt8) : (tokText l).length ≤ l.length := (tokText_prefix l).length_le
theorem sortL_ne6 (l : List UInt8) : sortL l ≠ 6 := by
  unfold sortL; repeat (split; · decide)
  decide
theorem tokSort_end : tokSort [] = 6 := by simp [tokSort]
theorem tokSort_ne6 {l : List UInt8} (h : l ≠ []) : tokSort l ≠ 6 := by
  unfold tokSort; rw [if_neg h]; split
  · split <;> decide
  · exact sortL_ne6 _
theorem tokText_pos {l : List UInt8} (h : l ≠ []) (h0 : tokSort l ≠ 0) : 0 < (tokText l).length := by
  unfold tokSort at h0; rw [if_neg h] at h0; unfold tokText; split
  · rename_i hr; rw [if_pos hr] at h0; by_cases hs : signL l = []
    · simp [hs] at h0
    · exact List.length_pos_iff.2 hs
  · rename_i hr; have := runL_le l; rw [List.length_take]; omega
theorem scanF_none {f : Nat} {l : List UInt8} {p : Int × Int} (h : tokSort (l.drop (gapL l)) = 0) : scanF (f + 1) l p = ([], some (posL (l.take (gapL l)) p)) := by
  simp [scanF, h]
theorem scanF_end {f : Nat} {l : List UInt8} {p : Int × Int} (h : tokSort (l.drop (gapL l)) = 6) : scanF (f + 1) l p = ([tokAt (l.drop (gapL l)) (posL (l.take (gapL l)) p)], none) := by
  simp [scanF, h]
theorem scanF_tok {f : Nat} {l : List UInt8} {p : Int × Int} (h0 : tokSort (l.drop (gapL l)) ≠ 0) (h6 : tokSort (l.drop (gapL l)) ≠ 6) :
    scanF (f + 1) l p = (tokAt (l.drop (gapL l)) (posL (l.take (gapL l)) p) :: (scanF f ((l.drop (gapL l)).drop (tokText (l.drop (gapL l))).length) (posL ((l.drop (gapL l)).take (tokText (l.drop (gapL l))).length) (posL (l.take (gapL l)) p))).1,
      (scanF f ((l.drop (gapL l)).drop (tokText (l.drop (gapL l))).length) (posL ((l.drop (gapL l)).take (tokText (l.drop (gapL l))).length) (posL (l.take (gapL l)) p))).2) := by
  simp [scanF, h0, h6]
end Go.Proofs.YtlhmdjhfmhkllaaGreatDoor
namespace Go.Proofs.YtlhmdjhfmhkllaaGreatDoor
theorem moreB_plain {c : UInt8} (h : moreB c = true) : spaceB c = false ∧ c.toNat ≠ 10 ∧ c.toNat ≠ 45 := by
  simp only [moreB, smallB, greatB, digitB, spaceB, Bool.or_eq_true, Bool.and_eq_true, decide_eq_true_eq, Bool.or_eq_false_iff, decide_eq_false_iff_not] at h ⊢; omega
theorem scanF_ne {f : Nat} {l : List UInt8} {p : Int × Int} (h : (scanF f l p).2 = none) : 0 < (scanF f l p).1.length := by
  cases f with
  | zero => simp [scanF] at h
  | succ f =>
    by_cases h0 : tokSort (l.drop (gapL l)) = 0
    · rw [scanF_none h0] at h; cases h
    · by_cases h6 : tokSort (l.drop (gapL l)) = 6
      · rw [scanF_end h6]; simp
      · rw [scanF_tok h0 h6]; simp
theorem scanF_len {f : Nat} : ∀ {l : List UInt8} {p : Int × Int}, (scanF f l p).1.length ≤ f := by
  induction f with
  | zero => intro l p; simp [scanF]
  | succ f ih =>
    intro l p; by_cases h0 : tokSort (l.drop (gapL l)) = 0
    · rw [scanF_none h0]; simp
    · by_cases h6 : tokSort (l.drop (gapL l)) = 6
      · rw [scanF_end h6]; simp
      · rw [scanF_tok h0 h6]; simp only [List.length_cons]; exact Nat.succ_le_succ ih
end Go.Proofs.YtlhmdjhfmhkllaaGreatDoor
namespace Go.Proofs.YtlhmdjhfmhkllaaGreatDoor
theorem run_take (l : List UInt8) : ∀ c ∈ l.take (runL l), moreB c = true := by
  induction l with
  | nil => intro c hc; simp at hc
  | cons x r ih =>
    simp only [runL]; split
    · rename_i hx; intro c hc; rw [List.take_succ_cons] at hc; cases hc with
      | head => exact hx
      | tail _ hc => exact ih c hc
    · intro c hc; simp at hc
theorem tokText_nil : tokText [] = [] := by simp [tokText, runL, signL, signOf, signsL]
end Go.Proofs.YtlhmdjhfmhkllaaGreatDoor
namespace Go.Proofs.YtlhmdjhfmhkllaaGreatDoor
structure Key where
  sort : Int
  text : List UInt8
  num : Int
def Tok.key (t : Tok) : Key := ⟨t.sort, t.text, t.num⟩
def keyAt (l : List UInt8) : Key := ⟨tokSort l, tokText l, tokNum l⟩
def endKey : Key := ⟨6, [], 0⟩
/-- a text's tokens, the end among them -/
inductive Lex : List UInt8 → List Key → Prop
  | fin {l : List UInt8} : l.drop (gapL l) = [] → Lex l [endKey]
  | tok {l m : List UInt8} {ks : List Key} : l.drop (gapL l) = m → m ≠ [] → tokSort m ≠ 0 → Lex (m.drop (tokText m).length) ks → Lex l (keyAt m :: ks)
theorem lex_scanF {l : List UInt8} {ks : List Key} (h : Lex l ks) : ∀ {f : Nat} {p : Int × Int}, l.length < f → (scanF f l p).2 = none ∧ (scanF f l p).1.map Tok.key = ks := by
  induction h with
  | fin h =>
    intro f p hf; obtain ⟨f, rfl⟩ : ∃ g, f = g + 1 := ⟨f - 1, by omega⟩; rw [scanF_end (by rw [h]; exact tokSort_end), h]; exact ⟨rfl, rfl⟩
  | @tok l m ks hm h6 h0 _ ih =>
    intro f p hf; obtain ⟨f, rfl⟩ : ∃ g, f = g + 1 := ⟨f - 1, by omega⟩; have hlen : m.length ≤ l.length := (by rw [← hm, List.length_drop]; omega); have hp := tokText_pos h6 h0; have hl : (m.drop (tokText m).length).length < f := (by rw [List.length_drop]; have := List.length_pos_iff.2 h6; omega); subst hm; rw [scanF_tok h0 (tokSort_ne6 h6)]; obtain ⟨h1, h2⟩ := ih (p := posL ((l.drop (gapL l)).take (tokText (l.drop (gapL l))).length) (posL (l.take (gapL l)) p)) hl; exact ⟨h1, by rw [List.map_cons, h2]; rfl⟩
theorem scan_of_lex {l : List UInt8} {ks : List Key} (h : Lex l ks) : (scanAll l).2 = none ∧ (scanAll l).1.map Tok.key = ks := lex_scanF h (by omega)
theorem Lex.same {l l' : List UInt8} {ks : List Key} (h : Lex l ks) (he : l'.drop (gapL l') = l.drop (gapL l)) : Lex l' ks := by
  cases h with
  | fin h => exact .fin (he.trans h)
  | tok hm h6 h0 hr => exact .tok (he.trans hm) h6 h0 hr
/-- a byte behind which nothing of a token goes on -/
def sepB (c : UInt8) : Prop := c.toNat = 10 ∨ c.toNat = 32
theorem sep_more {c : UInt8} (h : sepB c) : moreB c = false := by
  rcases h with h | h <;> simp [moreB, smallB, greatB, digitB, h]
theorem signs_sep : ∀ p ∈ signsL, ∀ x ∈ p, x.toNat ≠ 10 ∧ x.toNat ≠ 32 := by decide +kernel
theorem prefix_sep {p : List UInt8} {c : UInt8} (hp : c ∉ p) (r : List UInt8) : ∀ (m : List UInt8), p.isPrefixOf (m ++ c :: r) = p.isPrefixOf m := by
  induction p with
  | nil => intro m; cases m <;> rfl
  | cons x p ih =>
    intro m; cases m with
    | nil =>
      have : (x == c) = false := by simp; rintro rfl; simp at hp
      simp [List.isPrefixOf, this]
    | cons y m =>
      simp only [List.cons_append, List.isPrefixOf]; rw [ih (fun h => hp (by simp [h]))]
theorem find_congr' {α : Type} {p q : α → Bool} : ∀ {l : List α}, (∀ x ∈ l, p x = q x) → l.find? p = l.find? q
  | [], _ => rfl
  | x :: r, h => by simp only [List.find?_cons, h x (by simp)]; rw [find_congr' fun y hy => h y (by simp [hy])]
theorem sign_sep {c : UInt8} (hc : sepB c) (m r : List UInt8) : signL (m ++ c :: r) = signL m := by
  unfold signL signOf; rw [find_congr' (q := fun p => p.isPrefixOf m)]; intro p hp; exact prefix_sep (fun hx => by have := signs_sep p hp c hx; rcases hc with h | h <;> omega) r m
theorem run_sep {c : UInt8} (hc : sepB c) (r : List UInt8) : ∀ (m : List UInt8), runL (m ++ c :: r) = runL m
  | [] => by simp [runL, sep_more hc]
  | x :: m => by simp only [List.cons_append, runL]; rw [run_sep hc r m]
theorem take_sep (m s : List UInt8) : (m ++ s).take (runL m) = m.take (runL m) := by
  rw [List.take_append_of_le_length (runL_le m)]
theorem key_sep {c : UInt8} (hc : sepB c) {m : List UInt8} (hm : m ≠ []) (r : List UInt8) : keyAt (m ++ c :: r) = keyAt m := by
  simp only [keyAt, tokSort, tokText, tokNum, run_sep hc, sign_sep hc, take_sep]; simp [hm]
theorem note_prefix {m r : List UInt8} {c : UInt8} (hc : sepB c) : [45, 45].isPrefixOf (m ++ c :: r) = [45, 45].isPrefixOf m :=
  prefix_sep (fun h => by
    have : c = 45 := by simpa using h
    subst this
    rcases hc with h | h <;> exact absurd h (by decide)) r m
theorem gap_skip {c : UInt8} {r : List UInt8} (h : spaceB c = true) : (c :: r).drop (gapL (c :: r)) = r.drop (gapL r) := by rw [gapL_space h]; rfl
theorem lex_skip {c : UInt8} {r : List UInt8} {ks : List Key} (h : spaceB c = true) (hr : Lex r ks) : Lex (c :: r) ks := hr.same (gap_skip h)
/-- what tokens spell -/
def spellL : List (List UInt8) → List UInt8
  | [] => []
  | t :: r => t ++ (if r = [] then [] else 32 :: spellL r)
theorem run_self (l : List UInt8) : runL (l.take (runL l)) = runL l := by
  induction l with
  | nil => rfl
  | cons x r ih =>
    simp only [runL]; split
    · rename_i hx; rw [List.take_succ_cons]; simp only [runL, hx, if_true, ih]
    · rfl
theorem signs_self : ∀ p ∈ signsL, signL p = p ∧ runL p = 0 ∧ p ≠ [] ∧ spaceB (p.headD 0) = false ∧ [45, 45].isPrefixOf p = false := by decide +kernel
theorem signL_mem {l : List UInt8} (h : signL l ≠ []) : signL l ∈ signsL := by
  unfold signL signOf at *; cases hf : signsL.find? fun p => p.isPrefixOf l with
  | none => simp [hf] at h
  | some x => exact List.mem_of_find?_eq_some hf
theorem more_space {c : UInt8} (h : moreB c = true) : spaceB c = false ∧ c.toNat ≠ 45 := by
  simp [moreB, smallB, greatB, digitB] at h; simp [spaceB]; omega
theorem key_self {m : List UInt8} (h6 : m ≠ []) (h0 : tokSort m ≠ 0) : keyAt (tokText m) = keyAt m ∧ ∀ r, gapL (tokText m ++ 32 :: r) = 0 := by
  have hs : sepB 32 := .inr rfl; by_cases hr : runL m = 0
  · have ht : tokText m = signL m := by simp [tokText, hr]
    have hne : signL m ≠ [] := by
      intro e; apply h0; simp [tokSort, h6, hr, e]
    obtain ⟨s1, s2, s3, s4, s5⟩ := signs_self _ (signL_mem hne); rw [ht]; refine ⟨by simp [keyAt, tokSort, tokText, tokNum, s1, s2, hr, h6, hne], fun r => ?_⟩; have hn := note_prefix (m := signL m) (r := r) hs; rw [s5] at hn; generalize signL m = p at *; cases p with
    | nil => exact absurd rfl s3
    | cons x p => exact gapL_none s4 hn
  · have ht : tokText m = m.take (runL m) := by simp [tokText, hr]
    have hl := runL_le m; have hrt := run_self m; have htt : (m.take (runL m)).take (runL m) = m.take (runL m) := (by rw [List.take_take, Nat.min_self]); have hne : m.take (runL m) ≠ [] := by
      intro e; have := congrArg List.length e; rw [List.length_take, List.length_nil] at this; omega
    rw [ht]; refine ⟨by simp only [keyAt, tokSort, tokText, tokNum, hrt, htt]; simp [hr, h6, hne], fun r => ?_⟩; have hall := run_take m; have hn := note_prefix (m := m.take (runL m)) (r := r) hs; generalize m.take (runL m) = p at *; cases p with
    | nil => exact absurd rfl hne
    | cons x p =>
      obtain ⟨g1, g2⟩ := more_space (hall x (by simp)); refine gapL_none g1 (hn.trans ?_); have : (45 == x) = false := by simp; rintro rfl; exact g2 rfl
      simp [List.isPrefixOf, this]
end Go.Proofs.YtlhmdjhfmhkllaaGreatDoor
namespace Go.Proofs.YtlhmdjhfmhkllaaGreatDoor
def digV (acc : Nat) (l : List UInt8) : Nat := l.foldl (fun a c => a * 10 + (c.toNat - 48)) acc
def AllDig (l : List UInt8) : Prop := ∀ c ∈ l, 48 ≤ c.toNat ∧ c.toNat ≤ 57
theorem digV_cons (acc : Nat) (c : UInt8) (r : List UInt8) : digV acc (c :: r) = digV (acc * 10 + (c.toNat - 48)) r := List.foldl_cons ..
theorem digV_nil (acc : Nat) : digV acc [] = acc := List.foldl_nil ..
/-- ten, so many times -/
def ten : Nat → Nat
  | 0 => 1
  | n + 1 => 10 * ten n
theorem ten_pos (n : Nat) : 1 ≤ ten n := by
  induction n with
  | zero => exact Nat.le_refl _
  | succ n ih => simp only [ten]; omega
theorem ten_mono {a b : Nat} (h : a ≤ b) : ten a ≤ ten b := by
  induction b with
  | zero => have : a = 0 := by omega
            subst this; exact Nat.le_refl _
  | succ b ih =>
    by_cases hb : a = b + 1
    · subst hb; exact Nat.le_refl _
    · have := ih (by omega); simp only [ten]; omega
theorem ten_step (acc n : Nat) : acc * ten (n + 1) = acc * 10 * ten n := by
  rw [Nat.mul_assoc]; rfl
theorem digV_ge (l : List UInt8) : ∀ acc, acc * ten l.length ≤ digV acc l := by
  induction l with
  | nil => intro acc; rw [digV_nil]; simp [ten]
  | cons c r ih =>
    intro acc; have h1 := ih (acc * 10 + (c.toNat - 48)); have h2 : acc * 10 * ten r.length ≤ (acc * 10 + (c.toNat - 48)) * ten r.length := Nat.mul_le_mul_right _ (Nat.le_add_right _ _); rw [digV_cons, List.length_cons, ten_step]; exact Nat.le_trans h2 h1
theorem digV_acc (l : List UInt8) (acc : Nat) : acc ≤ digV acc l :=
  Nat.le_trans (Nat.le_mul_of_pos_right _ (ten_pos _)) (digV_ge l acc)
theorem digV_snoc (l : List UInt8) (c : UInt8) : ∀ acc, digV acc (l ++ [c]) = digV acc l * 10 + (c.toNat - 48) := by
  induction l with
  | nil => intro acc; rw [List.nil_append, digV_cons, digV_nil, digV_nil]
  | cons x r ih => intro acc; rw [List.cons_append, digV_cons, digV_cons]; exact ih _
theorem parse_dig {l : List UInt8} (h : AllDig l) : ∀ acc, acc ≤ 18446744073709551615 → (digV acc l ≤ 18446744073709551615 → Lib.parseUintM 18446744073709551615 acc l = .ok (digV acc l)) ∧ (18446744073709551615 < digV acc l → Lib.parseUintM 18446744073709551615 acc l = .range) := by
  induction l with
  | nil =>
    intro acc ha; rw [digV_nil]; exact ⟨fun _ => rfl, fun h => by omega⟩
  | cons c r ih =>
    intro acc ha; have hc := h c (by simp); have hr := digV_acc r (acc * 10 + (c.toNat - 48)); rw [digV_cons]; generalize hv : digV (acc * 10 + (c.toNat - 48)) r = V at hr; simp only [Lib.parseUintM]; rw [if_pos hc]; by_cases h1 : 1844674407370955162 ≤ acc
    · rw [if_pos h1]; exact ⟨fun hh => absurd hh (by omega), fun _ => rfl⟩
    · rw [if_neg h1]; by_cases h2 : 18446744073709551615 < acc * 10 + (c.toNat - 48)
      · rw [if_pos h2]; exact ⟨fun hh => absurd hh (by omega), fun _ => rfl⟩
      · rw [if_neg h2]; have := ih (fun x hx => h x (by simp [hx])) (acc * 10 + (c.toNat - 48)) (by omega); rw [hv] at this; exact this
theorem parse_ok_dig {M : Nat} : ∀ {l : List UInt8} {acc u : Nat}, Lib.parseUintM M acc l = .ok u → AllDig l := by
  intro l; induction l with
  | nil => intro acc u _ c hc; cases hc
  | cons c r ih =>
    intro acc u h; simp only [Lib.parseUintM] at h; split at h
    · rename_i hc; split at h
      · cases h
      · split at h
        · cases h
        · intro x hx; cases hx with
          | head => exact hc
          | tail _ hx => exact ih h x hx
    · cases h
theorem uintB_eq {l : List UInt8} (hl : l ≠ []) : Lib.parseUintB 64 l = Lib.parseUintM 18446744073709551615 0 l := by
  unfold Lib.parseUintB; rw [if_neg hl]
theorem parse_small {l : List UInt8} (hl : l ≠ []) (h : AllDig l) (hv : digV 0 l < 9223372036854775808) : Lib.parseIntB 64 l = .ok (digV 0 l : Int) := by
  cases l with
  | nil => exact absurd rfl hl
  | cons c r =>
    have hc := h c (by simp); have hp := (parse_dig h 0 (by omega)).1 (by omega); generalize digV 0 (c :: r) = V at hv hp ⊢; unfold Lib.parseIntB; simp only; rw [if_neg (by omega), uintB_eq hl, hp]; simp only; rw [if_neg (by rintro ⟨_, h⟩; omega), if_neg (by rintro ⟨h, _⟩; omega), if_neg (by omega)]
theorem parse_great {l : List UInt8} (hl : l ≠ []) (h : AllDig l) (hv : 9223372036854775808 ≤ digV 0 l) : ∀ v, Lib.parseIntB 64 l ≠ .ok v := by
  cases l with
  | nil => exact absurd rfl hl
  | cons c r =>
    have hc := h c (by simp); have hp := parse_dig h 0 (by omega); generalize digV 0 (c :: r) = V at hv hp ⊢; intro v hn; unfold Lib.parseIntB at hn; simp only at hn; rw [if_neg (by omega), uintB_eq hl] at hn; by_cases h1 : V ≤ 18446744073709551615
    · rw [hp.1 h1] at hn; simp only at hn; rw [if_pos ⟨by omega, by omega⟩] at hn; cases hn
    · rw [hp.2 (by omega)] at hn; cases hn
theorem litL_dig {l : List UInt8} (hl : l ≠ []) (h : AllDig l) :
    litL l = if 1 < l.length ∧ (l.head?.getD 0).toNat = 48 then none else if digV 0 l < 9223372036854775808 then some (digV 0 l : Int) else none := by
  unfold litL; split
  · rfl
  · by_cases hv : digV 0 l < 9223372036854775808
    · rw [if_pos hv, parse_small hl h hv]
    · rw [if_neg hv]; have hp := parse_great hl h (by omega); cases hq : Lib.parseIntB 64 l with
      | ok v => exact absurd hq (hp v)
      | _ => rfl
theorem litL_noS {l : List UInt8} (hp : ∀ n, Lib.parseIntB 64 l ≠ .ok n) : litL l = none := by
  unfold litL; split
  · rfl
  · split
    · rename_i v hv; exact absurd hv (hp v)
    · rfl
theorem litL_not {l : List UInt8} (hr : ∀ c ∈ l, moreB c = true) (h : ¬ AllDig l) : litL l = none := by
  apply litL_noS; intro n hn; cases l with
  | nil => exact h (fun c hc => by cases hc)
  | cons c r =>
    have hc := hr c (by simp); have hp := moreB_plain hc; have h43 : c.toNat ≠ 43 := by
      intro e; simp only [moreB, smallB, greatB, digitB, Bool.or_eq_true, Bool.and_eq_true, decide_eq_true_eq] at hc; omega
    unfold Lib.parseIntB at hn; simp only at hn; rw [if_neg (by rintro (h | h) <;> omega), uintB_eq (by simp)] at hn
    split at hn
    · cases hn
    · cases hn
    · rename_i u hu; exact h (parse_ok_dig hu)
/-- where a text of digits is too long, its number is too great -/
theorem dig_long {l : List UInt8} (h : AllDig l) (hlen : 19 < l.length) (h0 : (l.head?.getD 0).toNat ≠ 48) : 9223372036854775808 ≤ digV 0 l := by
  cases l with
  | nil => simp at hlen
  | cons c r =>
    have hc := h c (by simp); simp only [List.head?_cons, Option.getD_some] at h0; simp only [List.length_cons] at hlen; have h1 := digV_ge r (0 * 10 + (c.toNat - 48)); have h2 : ten 19 ≤ ten r.length := ten_mono (by omega); have h3 : 1 * ten 19 ≤ (0 * 10 + (c.toNat - 48)) * ten r.length := Nat.mul_le_mul (by omega) h2; have h4 : ten 19 = 10000000000000000000 := (by kernel_rfl); rw [digV_cons]; omega
end Go.Proofs.YtlhmdjhfmhkllaaGreatDoor
