/-
  Plain mathematics of scanning: bytes, runs, words. Nothing of the program stands here.
-/
import Derived.Lib.Strings
import Derived.Lib.Bytealg
import Derived.Lib.ParseIntB
import Derived.WalkKit
namespace Go.Proofs.YthffigagnodnmaaGreatDoor

theorem ret_bool {a b : Bool} (h : a = b) : Ending.returned (.bool a) = .returned (.bool b) := by rw [h]
theorem ret_int {k : IntKind} {a b : Int} (h : a = b) : Ending.returned (.int k a) = .returned (.int k b) := by rw [h]

def smallB (c : UInt8) : Bool := decide (97 ≤ c.toNat) && decide (c.toNat ≤ 122)
def greatB (c : UInt8) : Bool := decide (65 ≤ c.toNat) && decide (c.toNat ≤ 90)
def digitB (c : UInt8) : Bool := decide (48 ≤ c.toNat) && decide (c.toNat ≤ 57)
def spaceB (c : UInt8) : Bool := decide (c.toNat = 32) || decide (c.toNat = 9) || decide (c.toNat = 13) || decide (c.toNat = 10)
def moreB (c : UInt8) : Bool := smallB c || greatB c || digitB c || decide (c.toNat = 95)

def runL : List UInt8 → Nat
  | [] => 0
  | c :: r => if moreB c then runL r + 1 else 0
theorem runL_le (l : List UInt8) : runL l ≤ l.length := by
  induction l with
  | nil => simp [runL]
  | cons c r ih => simp only [runL, List.length_cons]; split <;> omega
theorem runL_cons_yes {c : UInt8} {r : List UInt8} (h : moreB c = true) : runL (c :: r) = runL r + 1 := by simp [runL, h]
theorem runL_cons_no {c : UInt8} {r : List UInt8} (h : moreB c = false) : runL (c :: r) = 0 := by simp [runL, h]
theorem drop_cons (s : ByteArray) (k : Nat) (h : k < s.size) : s.data.toList.drop k = s[k] :: s.data.toList.drop (k + 1) := by
  rw [List.drop_eq_getElem_cons (by simpa using h)]; rfl
theorem drop_end (s : ByteArray) (k : Nat) (h : s.size ≤ k) : s.data.toList.drop k = [] := by
  apply List.drop_of_length_le; simpa using h

def wordsL : List (List UInt8) :=
  [[116, 121, 112, 101], [110, 111, 100, 101], [119, 104, 101, 114, 101], [101, 110, 100], [97, 117, 116, 111, 109, 97, 116, 111, 110],
   [115, 116, 97, 116, 101], [117, 110, 116, 105, 108], [116, 104, 101, 110], [105, 102], [101, 108, 115, 101], [102, 98, 121], [112, 114, 101],
   [110, 111, 116], [97, 110, 100], [111, 114], [119, 104, 101, 110], [109, 101, 114, 103, 101], [109, 97, 116, 99, 104], [101, 118, 101, 114, 121],
   [116, 114, 117, 101], [102, 97, 108, 115, 101]]
def wordB (l : List UInt8) : Bool := wordsL.any (l == ·)
def fitB (l : List UInt8) : Bool := decide (1 ≤ l.length) && decide (l.length ≤ 24) && decide (runL l = l.length)
def nameB (l : List UInt8) : Bool := fitB l && smallB (l.headD 0) && !wordB l
def conB (l : List UInt8) : Bool := fitB l && greatB (l.headD 0)

/-- how many bytes a note is long: up to the line's end -/
def comL : List UInt8 → Nat
  | [] => 0
  | c :: r => if c.toNat = 10 then 0 else comL r + 1
theorem comL_le (l : List UInt8) : comL l ≤ l.length := by
  induction l with
  | nil => simp [comL]
  | cons c r ih => simp only [comL, List.length_cons]; split <;> omega
theorem indexByte_com (l : List UInt8) : (Lib.indexByte l 10 = -1 ∧ comL l = l.length) ∨ Lib.indexByte l 10 = (comL l : Nat) := by
  induction l with
  | nil => simp [Lib.indexByte, comL]
  | cons c r ih =>
    have hc : (c == 10) = decide (c.toNat = 10) := by
      rw [Bool.eq_iff_iff]; simp only [beq_iff_eq, decide_eq_true_eq]
      exact ⟨fun h => by rw [h]; rfl, fun h => UInt8.toNat_inj.1 h⟩
    simp only [Lib.indexByte, comL, hc]
    by_cases h : c.toNat = 10
    · simp [h]
    · rcases ih with ⟨h1, h2⟩ | h1
      · simp [h, h1, h2]
      · have : ((comL r : Nat) : Int) ≠ -1 := by omega
        simp [h, h1, this]

def signsL : List (List UInt8) := [[45, 62], [60, 61], [60, 62], [40], [41], [91], [93], [60], [61], [44], [59], [58], [124], [43], [45], [42], [47], [37]]
/-- the first sign that a text begins with -/
def signOf (n : List (List UInt8)) (l : List UInt8) : List UInt8 := (n.find? fun p => p.isPrefixOf l).getD []
def signL (l : List UInt8) : List UInt8 := signOf signsL l

/-- the number of a literal -/
def litL (l : List UInt8) : Option Int :=
  if 1 < l.length ∧ (l.head?.getD 0).toNat = 48 then none else match Lib.parseIntB 64 l with | .ok v => some v | _ => none
def litN (l : List UInt8) : Int := (litL l).getD 0
def litB (l : List UInt8) : Bool := (litL l).isSome

/-- the sort of a run, and its number -/
def sortL (l : List UInt8) : Int := if wordB l then 5 else if nameB l then 1 else if conB l then 2 else if litB l then 3 else 0
def numL (l : List UInt8) : Int := if wordB l then 0 else if nameB l then 0 else if conB l then 0 else litN l

/-- the token that a text begins with: its text, its sort (6: the end; 0: none), its number -/
def tokText (l : List UInt8) : List UInt8 := if runL l = 0 then signL l else l.take (runL l)
def tokSort (l : List UInt8) : Int := if l = [] then 6 else if runL l = 0 then (if signL l = [] then 0 else 4) else sortL (l.take (runL l))
def tokNum (l : List UInt8) : Int := if runL l = 0 then 0 else numL (l.take (runL l))
def str (l : List UInt8) : ByteArray := ⟨l.toArray⟩
theorem str_toList (l : List UInt8) : (str l).data.toList = l := rfl
theorem str_size (l : List UInt8) : (str l).size = l.length := rfl
theorem str_eq (s : ByteArray) : str s.data.toList = s := by cases s; rfl
theorem extract_str (s : ByteArray) (a b : Nat) : s.extract a b = str ((s.data.toList.take b).drop a) := by
  apply ByteArray.ext
  rw [ByteArray.data_extract]
  apply Array.ext'
  simp [str, List.drop_take]

/-- the place behind bytes -/
def posL : List UInt8 → Int × Int → Int × Int
  | [], p => p
  | c :: r, p => posL r (if c.toNat = 10 then (p.1 + 1, 1) else (p.1, p.2 + 1))
theorem posL_append (l m : List UInt8) (p : Int × Int) : posL (l ++ m) p = posL m (posL l p) := by
  induction l generalizing p with
  | nil => rfl
  | cons c r ih => simp only [List.cons_append, posL]; rw [ih]
theorem posL_snoc (l : List UInt8) (c : UInt8) (p : Int × Int) : posL (l ++ [c]) p = if c.toNat = 10 then ((posL l p).1 + 1, 1) else ((posL l p).1, (posL l p).2 + 1) := by
  rw [posL_append]; rfl
theorem posL_bd (l : List UInt8) (p : Int × Int) (h1 : 1 ≤ p.1) (h2 : 1 ≤ p.2) : 1 ≤ (posL l p).1 ∧ (posL l p).1 ≤ p.1 + l.length ∧ 1 ≤ (posL l p).2 ∧ (posL l p).2 ≤ p.2 + l.length := by
  induction l generalizing p with
  | nil => simp [posL, h1, h2]
  | cons c r ih =>
    simp only [posL, List.length_cons]
    by_cases h : c.toNat = 10
    · have := ih (p.1 + 1, 1) (by simp; omega) (by simp)
      simp only [h, if_true] at this ⊢
      omega
    · have := ih (p.1, p.2 + 1) (by simpa using h1) (by simp; omega)
      simp only [h, if_false] at this ⊢
      omega
/-- how many bytes of blanks and notes a text begins with -/
def gapF : Nat → List UInt8 → Nat
  | 0, _ => 0
  | f + 1, l => match l with
    | [] => 0
    | c :: r => if spaceB c then gapF f r + 1 else if [45, 45].isPrefixOf (c :: r) then gapF f ((c :: r).drop (comL (c :: r))) + comL (c :: r) else 0
def gapL (l : List UInt8) : Nat := gapF l.length l
theorem comL_pos {c : UInt8} {r : List UInt8} (h : [45, 45].isPrefixOf (c :: r) = true) : 0 < comL (c :: r) := by
  have : c = 45 := by
    simp [List.isPrefixOf] at h
    exact h.1.symm
  subst this
  simp [comL]
theorem gapF_le (f : Nat) : ∀ (l : List UInt8), gapF f l ≤ l.length := by
  induction f with
  | zero => intro l; simp [gapF]
  | succ f ih =>
    intro l
    cases l with
    | nil => simp [gapF]
    | cons c r =>
      simp only [gapF]
      split
      · have := ih r; simp; omega
      · split
        · have h1 := ih ((c :: r).drop (comL (c :: r)))
          have h2 := comL_le (c :: r)
          rw [List.length_drop] at h1
          omega
        · simp
theorem gapL_le (l : List UInt8) : gapL l ≤ l.length := gapF_le _ l
theorem gapF_more (f : Nat) : ∀ (l : List UInt8) (g : Nat), l.length ≤ f → l.length ≤ g → gapF f l = gapF g l := by
  induction f with
  | zero => intro l g h _; have : l = [] := List.eq_nil_of_length_eq_zero (by omega); subst this; cases g <;> simp [gapF]
  | succ f ih =>
    intro l g hf hg
    cases l with
    | nil => cases g <;> simp [gapF]
    | cons c r =>
      cases g with
      | zero => simp at hg
      | succ g =>
        simp only [List.length_cons] at hf hg
        simp only [gapF]
        split
        · rw [ih r g (by omega) (by omega)]
        · split
          · rename_i h
            have := comL_pos h
            rw [ih _ g (by rw [List.length_drop, List.length_cons]; omega) (by rw [List.length_drop, List.length_cons]; omega)]
          · rfl
theorem gapL_nil : gapL [] = 0 := rfl
theorem gapL_space {c : UInt8} {r : List UInt8} (h : spaceB c = true) : gapL (c :: r) = gapL r + 1 := by
  show gapF (r.length + 1) (c :: r) = gapF r.length r + 1
  simp [gapF, h]
theorem gapL_note {c : UInt8} {r : List UInt8} (h0 : spaceB c = false) (h : [45, 45].isPrefixOf (c :: r) = true) : gapL (c :: r) = gapL ((c :: r).drop (comL (c :: r))) + comL (c :: r) := by
  have hp := comL_pos h
  show gapF (r.length + 1) (c :: r) = gapF _ ((c :: r).drop (comL (c :: r))) + comL (c :: r)
  rw [← gapF_more r.length ((c :: r).drop (comL (c :: r))) _ (by rw [List.length_drop, List.length_cons]; omega) (Nat.le_refl _)]
  simp only [gapF, h0, h]
  simp
theorem gapL_none {c : UInt8} {r : List UInt8} (h0 : spaceB c = false) (h : [45, 45].isPrefixOf (c :: r) = false) : gapL (c :: r) = 0 := by
  show gapF (r.length + 1) (c :: r) = 0
  simp [gapF, h0, h]

structure Tok where
  sort : Int
  text : List UInt8
  num : Int
  line : Int
  col : Int
def Tok.cells (t : Tok) : List Value := [.int .i64 t.sort, .string (str t.text), .int .i64 t.num, .int .i64 t.line, .int .i64 t.col]
def tokAt (l : List UInt8) (p : Int × Int) : Tok := ⟨tokSort l, tokText l, tokNum l, p.1, p.2⟩
/-- the tokens of a text, or the place where there is none; 'f' bounds how many there are -/
def scanF : Nat → List UInt8 → Int × Int → List Tok × Option (Int × Int)
  | 0, _, p => ([], some p)
  | f + 1, l, p =>
    let m := l.drop (gapL l)
    let q := posL (l.take (gapL l)) p
    if tokSort m = 0 then ([], some q)
    else if tokSort m = 6 then ([tokAt m q], none)
    else
      let z := scanF f (m.drop (tokText m).length) (posL (m.take (tokText m).length) q)
      (tokAt m q :: z.1, z.2)
def scanAll (l : List UInt8) : List Tok × Option (Int × Int) := scanF (l.length + 1) l (1, 1)

theorem signOf_prefix (n : List (List UInt8)) (l : List UInt8) : signOf n l <+: l := by
  unfold signOf
  cases h : n.find? fun p => p.isPrefixOf l with
  | none => simp
  | some x =>
    have := List.find?_some h
    simpa using this
theorem tokText_prefix (l : List UInt8) : tokText l <+: l := by
  unfold tokText
  split
  · exact signOf_prefix _ _
  · exact List.take_prefix _ _
theorem tokText_le (l : List UInt8) : (tokText l).length ≤ l.length := (tokText_prefix l).length_le
theorem tokText_take (l : List UInt8) : l.take (tokText l).length = tokText l := (List.prefix_iff_eq_take.1 (tokText_prefix l)).symm
theorem sortL_ne6 (l : List UInt8) : sortL l ≠ 6 := by
  unfold sortL
  repeat (split; · decide)
  decide
theorem tokSort_end : tokSort [] = 6 := by simp [tokSort]
theorem tokSort_ne6 {l : List UInt8} (h : l ≠ []) : tokSort l ≠ 6 := by
  unfold tokSort
  rw [if_neg h]
  split
  · split <;> decide
  · exact sortL_ne6 _
theorem tokText_pos {l : List UInt8} (h : l ≠ []) (h0 : tokSort l ≠ 0) : 0 < (tokText l).length := by
  unfold tokSort at h0
  rw [if_neg h] at h0
  unfold tokText
  split
  · rename_i hr
    rw [if_pos hr] at h0
    by_cases hs : signL l = []
    · simp [hs] at h0
    · exact List.length_pos_iff.2 hs
  · rename_i hr
    have := runL_le l
    rw [List.length_take]; omega
theorem scanF_none {f : Nat} {l : List UInt8} {p : Int × Int} (h : tokSort (l.drop (gapL l)) = 0) : scanF (f + 1) l p = ([], some (posL (l.take (gapL l)) p)) := by
  simp [scanF, h]
theorem scanF_end {f : Nat} {l : List UInt8} {p : Int × Int} (h : tokSort (l.drop (gapL l)) = 6) : scanF (f + 1) l p = ([tokAt (l.drop (gapL l)) (posL (l.take (gapL l)) p)], none) := by
  simp [scanF, h]
theorem scanF_tok {f : Nat} {l : List UInt8} {p : Int × Int} (h0 : tokSort (l.drop (gapL l)) ≠ 0) (h6 : tokSort (l.drop (gapL l)) ≠ 6) :
    scanF (f + 1) l p = (tokAt (l.drop (gapL l)) (posL (l.take (gapL l)) p) :: (scanF f ((l.drop (gapL l)).drop (tokText (l.drop (gapL l))).length) (posL ((l.drop (gapL l)).take (tokText (l.drop (gapL l))).length) (posL (l.take (gapL l)) p))).1,
      (scanF f ((l.drop (gapL l)).drop (tokText (l.drop (gapL l))).length) (posL ((l.drop (gapL l)).take (tokText (l.drop (gapL l))).length) (posL (l.take (gapL l)) p))).2) := by
  simp [scanF, h0, h6]
end Go.Proofs.YthffigagnodnmaaGreatDoor
