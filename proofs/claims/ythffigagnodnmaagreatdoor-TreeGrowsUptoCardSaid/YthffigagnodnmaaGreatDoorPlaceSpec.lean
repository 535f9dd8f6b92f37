/-
  Plain mathematics: where the tokens of a text stand.
-/
import Derived.Test.YthffigagnodnmaaGreatDoorSpec
import Derived.Test.YthffigagnodnmaaGreatDoorAloneSpec
namespace Go.Proofs.YthffigagnodnmaaGreatDoor

/-- from byte a on, the tokens stand one behind the other in the text, each where its place says; the last one is empty, at the text's end -/
def Placed (l : List UInt8) : Nat → List Tok → Prop
  | a, [] => a = l.length
  | a, t :: r => ∃ off, a ≤ off ∧ off + t.text.length ≤ l.length ∧ (l.drop off).take t.text.length = t.text ∧ (t.line, t.col) = posL (l.take off) (1, 1) ∧ (t.text.length = 0 ↔ r = []) ∧ (∀ c ∈ t.text, c.toNat ≠ 10) ∧ Placed l (off + t.text.length) r

theorem signs_plain : ∀ p ∈ signsL, ∀ c ∈ p, c.toNat ≠ 10 := by decide +kernel
theorem sign_plain (l : List UInt8) : ∀ c ∈ signL l, c.toNat ≠ 10 := by
  unfold signL signOf
  cases h : signsL.find? fun p => p.isPrefixOf l with
  | none => intro c hc; simp at hc
  | some x => exact signs_plain x (List.mem_of_find?_eq_some h)
theorem run_take (l : List UInt8) : ∀ c ∈ l.take (runL l), moreB c = true := by
  induction l with
  | nil => intro c hc; simp at hc
  | cons x r ih =>
    simp only [runL]
    split
    · rename_i hx
      intro c hc
      rw [List.take_succ_cons] at hc
      cases hc with
      | head => exact hx
      | tail _ hc => exact ih c hc
    · intro c hc; simp at hc
theorem tok_plain (l : List UInt8) : ∀ c ∈ tokText l, c.toNat ≠ 10 := by
  unfold tokText
  split
  · exact sign_plain l
  · exact fun c hc => (moreB_plain (run_take l c hc)).2.1
theorem posL_plain {l : List UInt8} (h : ∀ c ∈ l, c.toNat ≠ 10) (p : Int × Int) : posL l p = (p.1, p.2 + l.length) := by
  induction l generalizing p with
  | nil => simp [posL]
  | cons x r ih =>
    simp only [posL, if_neg (h x (by simp)), List.length_cons]
    rw [ih fun c hc => h c (by simp [hc])]
    simp; omega
theorem tokText_nil : tokText [] = [] := by simp [tokText, runL, signL, signOf, signsL]

theorem placed_scanF {l : List UInt8} {f : Nat} : ∀ {m : Nat}, m ≤ l.length → (scanF f (l.drop m) (posL (l.take m) (1, 1))).2 = none → Placed l m (scanF f (l.drop m) (posL (l.take m) (1, 1))).1 := by
  induction f with
  | zero => intro m _ h; simp [scanF] at h
  | succ f ih =>
    intro m hm h
    have hg := gapL_le (l.drop m)
    rw [List.length_drop] at hg
    have e1 : (l.drop m).drop (gapL (l.drop m)) = l.drop (m + gapL (l.drop m)) := by rw [List.drop_drop]
    have e2 : posL ((l.drop m).take (gapL (l.drop m))) (posL (l.take m) (1, 1)) = posL (l.take (m + gapL (l.drop m))) (1, 1) := by rw [← posL_append, ← List.take_add]
    have htl := tokText_le (l.drop (m + gapL (l.drop m)))
    rw [List.length_drop] at htl
    by_cases h0 : tokSort ((l.drop m).drop (gapL (l.drop m))) = 0
    · rw [scanF_none h0] at h; cases h
    · by_cases h6 : tokSort ((l.drop m).drop (gapL (l.drop m))) = 6
      · rw [scanF_end h6]
        have hnil : l.drop (m + gapL (l.drop m)) = [] := by
          rw [← e1]
          by_cases hn : (l.drop m).drop (gapL (l.drop m)) = []
          · exact hn
          · exact absurd h6 (tokSort_ne6 hn)
        have hlen : m + gapL (l.drop m) = l.length := by
          have := congrArg List.length hnil
          rw [List.length_drop] at this
          simp at this; omega
        rw [e1, e2]
        refine ⟨m + gapL (l.drop m), by omega, ?_, ?_, rfl, ?_, ?_, ?_⟩
        · simp only [tokAt, hnil, tokText_nil, List.length_nil]; omega
        · simp only [tokAt, hnil, tokText_nil]; rfl
        · simp [tokAt, hnil, tokText_nil]
        · simp [tokAt, hnil, tokText_nil]
        · simp only [tokAt, hnil, tokText_nil, List.length_nil, Placed]; omega
      · rw [scanF_tok h0 h6] at h ⊢
        rw [e1, e2] at h ⊢
        rw [e1] at h0 h6
        have hne : l.drop (m + gapL (l.drop m)) ≠ [] := by
          intro e; rw [e, tokSort_end] at h6; exact h6 rfl
        have hpos := tokText_pos hne h0
        have e3 : (l.drop (m + gapL (l.drop m))).drop (tokText (l.drop (m + gapL (l.drop m)))).length = l.drop (m + gapL (l.drop m) + (tokText (l.drop (m + gapL (l.drop m)))).length) := by rw [List.drop_drop]
        have e4 : posL ((l.drop (m + gapL (l.drop m))).take (tokText (l.drop (m + gapL (l.drop m)))).length) (posL (l.take (m + gapL (l.drop m))) (1, 1)) = posL (l.take (m + gapL (l.drop m) + (tokText (l.drop (m + gapL (l.drop m)))).length)) (1, 1) := by rw [← posL_append, ← List.take_add]
        rw [e3, e4] at h ⊢
        have hz : (scanF f (l.drop (m + gapL (l.drop m) + (tokText (l.drop (m + gapL (l.drop m)))).length)) (posL (l.take (m + gapL (l.drop m) + (tokText (l.drop (m + gapL (l.drop m)))).length)) (1, 1))).1 ≠ [] := fun e => by
          have := scanF_ne h; rw [e] at this; simp at this
        have htl2 : m + gapL (l.drop m) + (tokText (l.drop (m + gapL (l.drop m)))).length ≤ l.length := by omega
        refine ⟨m + gapL (l.drop m), by omega, ?_, tokText_take _, rfl, ?_, tok_plain _, ih htl2 h⟩
        · show m + gapL (l.drop m) + (tokText (l.drop (m + gapL (l.drop m)))).length ≤ l.length
          omega
        · exact ⟨fun e => absurd e (by show (tokText _).length ≠ 0; omega), fun e => absurd e hz⟩
theorem placed_scan {l : List UInt8} (h : (scanAll l).2 = none) : Placed l 0 (scanAll l).1 := by
  have := placed_scanF (l := l) (f := l.length + 1) (m := 0) (Nat.zero_le _) (by simpa [posL, scanAll] using h)
  simpa [posL, scanAll] using this
theorem scanF_place {f : Nat} : ∀ {l : List UInt8} {p q : Int × Int}, 1 ≤ p.1 → 1 ≤ p.2 → (scanF f l p).2 = some q → 1 ≤ q.1 ∧ 1 ≤ q.2 := by
  induction f with
  | zero => intro l p q h1 h2 h; simp [scanF] at h; rw [← h]; exact ⟨h1, h2⟩
  | succ f ih =>
    intro l p q h1 h2 h
    have hb := posL_bd (l.take (gapL l)) p h1 h2
    by_cases h0 : tokSort (l.drop (gapL l)) = 0
    · rw [scanF_none h0] at h
      simp only [Option.some.injEq] at h
      rw [← h]; exact ⟨hb.1, hb.2.2.1⟩
    · by_cases h6 : tokSort (l.drop (gapL l)) = 6
      · rw [scanF_end h6] at h; cases h
      · rw [scanF_tok h0 h6] at h
        have hc := posL_bd ((l.drop (gapL l)).take (tokText (l.drop (gapL l))).length) (posL (l.take (gapL l)) p) hb.1 hb.2.2.1
        exact ih hc.1 hc.2.2.1 h
/-- a place further on is a greater one -/
def Less (p q : Int × Int) : Prop := p.1 < q.1 ∨ (p.1 = q.1 ∧ p.2 < q.2)
theorem Less.trans {p q r : Int × Int} (h : Less p q) (k : Less q r) : Less p r := by
  unfold Less at *; omega
theorem posL_step (l : List UInt8) (c : UInt8) (p : Int × Int) (h2 : 1 ≤ p.2) (h1 : 1 ≤ p.1) : Less (posL l p) (posL (l ++ [c]) p) := by
  have := posL_bd l p h1 h2
  rw [posL_snoc]
  unfold Less
  split
  · left; show _ < _ + 1; omega
  · right; exact ⟨rfl, by show _ < _ + 1; omega⟩
theorem posL_less {l : List UInt8} {a : Nat} : ∀ {d : Nat}, a + d + 1 ≤ l.length → Less (posL (l.take a) (1, 1)) (posL (l.take (a + d + 1)) (1, 1)) := by
  intro d
  induction d with
  | zero =>
    intro h
    rw [show a + 0 + 1 = a + 1 from rfl, List.take_succ_eq_append_getElem (by omega)]
    exact posL_step _ _ _ (by simp) (by simp)
  | succ d ih =>
    intro h
    refine Less.trans (ih (by omega)) ?_
    rw [show a + (d + 1) + 1 = (a + d + 1) + 1 from by omega, List.take_succ_eq_append_getElem (i := a + d + 1) (by omega)]
    exact posL_step _ _ _ (by simp) (by simp)
end Go.Proofs.YthffigagnodnmaaGreatDoor
