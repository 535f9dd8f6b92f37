/-
  What stands for what: the values of a symbolic run, and those of a world.
-/
import Derived.Test.YtmceablhndldiaaGreatDoorSx1
namespace Go.Sx

/-- where a name's block lies, and how many cells it has -/
abbrev Ren := Nat → Option (Nat × Nat)

mutual
def VR (ρ : Ren) : AV → Value → Prop
  | .bool b, v => v = .bool b
  | .int k n, v => v = .int k n
  | .str s, v => ∃ b : ByteArray, v = .string b ∧ b.data.toList.map UInt8.toNat = s
  | .ptr none, v => v = .pointer none
  | .ptr (some a), v => ∃ b z, ρ a.1 = some (b, z) ∧ v = .pointer (some ⟨b, a.2, none⟩)
  | .slice none n c _, v => v = .slice none n c
  | .slice (some a) n c z, v => ∃ b s o k, ρ a.1 = some (b, s) ∧ v = .slice (some ⟨b, o, none⟩) n k ∧ c ≤ k ∧ n ≤ c ∧ (k = 0 ∨ o = a.2) ∧ o + k * z ≤ s
  | .map none, v => v = .map none
  | .map (some a), v => ∃ b z, ρ a = some (b, z) ∧ v = .map (some b)
  | .fn f a c, v => ∃ x y, v = .func (.func f) x y ∧ VRs ρ a x.toList ∧ VRs ρ c y.toList
  | .nilFn, v => v = .nilFunc
  | .iface t x, v => ∃ y, v = .iface t y ∧ VR ρ x y
  | .nilIface, v => v = .nilIface
  | .agg l, v => ∃ x, v = .agg x ∧ VRs ρ l x.toList
  | .tuple l, v => ∃ x, v = .tuple x ∧ VRs ρ l x.toList
def VRs (ρ : Ren) : List AV → List Value → Prop
  | [], l => l = []
  | a :: x, l => ∃ v r, l = v :: r ∧ VR ρ a v ∧ VRs ρ x r
end

/-- nothing of a name is forgotten -/
def Ren.le (ρ σ : Ren) : Prop := ∀ n p, ρ n = some p → σ n = some p
theorem Ren.le_refl (ρ : Ren) : Ren.le ρ ρ := fun _ _ h => h
theorem Ren.le_trans {ρ σ τ : Ren} (h : Ren.le ρ σ) (k : Ren.le σ τ) : Ren.le ρ τ := fun n p e => k n p (h n p e)

mutual
theorem VR.mono {ρ σ : Ren} (h : Ren.le ρ σ) : ∀ (a : AV) (v : Value), VR ρ a v → VR σ a v
  | .bool _, _, e => by simpa only [VR] using e
  | .int _ _, _, e => by simpa only [VR] using e
  | .str _, _, e => by simpa only [VR] using e
  | .ptr none, _, e => by simpa only [VR] using e
  | .ptr (some _), _, e => by
    simp only [VR] at e ⊢
    obtain ⟨b, z, e, f⟩ := e
    exact ⟨b, z, h _ _ e, f⟩
  | .slice none _ _ _, _, e => by simpa only [VR] using e
  | .slice (some _) _ _ _, _, e => by
    simp only [VR] at e ⊢
    obtain ⟨b, s, o, k, e, f⟩ := e
    exact ⟨b, s, o, k, h _ _ e, f⟩
  | .map none, _, e => by simpa only [VR] using e
  | .map (some _), _, e => by
    simp only [VR] at e ⊢
    obtain ⟨b, z, e, f⟩ := e
    exact ⟨b, z, h _ _ e, f⟩
  | .fn _ a c, _, e => by
    simp only [VR] at e ⊢
    obtain ⟨x, y, e, f, g⟩ := e
    exact ⟨x, y, e, VRs.mono h a _ f, VRs.mono h c _ g⟩
  | .nilFn, _, e => by simpa only [VR] using e
  | .iface _ x, _, e => by
    simp only [VR] at e ⊢
    obtain ⟨y, e, f⟩ := e
    exact ⟨y, e, VR.mono h x _ f⟩
  | .nilIface, _, e => by simpa only [VR] using e
  | .agg l, _, e => by
    simp only [VR] at e ⊢
    obtain ⟨x, e, f⟩ := e
    exact ⟨x, e, VRs.mono h l _ f⟩
  | .tuple l, _, e => by
    simp only [VR] at e ⊢
    obtain ⟨x, e, f⟩ := e
    exact ⟨x, e, VRs.mono h l _ f⟩
theorem VRs.mono {ρ σ : Ren} (h : Ren.le ρ σ) : ∀ (a : List AV) (l : List Value), VRs ρ a l → VRs σ a l
  | [], _, e => by simpa only [VRs] using e
  | a :: x, _, e => by
    simp only [VRs] at e ⊢
    obtain ⟨v, r, e, f, g⟩ := e
    exact ⟨v, r, e, VR.mono h a _ f, VRs.mono h x _ g⟩
end
theorem VRs.nil (ρ : Ren) : VRs ρ [] [] := by simp only [VRs]
theorem VRs.cons {ρ : Ren} {a : AV} {v : Value} {x : List AV} {r : List Value} (h : VR ρ a v) (k : VRs ρ x r) : VRs ρ (a :: x) (v :: r) := by
  simp only [VRs]
  exact ⟨v, r, rfl, h, k⟩
theorem VRs.length {ρ : Ren} : ∀ {a : List AV} {l : List Value}, VRs ρ a l → l.length = a.length
  | [], _, e => by simp only [VRs] at e; subst e; rfl
  | a :: x, _, e => by
    simp only [VRs] at e
    obtain ⟨v, r, rfl, _, g⟩ := e
    simp [VRs.length g]
theorem VRs.append {ρ : Ren} : ∀ {a b : List AV} {l m : List Value}, VRs ρ a l → VRs ρ b m → VRs ρ (a ++ b) (l ++ m)
  | [], _, _, _, e, f => by simp only [VRs] at e; subst e; exact f
  | a :: x, _, _, _, e, f => by
    simp only [VRs] at e
    obtain ⟨v, r, rfl, h, g⟩ := e
    exact VRs.cons h (VRs.append g f)
theorem VRs.get {ρ : Ren} : ∀ {a : List AV} {l : List Value} {i : Nat} {x : AV}, VRs ρ a l → a[i]? = some x → ∃ v, l[i]? = some v ∧ VR ρ x v
  | [], _, _, _, _, h => by simp at h
  | a :: x, _, i, _, e, h => by
    simp only [VRs] at e
    obtain ⟨v, r, rfl, hv, g⟩ := e
    cases i with
    | zero => simp only [List.getElem?_cons_zero, Option.some.injEq] at h; subst h; exact ⟨v, rfl, hv⟩
    | succ i => simp only [List.getElem?_cons_succ] at h ⊢; exact VRs.get g h
theorem VRs.drop {ρ : Ren} : ∀ {a : List AV} {l : List Value} (n : Nat), VRs ρ a l → VRs ρ (a.drop n) (l.drop n)
  | a, l, 0, e => by simpa using e
  | [], _, n + 1, e => by simp only [VRs] at e; subst e; simp [VRs]
  | a :: x, _, n + 1, e => by
    simp only [VRs] at e
    obtain ⟨v, r, rfl, _, g⟩ := e
    exact VRs.drop n g
theorem VRs.take {ρ : Ren} : ∀ {a : List AV} {l : List Value} (n : Nat), VRs ρ a l → VRs ρ (a.take n) (l.take n)
  | a, l, 0, e => by simp [VRs]
  | [], _, n + 1, e => by simp only [VRs] at e; subst e; simp [VRs]
  | a :: x, _, n + 1, e => by
    simp only [VRs] at e
    obtain ⟨v, r, rfl, h, g⟩ := e
    exact VRs.cons h (VRs.take n g)
theorem VRs.set {ρ : Ren} {x : AV} {v : Value} (h : VR ρ x v) : ∀ {a : List AV} {l : List Value} (n : Nat), VRs ρ a l → VRs ρ (a.set n x) (l.set n v)
  | [], _, n, e => by simp only [VRs] at e; subst e; simp [VRs]
  | a :: y, _, 0, e => by
    simp only [VRs] at e
    obtain ⟨u, r, rfl, _, g⟩ := e
    exact VRs.cons h g
  | a :: y, _, n + 1, e => by
    simp only [VRs] at e
    obtain ⟨u, r, rfl, k, g⟩ := e
    exact VRs.cons k (VRs.set h n g)
theorem VR.cells {ρ : Ren} {a : AV} {v : Value} (h : VR ρ a v) : VRs ρ a.cells v.cells.toList := by
  have k := h
  cases a with
  | agg l => simp only [VR] at h; obtain ⟨x, rfl, h⟩ := h; exact h
  | bool b => simp only [VR] at h; subst h; exact VRs.cons k (VRs.nil ρ)
  | int b n => simp only [VR] at h; subst h; exact VRs.cons k (VRs.nil ρ)
  | str s => simp only [VR] at h; obtain ⟨_, rfl, _⟩ := h; exact VRs.cons k (VRs.nil ρ)
  | ptr a => cases a <;> simp only [VR] at h <;> (first | subst h | obtain ⟨_, _, _, rfl⟩ := h) <;> exact VRs.cons k (VRs.nil ρ)
  | slice a n c z => cases a <;> simp only [VR] at h <;> (first | subst h | obtain ⟨_, _, _, _, _, rfl, _⟩ := h) <;> exact VRs.cons k (VRs.nil ρ)
  | map a => cases a <;> simp only [VR] at h <;> (first | subst h | obtain ⟨_, _, _, rfl⟩ := h) <;> exact VRs.cons k (VRs.nil ρ)
  | fn f a c => simp only [VR] at h; obtain ⟨_, _, rfl, _⟩ := h; exact VRs.cons k (VRs.nil ρ)
  | nilFn => simp only [VR] at h; subst h; exact VRs.cons k (VRs.nil ρ)
  | iface t x => simp only [VR] at h; obtain ⟨_, rfl, _⟩ := h; exact VRs.cons k (VRs.nil ρ)
  | nilIface => simp only [VR] at h; subst h; exact VRs.cons k (VRs.nil ρ)
  | tuple l => simp only [VR] at h; obtain ⟨_, rfl, _⟩ := h; exact VRs.cons k (VRs.nil ρ)

section
variable {α β : Type}
theorem ifB_true (x y : α) : ifB true x y = x := rfl
theorem ifB_false (x y : α) : ifB false x y = y := rfl
theorem ifS_none (d : β) (k : α → β) : ifS d k none = d := rfl
theorem ifS_some (d : β) (k : α → β) (a : α) : ifS d k (some a) = k a := rfl
theorem ifC_nil (d : β) (k : α → List α → β) : ifC d k [] = d := rfl
theorem ifC_cons (d : β) (k : α → List α → β) (a : α) (l : List α) : ifC d k (a :: l) = k a l := rfl
theorem T.get_leaf (n : Nat) : (T.leaf : T α).get n = none := rfl
theorem T.get_node (v : Option α) (l r : T α) (n : Nat) : (T.node v l r).get n = if n = 0 then v else if n % 2 = 1 then l.get (n / 2) else r.get (n / 2 - 1) := by
  show Bool.rec (motive := fun _ => Option α) (Bool.rec (motive := fun _ => Option α) (r.get (n / 2 - 1)) (l.get (n / 2)) (Nat.beq (n % 2) 1)) v (Nat.beq n 0) = _
  cases h : Nat.beq n 0
  · have h0 : n ≠ 0 := fun e => by subst e; cases h
    rw [if_neg h0]
    cases k : Nat.beq (n % 2) 1
    · have k0 : n % 2 ≠ 1 := fun e => by rw [e] at k; cases k
      rw [if_neg k0]
    · rw [if_pos (Nat.eq_of_beq_eq_true k)]
  · rw [if_pos (Nat.eq_of_beq_eq_true h)]
theorem T.set_node (v : Option α) (l r : T α) (n : Nat) (x : Option α) : (T.node v l r).set n x = if n = 0 then .node x l r else if n % 2 = 1 then .node v (l.set (n / 2) x) r else .node v l (r.set (n / 2 - 1) x) := by
  show Bool.rec (motive := fun _ => T α) (Bool.rec (motive := fun _ => T α) (.node v l (r.set (n / 2 - 1) x)) (.node v (l.set (n / 2) x) r) (Nat.beq (n % 2) 1)) (.node x l r) (Nat.beq n 0) = _
  cases h : Nat.beq n 0
  · have h0 : n ≠ 0 := fun e => by subst e; cases h
    rw [if_neg h0]
    cases k : Nat.beq (n % 2) 1
    · have k0 : n % 2 ≠ 1 := fun e => by rw [e] at k; cases k
      rw [if_neg k0]
    · rw [if_pos (Nat.eq_of_beq_eq_true k)]
  · rw [if_pos (Nat.eq_of_beq_eq_true h)]
theorem T.set1_succ (x : Option α) (f n : Nat) : T.set1 x (f + 1) n = if n = 0 then .node x .leaf .leaf else if n % 2 = 1 then .node none (T.set1 x f (n / 2)) .leaf else .node none .leaf (T.set1 x f (n / 2 - 1)) := by
  show Bool.rec (motive := fun _ => T α) (Bool.rec (motive := fun _ => T α) (.node none .leaf (T.set1 x f (n / 2 - 1))) (.node none (T.set1 x f (n / 2)) .leaf) (Nat.beq (n % 2) 1)) (.node x .leaf .leaf) (Nat.beq n 0) = _
  cases h : Nat.beq n 0
  · have h0 : n ≠ 0 := fun e => by subst e; cases h
    rw [if_neg h0]
    cases k : Nat.beq (n % 2) 1
    · have k0 : n % 2 ≠ 1 := fun e => by rw [e] at k; cases k
      rw [if_neg k0]
    · rw [if_pos (Nat.eq_of_beq_eq_true k)]
  · rw [if_pos (Nat.eq_of_beq_eq_true h)]
theorem T.get_set1 (x : Option α) : ∀ (f n : Nat), n < f → ∀ m, (T.set1 x f n).get m = if m = n then x else none
  | 0, n, h, _ => absurd h (Nat.not_lt_zero n)
  | f + 1, n, h, m => by
    rw [T.set1_succ]
    by_cases h0 : n = 0
    · rw [if_pos h0, T.get_node]
      subst h0
      by_cases hm : m = 0
      · rw [if_pos hm, if_pos hm]
      · rw [if_neg hm, if_neg hm, T.get_leaf, T.get_leaf]
        simp
    · rw [if_neg h0]
      by_cases h1 : n % 2 = 1
      · rw [if_pos h1, T.get_node, T.get_leaf]
        by_cases hm : m = 0
        · rw [if_pos hm, if_neg (by omega)]
        rw [if_neg hm]
        by_cases m1 : m % 2 = 1
        · rw [if_pos m1, T.get_set1 x f (n / 2) (by omega)]
          by_cases e : m = n
          · rw [if_pos e, if_pos (by rw [e])]
          · rw [if_neg e, if_neg (by omega)]
        · rw [if_neg m1, if_neg (by omega)]
      · rw [if_neg h1, T.get_node, T.get_leaf]
        by_cases hm : m = 0
        · rw [if_pos hm, if_neg (by omega)]
        rw [if_neg hm]
        by_cases m1 : m % 2 = 1
        · rw [if_pos m1, if_neg (by omega)]
        · rw [if_neg m1, T.get_set1 x f (n / 2 - 1) (by omega)]
          by_cases e : m = n
          · rw [if_pos e, if_pos (by rw [e])]
          · rw [if_neg e, if_neg (by omega)]
theorem T.get_set (x : Option α) : ∀ (t : T α) (n m : Nat), (t.set n x).get m = if m = n then x else t.get m
  | .leaf, n, m => by
    show (T.set1 x (n + 1) n).get m = _
    rw [T.get_set1 x (n + 1) n (Nat.lt_succ_self n), T.get_leaf]
  | .node v l r, n, m => by
    rw [T.set_node]
    by_cases h0 : n = 0
    · rw [if_pos h0, T.get_node, T.get_node]
      by_cases hm : m = 0
      · rw [if_pos hm, if_pos (by omega)]
      · rw [if_neg hm, if_neg (show ¬ m = n by omega), if_neg hm]
    · rw [if_neg h0]
      by_cases h1 : n % 2 = 1
      · rw [if_pos h1, T.get_node, T.get_node]
        by_cases hm : m = 0
        · rw [if_pos hm, if_pos hm, if_neg (by omega)]
        rw [if_neg hm, if_neg hm]
        by_cases m1 : m % 2 = 1
        · rw [if_pos m1, if_pos m1, T.get_set x l]
          by_cases e : m = n
          · rw [if_pos e, if_pos (by rw [e])]
          · rw [if_neg e, if_neg (by omega)]
        · rw [if_neg m1, if_neg m1, if_neg (by omega)]
      · rw [if_neg h1, T.get_node, T.get_node]
        by_cases hm : m = 0
        · rw [if_pos hm, if_pos hm, if_neg (by omega)]
        rw [if_neg hm, if_neg hm]
        by_cases m1 : m % 2 = 1
        · rw [if_pos m1, if_pos m1, if_neg (by omega)]
        · rw [if_neg m1, if_neg m1, T.get_set x r]
          by_cases e : m = n
          · rw [if_pos e, if_pos (by rw [e])]
          · rw [if_neg e, if_neg (by omega)]
end
theorem dropN_eq : ∀ (n : Nat) (l : List AV), dropN n l = l.drop n
  | 0, _ => rfl
  | _ + 1, [] => rfl
  | n + 1, _ :: l => dropN_eq n l
theorem takeN_eq : ∀ (n : Nat) (l r : List AV), takeN n l = some r → r = l.take n ∧ n ≤ l.length
  | 0, _, r, h => by cases h; exact ⟨rfl, Nat.zero_le _⟩
  | n + 1, [], r, h => by cases h
  | n + 1, a :: l, r, h => by
    have h : ifS none (fun r => some (a :: r)) (takeN n l) = some r := h
    cases k : takeN n l with
    | none => rw [k] at h; cases h
    | some q =>
      rw [k] at h
      cases h
      obtain ⟨rfl, e⟩ := takeN_eq n l q k
      exact ⟨rfl, Nat.succ_le_succ e⟩
theorem putL_eq : ∀ (vs cs r : List AV), putL vs cs = some r → r = vs ++ cs.drop vs.length ∧ vs.length ≤ cs.length
  | [], _, r, h => by cases h; exact ⟨rfl, Nat.zero_le _⟩
  | _ :: _, [], r, h => by cases h
  | v :: vs, _ :: cs, r, h => by
    have h : ifS none (fun r => some (v :: r)) (putL vs cs) = some r := h
    cases k : putL vs cs with
    | none => rw [k] at h; cases h
    | some q =>
      rw [k] at h
      cases h
      obtain ⟨rfl, e⟩ := putL_eq vs cs q k
      exact ⟨rfl, Nat.succ_le_succ e⟩
theorem putAt_eq (vs : List AV) : ∀ (n : Nat) (cs r : List AV), putAt vs n cs = some r → r = cs.take n ++ (vs ++ cs.drop (n + vs.length)) ∧ n + vs.length ≤ cs.length
  | 0, cs, r, h => by
    obtain ⟨rfl, e⟩ := putL_eq vs cs r h
    simpa using e
  | n + 1, [], r, h => by cases h
  | n + 1, a :: cs, r, h => by
    have h : ifS none (fun r => some (a :: r)) (putAt vs n cs) = some r := h
    cases k : putAt vs n cs with
    | none => rw [k] at h; cases h
    | some q =>
      rw [k] at h
      cases h
      obtain ⟨rfl, e⟩ := putAt_eq vs n cs q k
      refine ⟨?_, by simp only [List.length_cons]; omega⟩
      have : n + 1 + vs.length = n + vs.length + 1 := by omega
      rw [this]
      rfl
theorem len_eq {α : Type} : ∀ (l : List α), len l = l.length
  | [] => rfl
  | _ :: l => congrArg Nat.succ (len_eq l)
end Go.Sx
