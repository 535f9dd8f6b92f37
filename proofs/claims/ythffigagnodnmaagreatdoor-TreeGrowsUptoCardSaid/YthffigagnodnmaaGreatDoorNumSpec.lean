/-
  Plain mathematics: the numbers that digits spell.
-/
import Derived.Test.YthffigagnodnmaaGreatDoorSpec
import Derived.Test.YthffigagnodnmaaGreatDoorAloneSpec
namespace Go.Proofs.YthffigagnodnmaaGreatDoor

def digV (acc : Nat) (l : List UInt8) : Nat := l.foldl (fun a c => a * 10 + (c.toNat - 48)) acc
def AllDig (l : List UInt8) : Prop := ∀ c ∈ l, 48 ≤ c.toNat ∧ c.toNat ≤ 57
theorem digV_cons (acc : Nat) (c : UInt8) (r : List UInt8) : digV acc (c :: r) = digV (acc * 10 + (c.toNat - 48)) r := List.foldl_cons ..
theorem digV_nil (acc : Nat) : digV acc [] = acc := List.foldl_nil ..
/-- ten, so many times -/
def ten : Nat → Nat
  | 0 => 1
  | n + 1 => 10 * ten n
theorem ten_pos (n : Nat) : 1 ≤ ten n := by
  induction n with
  | zero => exact Nat.le_refl _
  | succ n ih => simp only [ten]; omega
theorem ten_mono {a b : Nat} (h : a ≤ b) : ten a ≤ ten b := by
  induction b with
  | zero => have : a = 0 := by omega
            subst this; exact Nat.le_refl _
  | succ b ih =>
    by_cases hb : a = b + 1
    · subst hb; exact Nat.le_refl _
    · have := ih (by omega); simp only [ten]; omega
theorem ten_step (acc n : Nat) : acc * ten (n + 1) = acc * 10 * ten n := by
  rw [Nat.mul_assoc]; rfl
theorem digV_ge (l : List UInt8) : ∀ acc, acc * ten l.length ≤ digV acc l := by
  induction l with
  | nil => intro acc; rw [digV_nil]; simp [ten]
  | cons c r ih =>
    intro acc
    have h1 := ih (acc * 10 + (c.toNat - 48))
    have h2 : acc * 10 * ten r.length ≤ (acc * 10 + (c.toNat - 48)) * ten r.length := Nat.mul_le_mul_right _ (Nat.le_add_right _ _)
    rw [digV_cons, List.length_cons, ten_step]
    exact Nat.le_trans h2 h1
theorem digV_lt {l : List UInt8} (h : AllDig l) : ∀ acc, digV acc l < (acc + 1) * ten l.length := by
  induction l with
  | nil => intro acc; rw [digV_nil]; simp [ten]
  | cons c r ih =>
    intro acc
    have hc := h c (by simp)
    have h1 := ih (fun x hx => h x (by simp [hx])) (acc * 10 + (c.toNat - 48))
    have h2 : (acc * 10 + (c.toNat - 48) + 1) * ten r.length ≤ (acc + 1) * 10 * ten r.length := Nat.mul_le_mul_right _ (by omega)
    rw [digV_cons, List.length_cons, ten_step]
    exact Nat.lt_of_lt_of_le h1 h2
theorem digV_acc (l : List UInt8) (acc : Nat) : acc ≤ digV acc l :=
  Nat.le_trans (Nat.le_mul_of_pos_right _ (ten_pos _)) (digV_ge l acc)
theorem digV_snoc (l : List UInt8) (c : UInt8) : ∀ acc, digV acc (l ++ [c]) = digV acc l * 10 + (c.toNat - 48) := by
  induction l with
  | nil => intro acc; rw [List.nil_append, digV_cons, digV_nil, digV_nil]
  | cons x r ih => intro acc; rw [List.cons_append, digV_cons, digV_cons]; exact ih _
theorem parse_dig {l : List UInt8} (h : AllDig l) : ∀ acc, acc ≤ 18446744073709551615 → (digV acc l ≤ 18446744073709551615 → Lib.parseUintM 18446744073709551615 acc l = .ok (digV acc l)) ∧ (18446744073709551615 < digV acc l → Lib.parseUintM 18446744073709551615 acc l = .range) := by
  induction l with
  | nil =>
    intro acc ha
    rw [digV_nil]
    exact ⟨fun _ => rfl, fun h => by omega⟩
  | cons c r ih =>
    intro acc ha
    have hc := h c (by simp)
    have hr := digV_acc r (acc * 10 + (c.toNat - 48))
    rw [digV_cons]
    generalize hv : digV (acc * 10 + (c.toNat - 48)) r = V at hr
    simp only [Lib.parseUintM]
    rw [if_pos hc]
    by_cases h1 : 1844674407370955162 ≤ acc
    · rw [if_pos h1]
      exact ⟨fun hh => absurd hh (by omega), fun _ => rfl⟩
    · rw [if_neg h1]
      by_cases h2 : 18446744073709551615 < acc * 10 + (c.toNat - 48)
      · rw [if_pos h2]
        exact ⟨fun hh => absurd hh (by omega), fun _ => rfl⟩
      · rw [if_neg h2]
        have := ih (fun x hx => h x (by simp [hx])) (acc * 10 + (c.toNat - 48)) (by omega)
        rw [hv] at this
        exact this
theorem parse_ok_dig {M : Nat} : ∀ {l : List UInt8} {acc u : Nat}, Lib.parseUintM M acc l = .ok u → AllDig l := by
  intro l
  induction l with
  | nil => intro acc u _ c hc; cases hc
  | cons c r ih =>
    intro acc u h
    simp only [Lib.parseUintM] at h
    split at h
    · rename_i hc
      split at h
      · cases h
      · split at h
        · cases h
        · intro x hx
          cases hx with
          | head => exact hc
          | tail _ hx => exact ih h x hx
    · cases h
theorem uintB_eq {l : List UInt8} (hl : l ≠ []) : Lib.parseUintB 64 l = Lib.parseUintM 18446744073709551615 0 l := by
  unfold Lib.parseUintB
  rw [if_neg hl]
theorem parse_small {l : List UInt8} (hl : l ≠ []) (h : AllDig l) (hv : digV 0 l < 9223372036854775808) : Lib.parseIntB 64 l = .ok (digV 0 l : Int) := by
  cases l with
  | nil => exact absurd rfl hl
  | cons c r =>
    have hc := h c (by simp)
    have hp := (parse_dig h 0 (by omega)).1 (by omega)
    generalize digV 0 (c :: r) = V at hv hp ⊢
    unfold Lib.parseIntB
    simp only
    rw [if_neg (by omega), uintB_eq hl, hp]
    simp only
    rw [if_neg (by rintro ⟨_, h⟩; omega), if_neg (by rintro ⟨h, _⟩; omega), if_neg (by omega)]
theorem parse_great {l : List UInt8} (hl : l ≠ []) (h : AllDig l) (hv : 9223372036854775808 ≤ digV 0 l) : ∀ v, Lib.parseIntB 64 l ≠ .ok v := by
  cases l with
  | nil => exact absurd rfl hl
  | cons c r =>
    have hc := h c (by simp)
    have hp := parse_dig h 0 (by omega)
    generalize digV 0 (c :: r) = V at hv hp ⊢
    intro v hn
    unfold Lib.parseIntB at hn
    simp only at hn
    rw [if_neg (by omega), uintB_eq hl] at hn
    by_cases h1 : V ≤ 18446744073709551615
    · rw [hp.1 h1] at hn
      simp only at hn
      rw [if_pos ⟨by omega, by omega⟩] at hn
      cases hn
    · rw [hp.2 (by omega)] at hn
      cases hn
theorem litL_dig {l : List UInt8} (hl : l ≠ []) (h : AllDig l) :
    litL l = if 1 < l.length ∧ (l.head?.getD 0).toNat = 48 then none else if digV 0 l < 9223372036854775808 then some (digV 0 l : Int) else none := by
  unfold litL
  split
  · rfl
  · by_cases hv : digV 0 l < 9223372036854775808
    · rw [if_pos hv, parse_small hl h hv]
    · rw [if_neg hv]
      have hp := parse_great hl h (by omega)
      cases hq : Lib.parseIntB 64 l with
      | ok v => exact absurd hq (hp v)
      | _ => rfl
theorem litL_noS {l : List UInt8} (hp : ∀ n, Lib.parseIntB 64 l ≠ .ok n) : litL l = none := by
  unfold litL
  split
  · rfl
  · split
    · rename_i v hv; exact absurd hv (hp v)
    · rfl
theorem litL_not {l : List UInt8} (hr : ∀ c ∈ l, moreB c = true) (h : ¬ AllDig l) : litL l = none := by
  apply litL_noS
  intro n hn
  cases l with
  | nil => exact h (fun c hc => by cases hc)
  | cons c r =>
    have hc := hr c (by simp)
    have hp := moreB_plain hc
    have h43 : c.toNat ≠ 43 := by
      intro e
      simp only [moreB, smallB, greatB, digitB, Bool.or_eq_true, Bool.and_eq_true, decide_eq_true_eq] at hc
      omega
    unfold Lib.parseIntB at hn
    simp only at hn
    rw [if_neg (by rintro (h | h) <;> omega), uintB_eq (by simp)] at hn
    split at hn
    · cases hn
    · cases hn
    · rename_i u hu
      exact h (parse_ok_dig hu)
/-- where a text of digits is too long, its number is too great -/
theorem dig_long {l : List UInt8} (h : AllDig l) (hlen : 19 < l.length) (h0 : (l.head?.getD 0).toNat ≠ 48) : 9223372036854775808 ≤ digV 0 l := by
  cases l with
  | nil => simp at hlen
  | cons c r =>
    have hc := h c (by simp)
    simp only [List.head?_cons, Option.getD_some] at h0
    simp only [List.length_cons] at hlen
    have h1 := digV_ge r (0 * 10 + (c.toNat - 48))
    have h2 : ten 19 ≤ ten r.length := ten_mono (by omega)
    have h3 : 1 * ten 19 ≤ (0 * 10 + (c.toNat - 48)) * ten r.length := Nat.mul_le_mul (by omega) h2
    have h4 : ten 19 = 10000000000000000000 := by kernel_rfl
    rw [digV_cons]
    omega
theorem dig_short {l : List UInt8} (h : AllDig l) {k : Nat} (hk : l.length ≤ k) : digV 0 l < ten k := by
  have h1 := digV_lt h 0
  have h2 : ten l.length ≤ ten k := ten_mono hk
  omega
end Go.Proofs.YthffigagnodnmaaGreatDoor
