/-
  Plain mathematics of 64-bit numbers: what wraps, quotients and what is left, which bits a number's other side has, products by shifts.
-/
import Derived.Test.YtbplhpjhgacanaaChecked
import Derived.WalkKit
import Derived.WalkSpells
import Derived.Lib.Hide
import Derived.PlainAid
import Derived.Laws.BitsAllLaws
import Derived.Lib.Strings
namespace Go.Proofs.Ytbplhpjhgacanaa
open Go.RowKit

theorem ret_bool {a b : Bool} (h : a = b) : Ending.returned (.bool a) = .returned (.bool b) := by rw [h]
theorem ret_int {k : IntKind} {a b : Int} (h : a = b) : Ending.returned (.int k a) = .returned (.int k b) := by rw [h]
theorem ret_ints {k k' : IntKind} {a b a' b' : Int} (h : a = a') (h' : b = b') : Ending.returned (.tuple #[.int k a, .int k' b]) = .returned (.tuple #[.int k a', .int k' b']) := by rw [h, h']

/-- a signed number of 64 bits -/
def I64 (a : Int) : Prop := -9223372036854775808 ≤ a ∧ a ≤ 9223372036854775807
theorem I64.of_wf {a : Int} (h : (Lit.int .i64 a).wf = true) : I64 a := by
  simp only [Lit.wf, IntKind.min, IntKind.max, IntKind.signed, IntKind.bits, Bool.and_eq_true, decide_eq_true_eq, if_true] at h
  unfold I64; omega
theorem wrap64_in {a : Int} (h : I64 a) : wrap64 a = a := by unfold I64 at h; unfold wrap64; omega
theorem wrap64_is (n : Int) : I64 (wrap64 n) := by unfold I64 wrap64; omega
theorem wrap64_mod (n : Int) : wrap64 n % 18446744073709551616 = n % 18446744073709551616 := by unfold wrap64; omega
theorem wrap64_of_mod {m n : Int} (h : m % 18446744073709551616 = n % 18446744073709551616) : wrap64 m = wrap64 n := by unfold wrap64; omega
theorem wrap_add_l (x y : Int) : wrap64 (wrap64 x + y) = wrap64 (x + y) := by unfold wrap64; omega
theorem wrap_add_r (x y : Int) : wrap64 (x + wrap64 y) = wrap64 (x + y) := by unfold wrap64; omega
theorem wrap_mul_l (x y : Int) : wrap64 (wrap64 x * y) = wrap64 (x * y) := wrap64_of_mod (by rw [Int.mul_emod, wrap64_mod, ← Int.mul_emod])
theorem wrap_mul_r (x y : Int) : wrap64 (x * wrap64 y) = wrap64 (x * y) := wrap64_of_mod (by rw [Int.mul_emod, wrap64_mod, ← Int.mul_emod])

/-- quotient, what is left -/
def divB (a b : Int) : Bool := b != 0 && !(a == -9223372036854775808 && b == -1)
def quoV (a b : Int) : Int := if divB a b then a.tdiv b else 0
def remV (a b : Int) : Int := if divB a b then a.tmod b else 0
def signV (n : Int) (b : Bool) : Int := if b = true then wrap64 (-n) else wrap64 n
def one (b : Bool) : Int := if b then 1 else 0
theorem divB_iff {a b : Int} : divB a b = true ↔ b ≠ 0 ∧ ¬(a = -9223372036854775808 ∧ b = -1) := by unfold divB; simp; omega
theorem tdiv_mag (a b : Int) : (a.tdiv b).natAbs = a.natAbs / b.natAbs := Int.natAbs_tdiv ..
theorem tdiv_in {a b : Int} (ha : I64 a) (h : divB a b = true) : I64 (a.tdiv b) := by
  rw [divB_iff] at h
  have hm := tdiv_mag a b
  have h1 : a.natAbs / b.natAbs ≤ a.natAbs := Nat.div_le_self ..
  unfold I64 at *
  by_cases hb : b.natAbs = 1
  · rcases Int.natAbs_eq b with h2 | h2
    · rw [hb] at h2; rw [h2] ; simp; omega
    · rw [hb] at h2; rw [h2] ; simp; omega
  · have h2 : a.natAbs / b.natAbs ≤ a.natAbs / 2 := Nat.div_le_div_left (by omega) (by omega)
    have h3 : a.natAbs / 2 ≤ 4611686018427387904 := by omega
    omega
theorem tmod_in {a b : Int} (hb : I64 b) (h : divB a b = true) : I64 (a.tmod b) := by
  have h0 := (divB_iff.1 h).1
  have h1 : (a.tmod b).natAbs = a.natAbs % b.natAbs := Int.natAbs_tmod ..
  have h2 : a.natAbs % b.natAbs < b.natAbs := Nat.mod_lt _ (by omega)
  unfold I64 at *
  omega
theorem wrap_quo {a b : Int} (ha : I64 a) (h : divB a b = true) : wrap64 (a.tdiv b) = quoV a b := by rw [wrap64_in (tdiv_in ha h), quoV, if_pos h]
theorem wrap_rem {a b : Int} (hb : I64 b) (h : divB a b = true) : wrap64 (a.tmod b) = remV a b := by rw [wrap64_in (tmod_in hb h), remV, if_pos h]
theorem quoV_in {a b : Int} (ha : I64 a) : I64 (quoV a b) := by
  unfold quoV; split
  · exact tdiv_in ha ‹_›
  · unfold I64; omega
theorem remV_in {a b : Int} (hb : I64 b) : I64 (remV a b) := by
  unfold remV; split
  · exact tmod_in hb ‹_›
  · unfold I64; omega
/-- the law of quotients -/
theorem quo_rem {a b : Int} (ha : I64 a) (h : divB a b = true) : wrap64 (wrap64 (quoV a b * b) + remV a b) = a := by
  rw [wrap_add_l, quoV, remV, if_pos h, if_pos h]
  have := Int.tdiv_mul_add_tmod a b
  rw [this, wrap64_in ha]
theorem rem_sign {a b : Int} (h : divB a b = true) : remV a b = 0 ∨ ((remV a b < 0) ↔ (a < 0)) := by
  have h0 := (divB_iff.1 h).1
  rw [remV, if_pos h]
  by_cases ha : 0 ≤ a
  · have := Int.tmod_nonneg b ha
    right; omega
  · have h1 := Int.tmod_nonneg b (a := -a) (by omega)
    rw [Int.neg_tmod] at h1
    omega
theorem rem_mag {a b : Int} (h : divB a b = true) : (remV a b).natAbs < b.natAbs := by
  have h0 := (divB_iff.1 h).1
  rw [remV, if_pos h]
  have h1 : (a.tmod b).natAbs = a.natAbs % b.natAbs := Int.natAbs_tmod ..
  rw [h1]
  exact Nat.mod_lt _ (by omega)

/-- bits -/
theorem not_u64 {a : Int} (h0 : 0 ≤ a) (h1 : a < 18446744073709551616) : bits .xor .u64 IntKind.u64.max a = 18446744073709551615 - a := by
  obtain ⟨n, rfl⟩ := Int.eq_ofNat_of_zero_le h0
  show IntKind.u64.wrap ((BitVec.ofInt 64 _ ^^^ BitVec.ofInt 64 (n : Int)).toNat : Int) = _
  have h2 : BitVec.ofInt 64 IntKind.u64.max = BitVec.allOnes 64 := by decide
  rw [h2, BitVec.allOnes_xor, BitVec.toNat_not, ofInt_u64 n (by omega), IntKind.wrap_u64]
  omega
theorem xor_top_lo {n : Nat} (h : n < 9223372036854775808) : n ^^^ 9223372036854775808 = 9223372036854775808 + n := by
  apply Nat.eq_of_testBit_eq
  intro i
  rw [show (9223372036854775808 : Nat) = 2 ^ 63 from rfl, Nat.testBit_xor, Nat.testBit_two_pow]
  rcases Nat.lt_trichotomy i 63 with hi | rfl | hi
  · rw [Nat.testBit_two_pow_add_gt hi, decide_eq_false (by omega : ¬63 = i), Bool.xor_false]
  · rw [Nat.testBit_two_pow_add_eq, decide_eq_true rfl, Bool.xor_true]
  · rw [Nat.testBit_lt_two_pow (x := n) (i := i) (Nat.lt_of_lt_of_le h (Nat.pow_le_pow_right (n := 2) (by omega) (by omega : 63 ≤ i))), Nat.testBit_lt_two_pow (x := 2 ^ 63 + n) (i := i) (Nat.lt_of_lt_of_le (show 2 ^ 63 + n < 2 ^ 64 by omega) (Nat.pow_le_pow_right (n := 2) (by omega) (by omega : 64 ≤ i))), decide_eq_false (by omega : ¬63 = i)]
    rfl
theorem xor_top_hi {n : Nat} (h : 9223372036854775808 ≤ n) (h2 : n < 18446744073709551616) : n ^^^ 9223372036854775808 = n - 9223372036854775808 := by
  obtain ⟨m, rfl⟩ := Nat.exists_eq_add_of_le h
  rw [← xor_top_lo (n := m) (by omega), Nat.xor_assoc, Nat.xor_self, Nat.xor_zero, xor_top_lo (by omega)]
  omega
/-- a signed number's bits, the top one turned: the number above the least -/
theorem xor_top {a : Int} (h : I64 a) : bits .xor .u64 (IntKind.u64.wrap a) 9223372036854775808 = a + 9223372036854775808 := by
  unfold I64 at h
  rw [IntKind.wrap_u64]
  obtain ⟨n, hn⟩ := Int.eq_ofNat_of_zero_le (Int.emod_nonneg a (by decide : (18446744073709551616 : Int) ≠ 0))
  rw [hn, show (9223372036854775808 : Int) = ((9223372036854775808 : Nat) : Int) from rfl, u64_xor_nat n _ (by omega) (by omega)]
  by_cases h2 : n < 9223372036854775808
  · rw [xor_top_lo h2]; omega
  · rw [xor_top_hi (by omega) (by omega)]; omega
theorem xor_same {a b : Int} (ha : I64 a) (hb : I64 b) : (bits .xor .u64 (IntKind.u64.wrap a) (IntKind.u64.wrap b) = 0) ↔ a = b := by
  unfold I64 at ha hb
  rw [IntKind.wrap_u64, IntKind.wrap_u64]
  obtain ⟨n, hn⟩ := Int.eq_ofNat_of_zero_le (Int.emod_nonneg a (by decide : (18446744073709551616 : Int) ≠ 0))
  obtain ⟨m, hm⟩ := Int.eq_ofNat_of_zero_le (Int.emod_nonneg b (by decide : (18446744073709551616 : Int) ≠ 0))
  rw [hn, hm, u64_xor_nat n m (by omega) (by omega)]
  constructor
  · intro h
    have h : n ^^^ m = 0 := by omega
    have : n = m := by
      have h3 : n ^^^ m ^^^ m = 0 ^^^ m := by rw [h]
      rwa [Nat.xor_assoc, Nat.xor_self, Nat.xor_zero, Nat.zero_xor] at h3
    omega
  · rintro rfl
    have : n = m := by omega
    subst this
    rw [Nat.xor_self]; rfl

/-- products by shifts -/
theorem prod_step (x y i : Nat) : (x * (y % 2 ^ i) + (if y / 2 ^ i % 2 = 1 then x * 2 ^ i else 0)) = x * (y % 2 ^ (i + 1)) := by
  have h : y % 2 ^ (i + 1) = y % 2 ^ i + 2 ^ i * (y / 2 ^ i % 2) := by rw [Nat.pow_succ, Nat.mod_mul]
  rw [h, Nat.mul_add]
  rcases Nat.mod_two_eq_zero_or_one (y / 2 ^ i) with h2 | h2
  · rw [h2]; simp
  · rw [h2]; simp
theorem bit_num {b k : Nat} : (((b : Int) / 2 ^ k).tmod 2 == 1) = decide (b / 2 ^ k % 2 = 1) := by
  have h : (((b : Int) / 2 ^ k).tmod 2) = ((b / 2 ^ k % 2 : Nat) : Int) := by rw [show ((2 : Int) ^ k) = ((2 ^ k : Nat) : Int) by simp]; rfl
  rw [h]
  rcases Nat.mod_two_eq_zero_or_one (b / 2 ^ k) with h2 | h2
  · rw [h2]; rfl
  · rw [h2]; rfl
theorem prod_add (a b k : Nat) (h : b / 2 ^ k % 2 = 1) : IntKind.u64.wrap ((a : Int) * ((b : Int) % 2 ^ k) % 18446744073709551616 + IntKind.u64.wrap ((a : Int) * 2 ^ k)) = ((a * (b % 2 ^ (k + 1)) % 18446744073709551616 : Nat) : Int) := by
  have h1 := prod_step a b k
  rw [if_pos h] at h1
  rw [← h1, IntKind.wrap_u64, IntKind.wrap_u64, show ((2 : Int) ^ k) = ((2 ^ k : Nat) : Int) by simp]
  simp only [← Int.natCast_emod, ← Int.natCast_mul]
  omega
theorem prod_keep (a b k : Nat) (h : ¬b / 2 ^ k % 2 = 1) : a * (b % 2 ^ k) = a * (b % 2 ^ (k + 1)) := by
  have h1 := prod_step a b k
  rw [if_neg h] at h1
  simpa using h1
end Go.Proofs.Ytbplhpjhgacanaa
