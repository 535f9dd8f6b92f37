/-
  word: the reference's Bin.
-/
import Derived.Test.YtbplhpjhgacanaaWordBin
namespace Go.Proofs.Ytbplhpjhgacanaa
open Go.RowKit
theorem mag_quo {a b : Int} (ha : I64 a) : 0 ≤ IntKind.u64.wrap ((a.natAbs : Int) / (b.natAbs : Int)) ∧ IntKind.u64.wrap ((a.natAbs : Int) / (b.natAbs : Int)) < 18446744073709551616 ∧ IntKind.u64.wrap ((a.natAbs : Int) / (b.natAbs : Int)) = ((a.natAbs / b.natAbs : Nat) : Int) := by
  have h1 : a.natAbs / b.natAbs ≤ a.natAbs := Nat.div_le_self ..
  unfold I64 at ha
  rw [IntKind.wrap_u64, show ((a.natAbs : Int) / (b.natAbs : Int)) = ((a.natAbs / b.natAbs : Nat) : Int) from rfl]
  generalize a.natAbs / b.natAbs = q at *
  omega
theorem mag_rem {a b : Int} (ha : I64 a) : 0 ≤ (a.natAbs : Int) % (b.natAbs : Int) ∧ (a.natAbs : Int) % (b.natAbs : Int) < 18446744073709551616 ∧ (a.natAbs : Int) % (b.natAbs : Int) = ((a.natAbs % b.natAbs : Nat) : Int) := by
  have h1 : a.natAbs % b.natAbs ≤ a.natAbs := Nat.mod_le ..
  unfold I64 at ha
  rw [show ((a.natAbs : Int) % (b.natAbs : Int)) = ((a.natAbs % b.natAbs : Nat) : Int) from rfl]
  generalize a.natAbs % b.natAbs = q at *
  omega
theorem abs_of {a : Int} (h : ¬a < 0) : ∃ n : Nat, a = n ∧ a.natAbs = n := ⟨a.natAbs, by omega, rfl⟩
theorem abs_neg_of {a : Int} (h : a < 0) : ∃ n : Nat, a = -(n : Int) ∧ a.natAbs = n := ⟨a.natAbs, by omega, rfl⟩
theorem tdiv_sides (a b : Int) : a.tdiv b = if (!(decide (a < 0) == decide (b < 0))) = true then -((a.natAbs / b.natAbs : Nat) : Int) else ((a.natAbs / b.natAbs : Nat) : Int) := by
  by_cases h1 : a < 0 <;> by_cases h2 : b < 0 <;> simp only [h1, h2, decide_true, decide_false] <;> simp
  · obtain ⟨n, rfl, e1⟩ := abs_neg_of h1
    obtain ⟨m, rfl, e2⟩ := abs_neg_of h2
    rw [e1, e2, Int.neg_tdiv, Int.tdiv_neg, Int.neg_neg]; rfl
  · obtain ⟨n, rfl, e1⟩ := abs_neg_of h1
    obtain ⟨m, rfl, e2⟩ := abs_of h2
    rw [e1, e2, Int.neg_tdiv]; rfl
  · obtain ⟨n, rfl, e1⟩ := abs_of h1
    obtain ⟨m, rfl, e2⟩ := abs_neg_of h2
    rw [e1, e2, Int.tdiv_neg]; rfl
  · obtain ⟨n, rfl, e1⟩ := abs_of h1
    obtain ⟨m, rfl, e2⟩ := abs_of h2
    rw [e1, e2]; rfl
theorem tmod_sides (a b : Int) : a.tmod b = if decide (a < 0) = true then -((a.natAbs % b.natAbs : Nat) : Int) else ((a.natAbs % b.natAbs : Nat) : Int) := by
  by_cases h1 : a < 0 <;> by_cases h2 : b < 0 <;> simp only [h1, decide_true, decide_false] <;> simp
  · obtain ⟨n, rfl, e1⟩ := abs_neg_of h1
    obtain ⟨m, rfl, e2⟩ := abs_neg_of h2
    rw [e1, e2, Int.neg_tmod, Int.tmod_neg]; rfl
  · obtain ⟨n, rfl, e1⟩ := abs_neg_of h1
    obtain ⟨m, rfl, e2⟩ := abs_of h2
    rw [e1, e2, Int.neg_tmod]; rfl
  · obtain ⟨n, rfl, e1⟩ := abs_of h1
    obtain ⟨m, rfl, e2⟩ := abs_neg_of h2
    rw [e1, e2, Int.tmod_neg]; rfl
  · obtain ⟨n, rfl, e1⟩ := abs_of h1
    obtain ⟨m, rfl, e2⟩ := abs_of h2
    rw [e1, e2]; rfl
theorem sign_quo {a b : Int} (ha : I64 a) (h : divB a b = true) : signV (IntKind.u64.wrap ((a.natAbs : Int) / (b.natAbs : Int))) (!(decide (a < 0) == decide (b < 0))) = quoV a b := by
  rw [← wrap_quo ha h, (mag_quo ha).2.2, tdiv_sides, signV]
  split <;> rfl
theorem sign_rem {a b : Int} (ha : I64 a) (hb : I64 b) (h : divB a b = true) : signV ((a.natAbs : Int) % (b.natAbs : Int)) (decide (a < 0)) = remV a b := by
  rw [← wrap_rem hb h, (mag_rem ha).2.2, tmod_sides, signV]
  split <;> rfl
set_option maxHeartbeats 1000000 in
theorem rBin_quo (a b : Int) (ha : I64 a) (hb : I64 b) (w : World) : Calls Try.prog 11 #[.string ⟨#[47]⟩, .int .i64 a, .int .i64 b] w (BinPost ⟨#[47]⟩ a b w) := by
  unfold BinPost
  rw [show binV (ByteArray.data ⟨#[47]⟩).toList a b = quoV a b from rfl, show errOf (binB (ByteArray.data ⟨#[47]⟩).toList) = 0 from rfl]
  have HL := Lib.hid (least_any a b ha)
  have HS := Lib.hid (fun (x : Int) (hx : x = a ∨ x = b) w => size_any x (by rcases hx with rfl | rfl <;> assumption) w)
  cases h : divB a b
  · have hq : quoV a b = 0 := by simp [quoV, h]
    by_cases h0 : b = 0
    · clear h
      go_enter Try.func11, Try.ntmps11
      go_wp2_with fail
      go_ret2
      exact ⟨ret_ints (by simp [hq]) rfl, rfl⟩
    · have h1 : a = -9223372036854775808 ∧ b = -1 := by
        by_cases h2 : a = -9223372036854775808 ∧ b = -1
        · exact h2
        · rw [divB_iff.2 ⟨h0, h2⟩] at h; cases h
      obtain ⟨rfl, rfl⟩ := h1
      clear h ha hb h0
      go_enter Try.func11, Try.ntmps11
      go_wp2_with (go_at_call 23; refine (HL.out _).mono ?_; rintro e w' ⟨rfl, rfl⟩)
      go_ret2
      exact ⟨ret_ints (by simp [hq]) rfl, rfl⟩
  · obtain ⟨h0, h1⟩ := divB_iff.1 h
    have hl : (a == -9223372036854775808 && b == -1) = false := by simp; omega
    have hn : ((b.natAbs : Int) == 0) = false := by simp [h0]
    rw [hl] at HL
    have HQ := Lib.hid (fun w => signed_any (IntKind.u64.wrap ((a.natAbs : Int) / (b.natAbs : Int))) (!(decide (a < 0) == decide (b < 0))) (mag_quo ha).1 (mag_quo ha).2.1 w)
    rw [sign_quo ha h] at HQ
    clear ha hb h1
    go_enter Try.func11, Try.ntmps11
    go_wp2_with (first | (go_at_call 23; refine (HL.out _).mono ?_; rintro e w' ⟨rfl, rfl⟩) | (go_at_call 25; refine (HS.out _ (by first | exact .inl rfl | exact .inr rfl) _).mono ?_; rintro e w' ⟨rfl, rfl⟩) | (go_at_call 24; refine (HQ.out _).mono ?_; rintro e w' ⟨rfl, rfl⟩))
    all_goals go_ret2
    all_goals exact ⟨rfl, rfl⟩
set_option maxHeartbeats 1000000 in
theorem rBin_rem (a b : Int) (ha : I64 a) (hb : I64 b) (w : World) : Calls Try.prog 11 #[.string ⟨#[37]⟩, .int .i64 a, .int .i64 b] w (BinPost ⟨#[37]⟩ a b w) := by
  unfold BinPost
  rw [show binV (ByteArray.data ⟨#[37]⟩).toList a b = remV a b from rfl, show errOf (binB (ByteArray.data ⟨#[37]⟩).toList) = 0 from rfl]
  have HL := Lib.hid (least_any a b ha)
  have HS := Lib.hid (fun (x : Int) (hx : x = a ∨ x = b) w => size_any x (by rcases hx with rfl | rfl <;> assumption) w)
  cases h : divB a b
  · have hq : remV a b = 0 := by simp [remV, h]
    by_cases h0 : b = 0
    · clear h
      go_enter Try.func11, Try.ntmps11
      go_wp2_with fail
      go_ret2
      exact ⟨ret_ints (by simp [hq]) rfl, rfl⟩
    · have h1 : a = -9223372036854775808 ∧ b = -1 := by
        by_cases h2 : a = -9223372036854775808 ∧ b = -1
        · exact h2
        · rw [divB_iff.2 ⟨h0, h2⟩] at h; cases h
      obtain ⟨rfl, rfl⟩ := h1
      clear h ha hb h0
      go_enter Try.func11, Try.ntmps11
      go_wp2_with (go_at_call 23; refine (HL.out _).mono ?_; rintro e w' ⟨rfl, rfl⟩)
      go_ret2
      exact ⟨ret_ints (by simp [hq]) rfl, rfl⟩
  · obtain ⟨h0, h1⟩ := divB_iff.1 h
    have hl : (a == -9223372036854775808 && b == -1) = false := by simp; omega
    have hn : ((b.natAbs : Int) == 0) = false := by simp [h0]
    rw [hl] at HL
    have HQ := Lib.hid (fun w => signed_any ((a.natAbs : Int) % (b.natAbs : Int)) (decide (a < 0)) (mag_rem ha).1 (mag_rem ha).2.1 w)
    rw [sign_rem ha hb h] at HQ
    clear ha hb h1
    go_enter Try.func11, Try.ntmps11
    go_wp2_with (first | (go_at_call 23; refine (HL.out _).mono ?_; rintro e w' ⟨rfl, rfl⟩) | (go_at_call 25; refine (HS.out _ (by first | exact .inl rfl | exact .inr rfl) _).mono ?_; rintro e w' ⟨rfl, rfl⟩) | (go_at_call 24; refine (HQ.out _).mono ?_; rintro e w' ⟨rfl, rfl⟩))
    all_goals go_ret2
    all_goals exact ⟨rfl, rfl⟩
set_option maxHeartbeats 1000000 in
theorem rBin_mul (a b : Int) (w : World) : Calls Try.prog 11 #[.string ⟨#[42]⟩, .int .i64 a, .int .i64 b] w (BinPost ⟨#[42]⟩ a b w) := by
  unfold BinPost
  rw [show binV (ByteArray.data ⟨#[42]⟩).toList a b = wrap64 (a * b) from rfl, show errOf (binB (ByteArray.data ⟨#[42]⟩).toList) = 0 from rfl]
  have HP := Lib.hid (fun w => product_any (IntKind.u64.wrap a).toNat (IntKind.u64.wrap b).toNat (by rw [IntKind.wrap_u64]; omega) (by rw [IntKind.wrap_u64]; omega) w)
  have HV := Lib.hid (show wrap64 (((IntKind.u64.wrap a).toNat * (IntKind.u64.wrap b).toNat % 18446744073709551616 : Nat) : Int) = wrap64 (a * b) by
    apply wrap64_of_mod
    rw [Int.natCast_emod, Int.natCast_mul, Int.toNat_of_nonneg (by rw [IntKind.wrap_u64]; omega), Int.toNat_of_nonneg (by rw [IntKind.wrap_u64]; omega), IntKind.wrap_u64, IntKind.wrap_u64, Int.mul_emod a b]
    simp)
  rw [Int.toNat_of_nonneg (by rw [IntKind.wrap_u64]; omega), Int.toNat_of_nonneg (by rw [IntKind.wrap_u64]; omega)] at HP
  generalize (IntKind.u64.wrap a).toNat * (IntKind.u64.wrap b).toNat % 18446744073709551616 = p at HP HV
  go_enter Try.func11, Try.ntmps11
  go_wp2_with (go_at_call 22; refine (HP.out _).mono ?_; rintro e w' ⟨rfl, rfl⟩)
  go_ret2
  exact ⟨ret_ints (by rw [← HV.out]) rfl, rfl⟩
theorem str_of_toList {s : ByteArray} {l : List UInt8} (h : s.toList = l) : s = ⟨l.toArray⟩ := by
  rw [Lib.toList_data] at h
  cases s
  simp at h
  subst h
  rfl
set_option maxHeartbeats 1000000 in
theorem rBin_rest (s : ByteArray) (a b : Int) (ha : I64 a) (hb : I64 b) (h1 : (s.toList == [42]) = false) (h2 : (s.toList == [47]) = false) (h3 : (s.toList == [37]) = false) (w : World) : Calls Try.prog 11 #[.string s, .int .i64 a, .int .i64 b] w (BinPost s a b w) := by
  unfold BinPost
  rw [← Lib.toList_data]
  have HX := Lib.hid (xor_top ha)
  have HY := Lib.hid (xor_top hb)
  have HZ := Lib.hid (xor_same ha hb)
  have HS := Lib.hid (show wrap64 (IntKind.u64.wrap (IntKind.u64.wrap a + IntKind.u64.wrap b)) = wrap64 (a + b) by simp only [IntKind.wrap_u64]; unfold wrap64; omega)
  have HD := Lib.hid (show wrap64 (IntKind.u64.wrap (IntKind.u64.wrap a - IntKind.u64.wrap b)) = wrap64 (a - b) by simp only [IntKind.wrap_u64]; unfold wrap64; omega)
  clear ha hb
  go_enter Try.func11, Try.ntmps11
  go_wp2_with (go_at_call 26; refine (truth_any _ _).mono ?_; rintro e w' ⟨rfl, rfl⟩)
  all_goals go_ret2
  all_goals exact ⟨ret_ints (by
    have e1 := HS.out
    have e2 := HD.out
    have e3 := HX.out
    have e4 := HY.out
    have e5 := HZ.out
    have e6 : (bits .xor .u64 (IntKind.u64.wrap a) (IntKind.u64.wrap b) == 0) = (a == b) := by rw [Bool.eq_iff_iff]; simpa using e5
    have e7 : (bits .xor .u64 (IntKind.u64.wrap a) (IntKind.u64.wrap b) != 0) = (a != b) := by rw [bne, e6]; rfl
    clear e5 HS HD HX HY HZ
    simp_all [binV] <;> (congr 1; rw [Bool.eq_iff_iff]; simp; omega)) (by simp_all [binB, errOf]), rfl⟩
theorem rBin_any (s : ByteArray) (a b : Int) (ha : I64 a) (hb : I64 b) (w : World) : Calls Try.prog 11 #[.string s, .int .i64 a, .int .i64 b] w (BinPost s a b w) := by
  by_cases h1 : s.toList = [42]
  · obtain rfl := str_of_toList h1
    exact rBin_mul a b w
  by_cases h2 : s.toList = [47]
  · obtain rfl := str_of_toList h2
    exact rBin_quo a b ha hb w
  by_cases h3 : s.toList = [37]
  · obtain rfl := str_of_toList h3
    exact rBin_rem a b ha hb w
  exact rBin_rest s a b ha hb (by simpa using h1) (by simpa using h2) (by simpa using h3) w
end Go.Proofs.Ytbplhpjhgacanaa
