/-
  word: contracts of the leaves, of the code and of the reference.
-/
import Derived.Test.YtbplhpjhgacanaaWordSpec
namespace Go.Proofs.Ytbplhpjhgacanaa
open Go.RowKit

theorem boolean_any (b : Bool) (w : World) : Calls Try.prog 20 #[.bool b] w fun e w' => e = .returned (.int .i64 (one b)) ∧ w = w' := by
  cases b
  all_goals go_enter Try.func20, Try.ntmps20
  all_goals go_wp2
  all_goals go_ret
  all_goals exact ⟨rfl, rfl⟩
theorem truth_any (b : Bool) (w : World) : Calls Try.prog 26 #[.bool b] w fun e w' => e = .returned (.int .i64 (one b)) ∧ w = w' := by
  cases b
  all_goals go_enter Try.func26, Try.ntmps26
  all_goals go_wp2
  all_goals go_ret
  all_goals exact ⟨rfl, rfl⟩
theorem holds_any (a : Int) (w : World) : Calls Try.prog 21 #[.int .i64 a] w fun e w' => e = .returned (.bool (a != 0)) ∧ w = w' := by
  go_enter Try.func21, Try.ntmps21
  go_wp2
  go_ret
  exact ⟨rfl, rfl⟩
theorem canDivide_any (a b : Int) (w : World) : Calls Try.prog 29 #[.int .i64 a, .int .i64 b] w fun e w' => e = .returned (.bool (divB a b)) ∧ w = w' := by
  go_enter Try.func29, Try.ntmps29
  go_wp2
  all_goals go_ret
  all_goals exact ⟨ret_bool (by simp_all [divB]), rfl⟩
theorem quotient_any (a b : Int) (ha : I64 a) (w : World) : Calls Try.prog 18 #[.int .i64 a, .int .i64 b] w fun e w' => e = .returned (.int .i64 (quoV a b)) ∧ w = w' := by
  cases h : divB a b
  · have hq : quoV a b = 0 := by simp [quoV, h]
    go_enter Try.func18, Try.ntmps18
    go_wp2_with (go_at_call 29; refine (canDivide_any _ _ _).mono ?_; rintro e w' ⟨rfl, rfl⟩)
    go_ret
    exact ⟨ret_int (by simp [hq]), rfl⟩
  · have hq := wrap_quo ha h
    have hb : b ≠ 0 := (divB_iff.1 h).1
    go_enter Try.func18, Try.ntmps18
    go_wp2_with (go_at_call 29; refine (canDivide_any _ _ _).mono ?_; rintro e w' ⟨rfl, rfl⟩)
    go_ret
    exact ⟨ret_int (by simp [hq]), rfl⟩
theorem remainder_any (a b : Int) (hb : I64 b) (w : World) : Calls Try.prog 19 #[.int .i64 a, .int .i64 b] w fun e w' => e = .returned (.int .i64 (remV a b)) ∧ w = w' := by
  cases h : divB a b
  · have hq : remV a b = 0 := by simp [remV, h]
    go_enter Try.func19, Try.ntmps19
    go_wp2_with (go_at_call 29; refine (canDivide_any _ _ _).mono ?_; rintro e w' ⟨rfl, rfl⟩)
    go_ret
    exact ⟨ret_int (by simp [hq]), rfl⟩
  · have hq := wrap_rem hb h
    have hb : b ≠ 0 := (divB_iff.1 h).1
    go_enter Try.func19, Try.ntmps19
    go_wp2_with (go_at_call 29; refine (canDivide_any _ _ _).mono ?_; rintro e w' ⟨rfl, rfl⟩)
    go_ret
    exact ⟨ret_int (by rw [remV, if_pos h]), rfl⟩
theorem least_any (a b : Int) (ha : I64 a) (w : World) : Calls Try.prog 23 #[.int .i64 a, .int .i64 b] w fun e w' => e = .returned (.bool (a == -9223372036854775808 && b == -1)) ∧ w = w' := by
  have hk : IntKind.u64.wrap a = 9223372036854775808 ↔ a = -9223372036854775808 := by unfold I64 at ha; rw [IntKind.wrap_u64]; omega
  have HK := Lib.hid hk
  clear hk
  go_enter Try.func23, Try.ntmps23
  go_wp2
  all_goals go_ret
  all_goals exact ⟨ret_bool (by rename_i h; rw [HK.out] at h; simp [h]), rfl⟩
theorem signed_any (n : Int) (b : Bool) (h0 : 0 ≤ n) (h1 : n < 18446744073709551616) (w : World) : Calls Try.prog 24 #[.int .u64 n, .bool b] w fun e w' => e = .returned (.int .i64 (signV n b)) ∧ w = w' := by
  have HN := Lib.hid (not_u64 h0 h1)
  have HW := Lib.hid (show wrap64 (IntKind.u64.wrap (18446744073709551615 - n + 1)) = wrap64 (-n) by rw [IntKind.wrap_u64]; unfold wrap64; omega)
  cases b
  · go_enter Try.func24, Try.ntmps24
    go_wp2
    go_ret
    exact ⟨ret_int (by simp [signV]), rfl⟩
  · go_enter Try.func24, Try.ntmps24
    go_wp2
    go_ret
    exact ⟨ret_int (by simp [signV, HN.out, HW.out]), rfl⟩
theorem size_any (a : Int) (ha : I64 a) (w : World) : Calls Try.prog 25 #[.int .i64 a] w fun e w' => e = .returned (.int .u64 (a.natAbs : Int)) ∧ w = w' := by
  unfold I64 at ha
  by_cases hn : a < 0
  · have HN := Lib.hid (not_u64 (a := IntKind.u64.wrap a) (by rw [IntKind.wrap_u64]; omega) (by rw [IntKind.wrap_u64]; omega))
    have HW := Lib.hid (show IntKind.u64.wrap (18446744073709551615 - IntKind.u64.wrap a + 1) = (a.natAbs : Int) by rw [IntKind.wrap_u64, IntKind.wrap_u64]; omega)
    go_enter Try.func25, Try.ntmps25
    go_wp2
    go_ret
    exact ⟨ret_int (by rw [HN.out, HW.out]), rfl⟩
  · have HW := Lib.hid (show IntKind.u64.wrap a = (a.natAbs : Int) by rw [IntKind.wrap_u64]; omega)
    go_enter Try.func25, Try.ntmps25
    go_wp2
    go_ret
    exact ⟨ret_int (by omega), rfl⟩
theorem product_any (a b : Nat) (_ : a < 18446744073709551616) (_ : b < 18446744073709551616) (w : World) : Calls Try.prog 22 #[.int .u64 a, .int .u64 b] w fun e w' => e = .returned (.int .u64 ((a * b % 18446744073709551616 : Nat) : Int)) ∧ w = w' := by
  go_enter Try.func22, Try.ntmps22
  go_wp2_with fail
  go_loop [5, 6] (fun n i => ∃ k : Nat, k ≤ 64 ∧ i = .int .i64 k ∧ n = .int .u64 ((a * (b % 2 ^ k) % 18446744073709551616 : Nat) : Int)) (fun _ i => 64 - (intOf i).toNat)
  case atStart => exact ⟨0, Nat.zero_le _, rfl, by simp⟩
  case round =>
    obtain ⟨k, hk, rfl, rfl⟩ := hrel
    by_cases hlt : k < 64
    · go_wp2
      · rename_i h
        rw [bit_num, decide_eq_true_iff] at h
        exact ⟨⟨k + 1, by omega, by simp, by rw [prod_add a b k h]⟩, by simp [intOf]; omega⟩
      · rename_i h
        rw [bit_num, decide_eq_false_iff_not] at h
        exact ⟨⟨k + 1, by omega, by simp, by rw [prod_keep a b k h]⟩, by simp [intOf]; omega⟩
    · obtain rfl : k = 64 := by omega
      go_wp2
      go_ret
      exact ⟨ret_int rfl, rfl⟩
end Go.Proofs.Ytbplhpjhgacanaa
