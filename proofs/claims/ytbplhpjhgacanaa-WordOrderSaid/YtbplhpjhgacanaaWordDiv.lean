/-
  word: the walks of the laws of quotients, of sums and products, of order.
-/
import Derived.Test.YtbplhpjhgacanaaWordTakes
namespace Go.Proofs.Ytbplhpjhgacanaa
open Go.RowKit

theorem div_facts {a b : Int} (ha : I64 a) (hb : I64 b) (h : divB a b = true) : ∃ q r, quoV a b = q ∧ remV a b = r ∧ I64 q ∧ I64 r ∧ wrap64 (wrap64 (q * b) + r) = a ∧
    ((r = 0 ∧ ((0 < b ∧ 0 < b) ∨ (b < 0 ∧ b < 0))) ∨ (0 < r ∧ 0 < a ∧ ((0 < b ∧ r < b) ∨ (b < 0 ∧ b < -r))) ∨ (r < 0 ∧ a < 0 ∧ ((0 < b ∧ -r < b) ∨ (b < 0 ∧ b < r)))) ∧ wrap64 (-r) = -r := by
  have h0 := (divB_iff.1 h).1
  refine ⟨_, _, rfl, rfl, quoV_in ha, remV_in hb, quo_rem ha h, ?_⟩
  have h1 := rem_sign h
  have h2 := rem_mag h
  have h3 := remV_in (a := a) hb
  have h4 : 0 ≤ a → 0 ≤ remV a b := fun h5 => by rw [remV, if_pos h]; exact Int.tmod_nonneg b h5
  have h6 : 0 < remV a b → 0 < a := fun h7 => by
    have : a ≠ 0 := fun e => by rw [remV, if_pos h, e] at h7; simp at h7
    omega
  generalize remV a b = r at *
  unfold I64 at *
  refine ⟨?_, by unfold wrap64; omega⟩
  omega

set_option maxHeartbeats 2000000 in
theorem wordDivides_any (a b : Int) (w : World) (ha : I64 a) (hb : I64 b) : Calls Try.prog 6 #[.int .i64 a, .int .i64 b] w (Lived w) := by
  have HQ := Lib.hid (bin_quo a b ha hb)
  have HR := Lib.hid (bin_rem a b ha hb)
  cases h : divB a b
  · rw [show quoV a b = 0 by simp [quoV, h]] at HQ
    rw [show remV a b = 0 by simp [remV, h]] at HR
    by_cases h0 : b = 0
    · subst h0
      clear h ha hb
      go_enter Try.func6, Try.ntmps6
      go_wp2_with (first | (go_at_call 9; refine (lives_any _).mono ?_; rintro e w' ⟨rfl, rfl⟩) | (go_at_call 10; first | (with_reducible refine (HQ.out _).mono ?_; rintro e w' ⟨rfl, rfl⟩) | (with_reducible refine (HR.out _).mono ?_; rintro e w' ⟨rfl, rfl⟩)))
      go_ret
      exact ⟨rfl, Grown.refl _⟩
    · have h1 : a = -9223372036854775808 ∧ b = -1 := by
        by_cases h2 : a = -9223372036854775808 ∧ b = -1
        · exact h2
        · rw [divB_iff.2 ⟨h0, h2⟩] at h; cases h
      obtain ⟨rfl, rfl⟩ := h1
      clear h ha hb h0
      go_enter Try.func6, Try.ntmps6
      go_wp2_with (first | (go_at_call 9; refine (lives_any _).mono ?_; rintro e w' ⟨rfl, rfl⟩) | (go_at_call 10; first | (with_reducible refine (HQ.out _).mono ?_; rintro e w' ⟨rfl, rfl⟩) | (with_reducible refine (HR.out _).mono ?_; rintro e w' ⟨rfl, rfl⟩)))
      go_ret
      exact ⟨rfl, Grown.refl _⟩
  · obtain ⟨h0, h1⟩ := divB_iff.1 h
    obtain ⟨q, r, eq, er, hq, hr, hs, hc, hn⟩ := div_facts ha hb h
    have HP := Lib.hid (bin_mul q b hq hb)
    have HA := Lib.hid (bin_add (wrap64 (q * b)) r (wrap64_is _) hr)
    rw [eq] at HQ
    rw [er] at HR
    rw [hs] at HA
    generalize wrap64 (q * b) = p at HP HA hs
    have e1 : (b == 0) = false := by simpa using h0
    clear h ha hb hq hr hs
    by_cases hm : b = -1
    · subst hm
      have e2 : (a == -9223372036854775808) = false := by simp; omega
      rcases hc with ⟨rfl, hc⟩ | ⟨h2, h3, hc⟩ | ⟨h2, h3, hc⟩
      all_goals rcases hc with ⟨h4, h5⟩ | ⟨h4, h5⟩
      all_goals first | (exfalso; omega) | skip
      all_goals go_enter Try.func6, Try.ntmps6
      all_goals go_wp2_with (first | (go_at_call 9; refine (lives_any _).mono ?_; rintro e w' ⟨rfl, rfl⟩) | (go_at_call 10; first | (with_reducible refine (HQ.out _).mono ?_; rintro e w' ⟨rfl, rfl⟩) | (with_reducible refine (HR.out _).mono ?_; rintro e w' ⟨rfl, rfl⟩) | (with_reducible refine (HP.out _).mono ?_; rintro e w' ⟨rfl, rfl⟩) | (with_reducible refine (HA.out _).mono ?_; rintro e w' ⟨rfl, rfl⟩)))
      all_goals go_ret
      all_goals exact ⟨ret_bool (by simp_all <;> omega), Grown.refl _⟩
    · have e2 : (b == -1) = false := by simpa using hm
      clear hm
      rcases hc with ⟨rfl, hc⟩ | ⟨h2, h3, hc⟩ | ⟨h2, h3, hc⟩
      all_goals rcases hc with ⟨h4, h5⟩ | ⟨h4, h5⟩
      all_goals go_enter Try.func6, Try.ntmps6
      all_goals go_wp2_with (first | (go_at_call 9; refine (lives_any _).mono ?_; rintro e w' ⟨rfl, rfl⟩) | (go_at_call 10; first | (with_reducible refine (HQ.out _).mono ?_; rintro e w' ⟨rfl, rfl⟩) | (with_reducible refine (HR.out _).mono ?_; rintro e w' ⟨rfl, rfl⟩) | (with_reducible refine (HP.out _).mono ?_; rintro e w' ⟨rfl, rfl⟩) | (with_reducible refine (HA.out _).mono ?_; rintro e w' ⟨rfl, rfl⟩)))
      all_goals go_ret
      all_goals exact ⟨ret_bool (by simp_all <;> omega), Grown.refl _⟩

set_option maxHeartbeats 2000000 in
theorem wordOrder_any (a b : Int) (w : World) (ha : I64 a) (hb : I64 b) : Calls Try.prog 8 #[.int .i64 a, .int .i64 b] w (Lived w) := by
  have F1 : (a < b) ∨ (a = b) ∨ (b < a) := by omega
  rcases F1 with h | rfl | h
  · skip
    have H0 := Lib.hid (bin_lt a b ha hb)
    rw [show one (decide (a < b)) = 1 by rw [show (decide (a < b)) = true by simp; try omega]; rfl] at H0
    have H1 := Lib.hid (bin_lt b a hb ha)
    rw [show one (decide (b < a)) = 0 by rw [show (decide (b < a)) = false by simp; try omega]; rfl] at H1
    have H2 := Lib.hid (bin_eq a b ha hb)
    rw [show one (a == b) = 0 by rw [show (a == b) = false by simp; try omega]; rfl] at H2
    have H3 := Lib.hid (bin_le a b ha hb)
    rw [show one (decide (a ≤ b)) = 1 by rw [show (decide (a ≤ b)) = true by simp; try omega]; rfl] at H3
    have H4 := Lib.hid (bin_ne a b ha hb)
    rw [show one (a != b) = 1 by rw [show (a != b) = true by simp; try omega]; rfl] at H4
    have H5 := Lib.hid (bin_of (s := ⟨#[111, 114]⟩) (a := 1) (b := 0) (v := 1) rfl rfl rfl ⟨by decide, by decide⟩ ⟨by decide, by decide⟩)
    have H6 := Lib.hid (show ∀ w, Calls Try.prog 12 #[.string ⟨#[110, 111, 116]⟩, .int .i64 0] w fun e w' => e = .returned (.tuple #[.int .i64 1, .int .i64 0]) ∧ w = w' from fun w => un_not 0 w)
    have H7 := Lib.hid (bin_of (s := ⟨#[97, 110, 100]⟩) (a := 1) (b := 0) (v := 0) rfl rfl rfl ⟨by decide, by decide⟩ ⟨by decide, by decide⟩)
    clear ha hb h
    go_enter Try.func8, Try.ntmps8
    go_wp2_with (first | (go_at_call 9; refine (lives_any _).mono ?_; rintro e w' ⟨rfl, rfl⟩) | (go_at_call 12; refine (H6.out _).mono ?_; rintro e w' ⟨rfl, rfl⟩) | (go_at_call 10; first | (with_reducible refine (H0.out _).mono ?_; rintro e w' ⟨rfl, rfl⟩) | (with_reducible refine (H1.out _).mono ?_; rintro e w' ⟨rfl, rfl⟩) | (with_reducible refine (H2.out _).mono ?_; rintro e w' ⟨rfl, rfl⟩) | (with_reducible refine (H3.out _).mono ?_; rintro e w' ⟨rfl, rfl⟩) | (with_reducible refine (H4.out _).mono ?_; rintro e w' ⟨rfl, rfl⟩) | (with_reducible refine (H5.out _).mono ?_; rintro e w' ⟨rfl, rfl⟩) | (with_reducible refine (H7.out _).mono ?_; rintro e w' ⟨rfl, rfl⟩)))
    go_ret
    exact ⟨rfl, Grown.refl _⟩
  · skip
    have H0 := Lib.hid (bin_lt a a ha ha)
    rw [show one (decide (a < a)) = 0 by rw [show (decide (a < a)) = false by simp; try omega]; rfl] at H0
    have H1 := Lib.hid (bin_lt a a ha ha)
    rw [show one (decide (a < a)) = 0 by rw [show (decide (a < a)) = false by simp; try omega]; rfl] at H1
    have H2 := Lib.hid (bin_eq a a ha ha)
    rw [show one (a == a) = 1 by rw [show (a == a) = true by simp; try omega]; rfl] at H2
    have H3 := Lib.hid (bin_le a a ha ha)
    rw [show one (decide (a ≤ a)) = 1 by rw [show (decide (a ≤ a)) = true by simp; try omega]; rfl] at H3
    have H4 := Lib.hid (bin_ne a a ha ha)
    rw [show one (a != a) = 0 by rw [show (a != a) = false by simp; try omega]; rfl] at H4
    have H5 := Lib.hid (bin_of (s := ⟨#[111, 114]⟩) (a := 0) (b := 1) (v := 1) rfl rfl rfl ⟨by decide, by decide⟩ ⟨by decide, by decide⟩)
    have H6 := Lib.hid (show ∀ w, Calls Try.prog 12 #[.string ⟨#[110, 111, 116]⟩, .int .i64 1] w fun e w' => e = .returned (.tuple #[.int .i64 0, .int .i64 0]) ∧ w = w' from fun w => un_not 1 w)
    have H7 := Lib.hid (bin_of (s := ⟨#[97, 110, 100]⟩) (a := 0) (b := 0) (v := 0) rfl rfl rfl ⟨by decide, by decide⟩ ⟨by decide, by decide⟩)
    clear ha
    go_enter Try.func8, Try.ntmps8
    go_wp2_with (first | (go_at_call 9; refine (lives_any _).mono ?_; rintro e w' ⟨rfl, rfl⟩) | (go_at_call 12; refine (H6.out _).mono ?_; rintro e w' ⟨rfl, rfl⟩) | (go_at_call 10; first | (with_reducible refine (H0.out _).mono ?_; rintro e w' ⟨rfl, rfl⟩) | (with_reducible refine (H1.out _).mono ?_; rintro e w' ⟨rfl, rfl⟩) | (with_reducible refine (H2.out _).mono ?_; rintro e w' ⟨rfl, rfl⟩) | (with_reducible refine (H3.out _).mono ?_; rintro e w' ⟨rfl, rfl⟩) | (with_reducible refine (H4.out _).mono ?_; rintro e w' ⟨rfl, rfl⟩) | (with_reducible refine (H5.out _).mono ?_; rintro e w' ⟨rfl, rfl⟩) | (with_reducible refine (H7.out _).mono ?_; rintro e w' ⟨rfl, rfl⟩)))
    go_ret
    exact ⟨rfl, Grown.refl _⟩
  · skip
    have H0 := Lib.hid (bin_lt a b ha hb)
    rw [show one (decide (a < b)) = 0 by rw [show (decide (a < b)) = false by simp; try omega]; rfl] at H0
    have H1 := Lib.hid (bin_lt b a hb ha)
    rw [show one (decide (b < a)) = 1 by rw [show (decide (b < a)) = true by simp; try omega]; rfl] at H1
    have H2 := Lib.hid (bin_eq a b ha hb)
    rw [show one (a == b) = 0 by rw [show (a == b) = false by simp; try omega]; rfl] at H2
    have H3 := Lib.hid (bin_le a b ha hb)
    rw [show one (decide (a ≤ b)) = 0 by rw [show (decide (a ≤ b)) = false by simp; try omega]; rfl] at H3
    have H4 := Lib.hid (bin_ne a b ha hb)
    rw [show one (a != b) = 1 by rw [show (a != b) = true by simp; try omega]; rfl] at H4
    have H5 := Lib.hid (bin_of (s := ⟨#[111, 114]⟩) (a := 0) (b := 0) (v := 0) rfl rfl rfl ⟨by decide, by decide⟩ ⟨by decide, by decide⟩)
    have H6 := Lib.hid (show ∀ w, Calls Try.prog 12 #[.string ⟨#[110, 111, 116]⟩, .int .i64 0] w fun e w' => e = .returned (.tuple #[.int .i64 1, .int .i64 0]) ∧ w = w' from fun w => un_not 0 w)
    have H7 := Lib.hid (bin_of (s := ⟨#[97, 110, 100]⟩) (a := 0) (b := 1) (v := 0) rfl rfl rfl ⟨by decide, by decide⟩ ⟨by decide, by decide⟩)
    clear ha hb h
    go_enter Try.func8, Try.ntmps8
    go_wp2_with (first | (go_at_call 9; refine (lives_any _).mono ?_; rintro e w' ⟨rfl, rfl⟩) | (go_at_call 12; refine (H6.out _).mono ?_; rintro e w' ⟨rfl, rfl⟩) | (go_at_call 10; first | (with_reducible refine (H0.out _).mono ?_; rintro e w' ⟨rfl, rfl⟩) | (with_reducible refine (H1.out _).mono ?_; rintro e w' ⟨rfl, rfl⟩) | (with_reducible refine (H2.out _).mono ?_; rintro e w' ⟨rfl, rfl⟩) | (with_reducible refine (H3.out _).mono ?_; rintro e w' ⟨rfl, rfl⟩) | (with_reducible refine (H4.out _).mono ?_; rintro e w' ⟨rfl, rfl⟩) | (with_reducible refine (H5.out _).mono ?_; rintro e w' ⟨rfl, rfl⟩) | (with_reducible refine (H7.out _).mono ?_; rintro e w' ⟨rfl, rfl⟩)))
    go_ret
    exact ⟨rfl, Grown.refl _⟩
end Go.Proofs.Ytbplhpjhgacanaa
