/-
  word: the walks of the six laws.
-/
import Derived.Test.YtbplhpjhgacanaaWordTakes
namespace Go.Proofs.Ytbplhpjhgacanaa
open Go.RowKit

set_option maxHeartbeats 1000000 in
theorem wordBin_any (s : ByteArray) (a b : Int) (w : World) (ha : I64 a) (hb : I64 b) : Calls Try.prog 3 #[.string s, .int .i64 a, .int .i64 b] w (Lived w) := by
  have HB := Lib.hid (bin_any s a b ha hb)
  have HR := Lib.hid (rBin_any s a b ha hb)
  unfold BinPost at HB HR
  clear ha hb
  generalize binV s.data.toList a b = v at HB HR
  generalize errOf (binB s.data.toList) = x at HB HR
  go_enter Try.func3, Try.ntmps3
  go_wp2_with (first | (go_at_call 9; refine (lives_any _).mono ?_; rintro e w' ⟨rfl, rfl⟩) | (go_at_call 10; refine (HB.out _).mono ?_; rintro e w' ⟨rfl, rfl⟩) | (go_at_call 11; refine (HR.out _).mono ?_; rintro e w' ⟨rfl, rfl⟩))
  go_ret
  exact ⟨rfl, Grown.refl _⟩
set_option maxHeartbeats 1000000 in
theorem wordUn_any (s : ByteArray) (a : Int) (w : World) (_ : I64 a) : Calls Try.prog 4 #[.string s, .int .i64 a] w (Lived w) := by
  have HB := Lib.hid (un_any s a)
  have HR := Lib.hid (rUn_any s a)
  unfold UnPost at HB HR
  generalize unV s.data.toList a = v at HB HR
  generalize errOf (unB s.data.toList) = x at HB HR
  go_enter Try.func4, Try.ntmps4
  go_wp2_with (first | (go_at_call 9; refine (lives_any _).mono ?_; rintro e w' ⟨rfl, rfl⟩) | (go_at_call 12; refine (HB.out _).mono ?_; rintro e w' ⟨rfl, rfl⟩) | (go_at_call 13; refine (HR.out _).mono ?_; rintro e w' ⟨rfl, rfl⟩))
  go_ret
  exact ⟨rfl, Grown.refl _⟩
set_option maxHeartbeats 1000000 in
theorem wordTakes_any (s : ByteArray) (n : Int) (w : World) (_ : I64 n) : Calls Try.prog 5 #[.string s, .int .i64 n] w (Lived w) := by
  have HB := Lib.hid (takes_any s n)
  have HR := Lib.hid (rTakes_any s n)
  have HU := Lib.hid (un_any s 1)
  have HX := Lib.hid (bin_any s 1 1 ⟨by decide, by decide⟩ ⟨by decide, by decide⟩)
  unfold TakesPost at HB HR
  unfold UnPost at HU
  unfold BinPost at HX
  generalize (takes s.data.toList n).1 = p at HB HR
  generalize (takes s.data.toList n).2 = q at HB HR
  generalize unV s.data.toList 1 = v at HU
  generalize binV s.data.toList 1 1 = x at HX
  by_cases h1 : n = 1
  · subst h1
    rw [show takesB s.data.toList 1 = unB s.data.toList by simp [takesB]] at HB HR
    cases h : unB s.data.toList
    all_goals rw [h] at HB HR HU
    all_goals unfold errOf at HU
    all_goals go_enter Try.func5, Try.ntmps5
    all_goals go_wp2_with (first | (go_at_call 9; refine (lives_any _).mono ?_; rintro e w' ⟨rfl, rfl⟩) | (go_at_call 14; refine (HB.out _).mono ?_; rintro e w' ⟨rfl, rfl⟩) | (go_at_call 15; refine (HR.out _).mono ?_; rintro e w' ⟨rfl, rfl⟩) | (go_at_call 12; refine (HU.out _).mono ?_; rintro e w' ⟨rfl, rfl⟩) | (go_at_call 10; refine (HX.out _).mono ?_; rintro e w' ⟨rfl, rfl⟩))
    all_goals go_ret
    all_goals exact ⟨rfl, Grown.refl _⟩
  by_cases h2 : n = 2
  · subst h2
    rw [show takesB s.data.toList 2 = binB s.data.toList by simp [takesB]] at HB HR
    cases h : binB s.data.toList
    all_goals rw [h] at HB HR HX
    all_goals unfold errOf at HX
    all_goals go_enter Try.func5, Try.ntmps5
    all_goals go_wp2_with (first | (go_at_call 9; refine (lives_any _).mono ?_; rintro e w' ⟨rfl, rfl⟩) | (go_at_call 14; refine (HB.out _).mono ?_; rintro e w' ⟨rfl, rfl⟩) | (go_at_call 15; refine (HR.out _).mono ?_; rintro e w' ⟨rfl, rfl⟩) | (go_at_call 12; refine (HU.out _).mono ?_; rintro e w' ⟨rfl, rfl⟩) | (go_at_call 10; refine (HX.out _).mono ?_; rintro e w' ⟨rfl, rfl⟩))
    all_goals go_ret
    all_goals exact ⟨rfl, Grown.refl _⟩
  · have e1 : (n == 1) = false := by simpa using h1
    have e2 : (n == 2) = false := by simpa using h2
    have e3 : (n != 1) = true := by simpa using h1
    have e4 : (n != 2) = true := by simpa using h2
    generalize takesB s.data.toList n = tb at HB HR
    go_enter Try.func5, Try.ntmps5
    go_wp2_with (first | (go_at_call 9; refine (lives_any _).mono ?_; rintro e w' ⟨rfl, rfl⟩) | (go_at_call 14; refine (HB.out _).mono ?_; rintro e w' ⟨rfl, rfl⟩) | (go_at_call 15; refine (HR.out _).mono ?_; rintro e w' ⟨rfl, rfl⟩) | (go_at_call 12; refine (HU.out _).mono ?_; rintro e w' ⟨rfl, rfl⟩) | (go_at_call 10; refine (HX.out _).mono ?_; rintro e w' ⟨rfl, rfl⟩))
    go_ret
    exact ⟨rfl, Grown.refl _⟩
end Go.Proofs.Ytbplhpjhgacanaa
