/-
  word: the walk of the law of sums and products.
-/
import Derived.Test.YtbplhpjhgacanaaWordTakes
namespace Go.Proofs.Ytbplhpjhgacanaa
open Go.RowKit

def addV (a b : Int) : Int := wrap64 (a + b)
def mulV (a b : Int) : Int := wrap64 (a * b)
def subV (a b : Int) : Int := wrap64 (a - b)
def negV (a : Int) : Int := wrap64 (-a)
theorem addV_in (a b : Int) : I64 (addV a b) := wrap64_is _
theorem mulV_in (a b : Int) : I64 (mulV a b) := wrap64_is _
theorem subV_in (a b : Int) : I64 (subV a b) := wrap64_is _
theorem negV_in (a : Int) : I64 (negV a) := wrap64_is _
theorem add_V (a b : Int) (ha : I64 a) (hb : I64 b) (w : World) : Calls Try.prog 16 #[.int .i64 a, .int .i64 b] w fun e w' => e = .returned (.int .i64 (addV a b)) ∧ w = w' := add_any a b ha hb w
theorem mul_V (a b : Int) (ha : I64 a) (hb : I64 b) (w : World) : Calls Try.prog 17 #[.int .i64 a, .int .i64 b] w fun e w' => e = .returned (.int .i64 (mulV a b)) ∧ w = w' := mul_any a b ha hb w
theorem ring1 (a b : Int) : addV a b = addV b a := by unfold addV; rw [Int.add_comm]
theorem ring2 (a b c : Int) : addV (addV a b) c = addV a (addV b c) := by unfold addV; rw [wrap_add_l, wrap_add_r, Int.add_assoc]
theorem ring3 (a b : Int) : mulV a b = mulV b a := by unfold mulV; rw [Int.mul_comm]
theorem ring4 (a b c : Int) : mulV (mulV a b) c = mulV a (mulV b c) := by unfold mulV; rw [wrap_mul_l, wrap_mul_r, Int.mul_assoc]
theorem ring5 (a b c : Int) : mulV a (addV b c) = addV (mulV a b) (mulV a c) := by unfold mulV addV; rw [wrap_mul_r, wrap_add_l, wrap_add_r, Int.mul_add]
theorem ring6 (a b : Int) (ha : I64 a) : addV (subV a b) b = a := by unfold addV subV; rw [wrap_add_l, Int.sub_add_cancel, wrap64_in ha]
theorem ring8 (a : Int) : addV (negV a) a = 0 := by unfold addV negV; rw [wrap_add_l, Int.add_left_neg]; exact wrap64_in ⟨by decide, by decide⟩

set_option maxHeartbeats 2000000 in
theorem wordRing_any (a b c : Int) (w : World) (ha : I64 a) (hb : I64 b) (hc : I64 c) : Calls Try.prog 7 #[.int .i64 a, .int .i64 b, .int .i64 c] w (Lived w) := by
  have f1 : (addV a b == addV b a) = true := by simp [ring1 a b]
  have f2 : (addV (addV a b) c == addV a (addV b c)) = true := by simp [ring2 a b c]
  have f3 : (mulV a b == mulV b a) = true := by simp [ring3 a b]
  have f4 : (mulV (mulV a b) c == mulV a (mulV b c)) = true := by simp [ring4 a b c]
  have f5 : (mulV a (addV b c) == addV (mulV a b) (mulV a c)) = true := by simp [ring5 a b c]
  have f6 : (addV (subV a b) b == a) = true := by simp [ring6 a b ha]
  have f8 : (addV (negV a) a == 0) = true := by simp [ring8 a]
  have HD := Lib.hid (show ∀ w, Calls Try.prog 10 #[.string ⟨#[45]⟩, .int .i64 a, .int .i64 b] w fun e w' => e = .returned (.tuple #[.int .i64 (subV a b), .int .i64 0]) ∧ w = w' from bin_sub a b ha hb)
  have HZ := Lib.hid (show ∀ w, Calls Try.prog 10 #[.string ⟨#[45]⟩, .int .i64 0, .int .i64 a] w fun e w' => e = .returned (.tuple #[.int .i64 (negV a), .int .i64 0]) ∧ w = w' from fun w => by have := bin_sub 0 a ⟨by decide, by decide⟩ ha w; rwa [show wrap64 (0 - a) = negV a by unfold negV; rw [Int.zero_sub]] at this)
  have HN := Lib.hid (show ∀ w, Calls Try.prog 12 #[.string ⟨#[45]⟩, .int .i64 a] w fun e w' => e = .returned (.tuple #[.int .i64 (negV a), .int .i64 0]) ∧ w = w' from un_neg a)
  have IA := Lib.hid ha
  have IB := Lib.hid hb
  have IC := Lib.hid hc
  clear ha hb hc
  go_enter Try.func7, Try.ntmps7
  go_wp2_with (first | (go_at_call 9; refine (lives_any _).mono ?_; rintro e w' ⟨rfl, rfl⟩) | (go_at_call 12; refine (HN.out _).mono ?_; rintro e w' ⟨rfl, rfl⟩) | (go_at_call 10; first | (with_reducible refine (HD.out _).mono ?_; rintro e w' ⟨rfl, rfl⟩) | (with_reducible refine (HZ.out _).mono ?_; rintro e w' ⟨rfl, rfl⟩)) | (go_at_call 16; refine (add_V _ _ (by first | exact IA.out | exact IB.out | exact IC.out | exact addV_in _ _ | exact mulV_in _ _ | exact subV_in _ _ | exact negV_in _) (by first | exact IA.out | exact IB.out | exact IC.out | exact addV_in _ _ | exact mulV_in _ _ | exact subV_in _ _ | exact negV_in _) _).mono ?_; rintro e w' ⟨rfl, rfl⟩) | (go_at_call 17; refine (mul_V _ _ (by first | exact IA.out | exact IB.out | exact IC.out | exact addV_in _ _ | exact mulV_in _ _ | exact subV_in _ _ | exact negV_in _) (by first | exact IA.out | exact IB.out | exact IC.out | exact addV_in _ _ | exact mulV_in _ _ | exact subV_in _ _ | exact negV_in _) _).mono ?_; rintro e w' ⟨rfl, rfl⟩))
  go_ret
  exact ⟨ret_bool (by simp_all), Grown.refl _⟩
end Go.Proofs.Ytbplhpjhgacanaa
