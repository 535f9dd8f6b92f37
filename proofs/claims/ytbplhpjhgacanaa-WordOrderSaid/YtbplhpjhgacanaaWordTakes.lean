/-
  word: what Takes answers, of the code and of the reference; the law's own look; the sums and products of the law.
-/
import Derived.Test.YtbplhpjhgacanaaWordRef
namespace Go.Proofs.Ytbplhpjhgacanaa
open Go.RowKit

theorem ret_takes {a b c d : Int} {p q : Bool} (h1 : a = c) (h2 : b = d) (h3 : p = q) : Ending.returned (.tuple #[.int .i64 a, .int .i64 b, .bool p]) = .returned (.tuple #[.int .i64 c, .int .i64 d, .bool q]) := by rw [h1, h2, h3]
set_option maxHeartbeats 1000000 in
theorem takesOne_any (s : ByteArray) (w : World) : Calls Try.prog 27 #[.string s] w (TakesPost s 1 w) := by
  unfold TakesPost
  rw [← Lib.toList_data]
  go_enter Try.func27, Try.ntmps27
  go_wp2
  all_goals go_ret3
  all_goals exact ⟨ret_takes (by simp_all [takes]) (by simp_all [takes]) (by simp_all [takesB, unB]), rfl⟩
set_option maxHeartbeats 1000000 in
theorem takesTwo_any (s : ByteArray) (w : World) : Calls Try.prog 28 #[.string s] w (TakesPost s 2 w) := by
  unfold TakesPost
  rw [← Lib.toList_data]
  go_enter Try.func28, Try.ntmps28
  go_wp2
  all_goals go_ret3
  all_goals exact ⟨ret_takes (by simp_all [takes]) (by simp_all [takes]) (by simp_all [takesB, binB]), rfl⟩
theorem takes_other {l : List UInt8} {n : Int} (h1 : n ≠ 1) (h2 : n ≠ 2) : takes l n = (0, 0) ∧ takesB l n = false := by
  have e1 : (n == 1) = false := by simpa using h1
  have e2 : (n == 2) = false := by simpa using h2
  simp [takes, takesB, e1, e2]
set_option maxHeartbeats 1000000 in
theorem takes_any (s : ByteArray) (n : Int) (w : World) : Calls Try.prog 14 #[.string s, .int .i64 n] w (TakesPost s n w) := by
  by_cases h1 : n = 1
  · subst h1
    have HT := Lib.hid (takesOne_any s)
    unfold TakesPost at HT ⊢
    go_enter Try.func14, Try.ntmps14
    go_wp2_with (go_at_call 27; refine (HT.out _).mono ?_; rintro e w' ⟨rfl, rfl⟩)
    go_ret3
    exact ⟨rfl, rfl⟩
  by_cases h2 : n = 2
  · subst h2
    have HT := Lib.hid (takesTwo_any s)
    unfold TakesPost at HT ⊢
    go_enter Try.func14, Try.ntmps14
    go_wp2_with (go_at_call 28; refine (HT.out _).mono ?_; rintro e w' ⟨rfl, rfl⟩)
    go_ret3
    exact ⟨rfl, rfl⟩
  · obtain ⟨e1, e2⟩ := takes_other (l := s.data.toList) h1 h2
    unfold TakesPost
    rw [e1, e2]
    go_enter Try.func14, Try.ntmps14
    go_wp2
    go_ret3
    exact ⟨rfl, rfl⟩
set_option maxHeartbeats 1000000 in
theorem rTakes_any (s : ByteArray) (n : Int) (w : World) : Calls Try.prog 15 #[.string s, .int .i64 n] w (TakesPost s n w) := by
  by_cases h1 : n = 1
  · subst h1
    unfold TakesPost
    rw [← Lib.toList_data]
    go_enter Try.func15, Try.ntmps15
    go_wp2
    all_goals go_ret3
    all_goals exact ⟨ret_takes (by simp_all [takes]) (by simp_all [takes]) (by simp_all [takesB, unB]), rfl⟩
  by_cases h2 : n = 2
  · subst h2
    unfold TakesPost
    rw [← Lib.toList_data]
    go_enter Try.func15, Try.ntmps15
    go_wp2
    all_goals go_ret3
    all_goals exact ⟨ret_takes (by simp_all [takes]) (by simp_all [takes]) (by simp_all [takesB, binB]), rfl⟩
  · obtain ⟨e1, e2⟩ := takes_other (l := s.data.toList) h1 h2
    unfold TakesPost
    rw [e1, e2]
    go_enter Try.func15, Try.ntmps15
    go_wp2
    go_ret3
    exact ⟨rfl, rfl⟩

/-- what the call leaves: as it was -/
def Lived (w : World) (e : Ending) (w' : World) : Prop := e = .returned (.bool true) ∧ Grown w w'
theorem bin_of {s : ByteArray} {l : List UInt8} {a b v : Int} (hs : s.data.toList = l) (hv : binV l a b = v) (he : binB l = true) (ha : I64 a) (hb : I64 b) (w : World) :
    Calls Try.prog 10 #[.string s, .int .i64 a, .int .i64 b] w fun e w' => e = .returned (.tuple #[.int .i64 v, .int .i64 0]) ∧ w = w' := by
  have := bin_any s a b ha hb w
  unfold BinPost at this
  rwa [hs, hv, he] at this
theorem bin_quo (a b : Int) (ha : I64 a) (hb : I64 b) (w : World) : Calls Try.prog 10 #[.string ⟨#[47]⟩, .int .i64 a, .int .i64 b] w fun e w' => e = .returned (.tuple #[.int .i64 (quoV a b), .int .i64 0]) ∧ w = w' := bin_of rfl rfl rfl ha hb w
theorem bin_rem (a b : Int) (ha : I64 a) (hb : I64 b) (w : World) : Calls Try.prog 10 #[.string ⟨#[37]⟩, .int .i64 a, .int .i64 b] w fun e w' => e = .returned (.tuple #[.int .i64 (remV a b), .int .i64 0]) ∧ w = w' := bin_of rfl rfl rfl ha hb w
theorem bin_add (a b : Int) (ha : I64 a) (hb : I64 b) (w : World) : Calls Try.prog 10 #[.string ⟨#[43]⟩, .int .i64 a, .int .i64 b] w fun e w' => e = .returned (.tuple #[.int .i64 (wrap64 (a + b)), .int .i64 0]) ∧ w = w' := bin_of rfl rfl rfl ha hb w
theorem bin_sub (a b : Int) (ha : I64 a) (hb : I64 b) (w : World) : Calls Try.prog 10 #[.string ⟨#[45]⟩, .int .i64 a, .int .i64 b] w fun e w' => e = .returned (.tuple #[.int .i64 (wrap64 (a - b)), .int .i64 0]) ∧ w = w' := bin_of rfl rfl rfl ha hb w
theorem bin_mul (a b : Int) (ha : I64 a) (hb : I64 b) (w : World) : Calls Try.prog 10 #[.string ⟨#[42]⟩, .int .i64 a, .int .i64 b] w fun e w' => e = .returned (.tuple #[.int .i64 (wrap64 (a * b)), .int .i64 0]) ∧ w = w' := bin_of rfl rfl rfl ha hb w
theorem bin_lt (a b : Int) (ha : I64 a) (hb : I64 b) (w : World) : Calls Try.prog 10 #[.string ⟨#[60]⟩, .int .i64 a, .int .i64 b] w fun e w' => e = .returned (.tuple #[.int .i64 (one (decide (a < b))), .int .i64 0]) ∧ w = w' := bin_of rfl rfl rfl ha hb w
theorem bin_le (a b : Int) (ha : I64 a) (hb : I64 b) (w : World) : Calls Try.prog 10 #[.string ⟨#[60, 61]⟩, .int .i64 a, .int .i64 b] w fun e w' => e = .returned (.tuple #[.int .i64 (one (decide (a ≤ b))), .int .i64 0]) ∧ w = w' := bin_of rfl rfl rfl ha hb w
theorem bin_eq (a b : Int) (ha : I64 a) (hb : I64 b) (w : World) : Calls Try.prog 10 #[.string ⟨#[61]⟩, .int .i64 a, .int .i64 b] w fun e w' => e = .returned (.tuple #[.int .i64 (one (a == b)), .int .i64 0]) ∧ w = w' := bin_of rfl rfl rfl ha hb w
theorem bin_ne (a b : Int) (ha : I64 a) (hb : I64 b) (w : World) : Calls Try.prog 10 #[.string ⟨#[60, 62]⟩, .int .i64 a, .int .i64 b] w fun e w' => e = .returned (.tuple #[.int .i64 (one (a != b)), .int .i64 0]) ∧ w = w' := bin_of rfl rfl rfl ha hb w
theorem bin_and (a b : Int) (ha : I64 a) (hb : I64 b) (w : World) : Calls Try.prog 10 #[.string ⟨#[97, 110, 100]⟩, .int .i64 a, .int .i64 b] w fun e w' => e = .returned (.tuple #[.int .i64 (one (a != 0 && b != 0)), .int .i64 0]) ∧ w = w' := bin_of rfl rfl rfl ha hb w
theorem bin_or (a b : Int) (ha : I64 a) (hb : I64 b) (w : World) : Calls Try.prog 10 #[.string ⟨#[111, 114]⟩, .int .i64 a, .int .i64 b] w fun e w' => e = .returned (.tuple #[.int .i64 (one (a != 0 || b != 0)), .int .i64 0]) ∧ w = w' := bin_of rfl rfl rfl ha hb w
theorem un_neg (a : Int) (w : World) : Calls Try.prog 12 #[.string ⟨#[45]⟩, .int .i64 a] w fun e w' => e = .returned (.tuple #[.int .i64 (wrap64 (-a)), .int .i64 0]) ∧ w = w' := un_any ⟨#[45]⟩ a w
theorem un_not (a : Int) (w : World) : Calls Try.prog 12 #[.string ⟨#[110, 111, 116]⟩, .int .i64 a] w fun e w' => e = .returned (.tuple #[.int .i64 (one (!(a != 0))), .int .i64 0]) ∧ w = w' := un_any ⟨#[110, 111, 116]⟩ a w
theorem lives_any (w : World) : Calls Try.prog 9 #[] w fun e w' => e = .returned (.bool true) ∧ w = w' := by
  have HQ := Lib.hid (bin_quo (-7) 2 ⟨by decide, by decide⟩ ⟨by decide, by decide⟩)
  have HR := Lib.hid (bin_rem (-7) 2 ⟨by decide, by decide⟩ ⟨by decide, by decide⟩)
  rw [show quoV (-7) 2 = -3 from rfl] at HQ
  rw [show remV (-7) 2 = -1 from rfl] at HR
  go_enter Try.func9, Try.ntmps9
  go_wp2_with (go_at_call 10; first | (with_reducible refine (HQ.out _).mono ?_; rintro e w' ⟨rfl, rfl⟩) | (with_reducible refine (HR.out _).mono ?_; rintro e w' ⟨rfl, rfl⟩))
  go_ret
  exact ⟨rfl, rfl⟩
theorem add_any (a b : Int) (ha : I64 a) (hb : I64 b) (w : World) : Calls Try.prog 16 #[.int .i64 a, .int .i64 b] w fun e w' => e = .returned (.int .i64 (wrap64 (a + b))) ∧ w = w' := by
  have HB := Lib.hid (bin_add a b ha hb)
  clear ha hb
  go_enter Try.func16, Try.ntmps16
  go_wp2_with (go_at_call 10; refine (HB.out _).mono ?_; rintro e w' ⟨rfl, rfl⟩)
  go_ret
  exact ⟨rfl, rfl⟩
theorem mul_any (a b : Int) (ha : I64 a) (hb : I64 b) (w : World) : Calls Try.prog 17 #[.int .i64 a, .int .i64 b] w fun e w' => e = .returned (.int .i64 (wrap64 (a * b))) ∧ w = w' := by
  have HB := Lib.hid (bin_mul a b ha hb)
  clear ha hb
  go_enter Try.func17, Try.ntmps17
  go_wp2_with (go_at_call 10; refine (HB.out _).mono ?_; rintro e w' ⟨rfl, rfl⟩)
  go_ret
  exact ⟨rfl, rfl⟩
end Go.Proofs.Ytbplhpjhgacanaa
