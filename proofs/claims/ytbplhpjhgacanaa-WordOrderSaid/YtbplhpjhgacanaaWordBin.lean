/-
  word: what Bin, Un and Takes answer, of the code and of the reference.
-/
import Derived.Test.YtbplhpjhgacanaaWordLeaf
namespace Go.Proofs.Ytbplhpjhgacanaa
open Go.RowKit

def binV (l : List UInt8) (a b : Int) : Int :=
  if l == [43] then wrap64 (a + b) else if l == [45] then wrap64 (a - b) else if l == [42] then wrap64 (a * b) else if l == [47] then quoV a b else if l == [37] then remV a b
  else if l == [60] then one (decide (a < b)) else if l == [60, 61] then one (decide (a ≤ b)) else if l == [61] then one (a == b) else if l == [60, 62] then one (a != b)
  else if l == [97, 110, 100] then one (a != 0 && b != 0) else if l == [111, 114] then one (a != 0 || b != 0) else 0
def binB (l : List UInt8) : Bool := l == [43] || l == [45] || l == [42] || l == [47] || l == [37] || l == [60] || l == [60, 61] || l == [61] || l == [60, 62] || l == [97, 110, 100] || l == [111, 114]
def errOf (b : Bool) : Int := if b then 0 else 10
def unV (l : List UInt8) (a : Int) : Int := if l == [45] then wrap64 (-a) else if l == [110, 111, 116] then one (!(a != 0)) else 0
def unB (l : List UInt8) : Bool := l == [45] || l == [110, 111, 116]
def takes (l : List UInt8) (n : Int) : Int × Int :=
  if n == 1 then (if l == [45] then (1, 1) else if l == [110, 111, 116] then (2, 2) else (0, 0))
  else if n == 2 then (if l == [43] || l == [45] || l == [42] || l == [47] || l == [37] then (1, 1) else if l == [60] || l == [60, 61] then (1, 2) else if l == [61] || l == [60, 62] then (0, 2) else if l == [97, 110, 100] || l == [111, 114] then (2, 2) else (0, 0))
  else (0, 0)
def takesB (l : List UInt8) (n : Int) : Bool := (n == 1 && unB l) || (n == 2 && binB l)
def BinPost (s : ByteArray) (a b : Int) (w : World) (e : Ending) (w' : World) : Prop := e = .returned (.tuple #[.int .i64 (binV s.data.toList a b), .int .i64 (errOf (binB s.data.toList))]) ∧ w = w'
def UnPost (s : ByteArray) (a : Int) (w : World) (e : Ending) (w' : World) : Prop := e = .returned (.tuple #[.int .i64 (unV s.data.toList a), .int .i64 (errOf (unB s.data.toList))]) ∧ w = w'
def TakesPost (s : ByteArray) (n : Int) (w : World) (e : Ending) (w' : World) : Prop := e = .returned (.tuple #[.int .i64 (takes s.data.toList n).1, .int .i64 (takes s.data.toList n).2, .bool (takesB s.data.toList n)]) ∧ w = w'

set_option maxHeartbeats 1000000 in
theorem bin_any (s : ByteArray) (a b : Int) (ha : I64 a) (hb : I64 b) (w : World) : Calls Try.prog 10 #[.string s, .int .i64 a, .int .i64 b] w (BinPost s a b w) := by
  unfold BinPost
  rw [← Lib.toList_data]
  have HA := Lib.hid ha
  have HB := Lib.hid hb
  clear ha hb
  go_enter Try.func10, Try.ntmps10
  go_wp2_with (first | (go_at_call 18; refine (quotient_any _ _ HA.out _).mono ?_; rintro e w' ⟨rfl, rfl⟩) | (go_at_call 19; refine (remainder_any _ _ HB.out _).mono ?_; rintro e w' ⟨rfl, rfl⟩) | (go_at_call 20; refine (boolean_any _ _).mono ?_; rintro e w' ⟨rfl, rfl⟩) | (go_at_call 21; refine (holds_any _ _).mono ?_; rintro e w' ⟨rfl, rfl⟩))
  all_goals go_ret2
  all_goals exact ⟨ret_ints (by simp_all [binV] <;> (congr 1; rw [Bool.eq_iff_iff]; simp; omega)) (by simp_all [binB, errOf]), rfl⟩
set_option maxHeartbeats 1000000 in
theorem un_any (s : ByteArray) (a : Int) (w : World) : Calls Try.prog 12 #[.string s, .int .i64 a] w (UnPost s a w) := by
  unfold UnPost
  rw [← Lib.toList_data]
  go_enter Try.func12, Try.ntmps12
  go_wp2_with (first | (go_at_call 20; refine (boolean_any _ _).mono ?_; rintro e w' ⟨rfl, rfl⟩) | (go_at_call 21; refine (holds_any _ _).mono ?_; rintro e w' ⟨rfl, rfl⟩))
  all_goals go_ret2
  all_goals exact ⟨ret_ints (by simp_all [unV]) (by simp_all [unB, errOf]), rfl⟩

theorem rUn_any (s : ByteArray) (a : Int) (w : World) : Calls Try.prog 13 #[.string s, .int .i64 a] w (UnPost s a w) := by
  unfold UnPost
  rw [← Lib.toList_data]
  have HS := Lib.hid (fun w => signed_any (IntKind.u64.wrap a) true (by rw [IntKind.wrap_u64]; omega) (by rw [IntKind.wrap_u64]; omega) w)
  have HV := Lib.hid (show signV (IntKind.u64.wrap a) true = wrap64 (-a) by rw [IntKind.wrap_u64]; unfold signV wrap64; simp; omega)
  go_enter Try.func13, Try.ntmps13
  go_wp2_with (first | (go_at_call 24; refine (HS.out _).mono ?_; rintro e w' ⟨rfl, rfl⟩) | (go_at_call 26; refine (truth_any _ _).mono ?_; rintro e w' ⟨rfl, rfl⟩))
  all_goals go_ret2
  · exact ⟨ret_ints (by rw [HV.out]; simp_all [unV]) (by simp_all [unB, errOf]), rfl⟩
  all_goals exact ⟨ret_ints (by simp_all [unV] <;> simp [bne]) (by simp_all [unB, errOf]), rfl⟩
end Go.Proofs.Ytbplhpjhgacanaa
