import Derived.BigQuiet
import Derived.Deep.QuietTactic
import Derived.Lib.Hide
import Derived.Test.YtdcjlihaldhhjaaGreatDoorChecked
import Derived.WalkSpells
import Derived.Test.YtdcjlihaldhhjaaGreatDoorKm05
set_option maxHeartbeats 400000
namespace Go.Proofs.YtdcjlihaldhhjaaGreatDoor
open _root_.Go.Proofs.Tryz
open Go.RowKit
theorem mD (c : UInt8) (w : World) :
  Calls prog 117 #[.int .u8 (c.toNat : Int)] w λ e w' => e = .returned (.bool (re c)) /\ w = w' := by
 go_enter func117, ntmps117
 go_wp2; all_goals go_ret
 all_goals exact ⟨aj (by rw [Bool.eq_iff_iff]; simp [re]; omega), rfl⟩
theorem mF (c : UInt8) (w : World) :
  Calls prog 119 #[.int .u8 (c.toNat : Int)] w λ e w' => e = .returned (.bool (rR c)) /\ w = w' := by
 go_enter func119, ntmps119
 go_wp2; all_goals go_ret
 all_goals exact ⟨aj (by rw [Bool.eq_iff_iff]; simp [rR]; omega), rfl⟩
theorem tJ (c : UInt8) (w : World) :
  Calls prog 159 #[.int .u8 (c.toNat : Int)] w λ e w' => e = .returned (.bool (vP c)) /\ w = w' := by
 go_enter func159, ntmps159
 go_wp2; all_goals go_ret
 all_goals exact ⟨aj (by rw [Bool.eq_iff_iff]; simp [vP]; omega), rfl⟩
theorem pA (s : ByteArray) (w : World) (hs : s.size <= maxLen) :
  Calls prog 128 #[.string s] w λ e w' => e = .returned (.int .i64 (kD s.data.toList : Nat)) /\ w = w' := by
 unfold maxLen at hs; go_enter func128, ntmps128
 go_wp2_with fail
 go_loop [3] (λ n => ∃ k : Nat, k <= s.size /\ n = .int .i64 k /\ kD s.data.toList = k + kD (s.data.toList.drop k)) (λ n => s.size - (intOf n).toNat)
 case atStart => exact ⟨0, Nat.zero_le _, rfl, by simp⟩
 case round =>
  obtain ⟨k, hk, rfl, hrun⟩ := hrel; have HR := zH hrun; clear hrun; by_cases hlt : k < s.size
  . have HD := zH (qJ s k hlt); have fin : ox s[k] = true -> kD s.data.toList = ((k + 1 : Nat)) + kD (s.data.toList.drop (k + 1)) := λ h => by rw [HR.o, HD.o, pB h]; omega
    have fin0 : ox s[k] = false -> kD s.data.toList = k := λ h => by rw [HR.o, HD.o, rk h]; omega
    go_wp2_with (first | (go_at_call 117; refine (mD _ _).mono ?_; rintro e w' ⟨rfl, rfl⟩) | (go_at_call 119; refine (mF _ _).mono ?_; rintro e w' ⟨rfl, rfl⟩) | (go_at_call 159; refine (tJ _ _).mono ?_; rintro e w' ⟨rfl, rfl⟩))
    all_goals first
     | (go_round
        case rel => exact ⟨k + 1, by omega, by go_num, fin (by simp_all [ox]; try omega)⟩
        case measure => simp [intOf]; omega)
     | (go_ret; exact ⟨gf (by rw [fin0 (by simp_all [ox]; try omega)]), rfl⟩)
  . go_wp2_with fail
    go_ret; exact ⟨gf (by rw [HR.o, BE s k zO]; simp [kD]), rfl⟩
theorem vF (s : ByteArray) (w : World) :
  Calls prog 118 #[.string s] w λ e w' => e = .returned (.bool (zz s.data.toList)) /\ w = w' := by
 rw [<- Lib.toList_data]; go_enter func118, ntmps118
 go_wp2; all_goals go_ret
 all_goals exact ⟨aj (by simp_all [zz, zy]), rfl⟩
theorem jy (s : ByteArray) (w : World) (hs : s.size <= maxLen) :
  Calls prog 116 #[.string s] w λ e w' => e = .returned (.bool (pG s.data.toList)) /\ w = w' := by
 have hl : s.data.toList.length = s.size := (by simp); go_enter func116, ntmps116
 go_wp2_with (first | (go_at_call 128; refine (pA _ _ hs).mono ?_; rintro e w' ⟨rfl, rfl⟩))
 all_goals go_ret
 all_goals refine ⟨aj ?_, rfl⟩
 . rename_i h; rw [Lib.toList_data] at h; simp [pG, h]
 . rename_i h _; have h1 : 1 <= s.size := (by rw [<- hl]; exact List.length_pos_iff.2 (by rwa [Lib.toList_data] at h)); have h2 : s.toList.isEmpty = false := (by rw [Bool.eq_false_iff]; simpa using h); rw [h2, Bool.eq_iff_iff]; simp [pG]; omega
 . simp [pG]; omega
theorem tP {s : ByteArray} (h : pG s.data.toList = true) : 0 < s.size := by
 simp [pG] at h; omega
theorem xt {s : ByteArray} (h : 0 < s.size) : s.data.toList.head?.getD 0 = s[0] := by
 have := qJ s 0 h; simp at this; rw [this]; rfl
theorem oO (s : ByteArray) (w : World) (hs : s.size <= maxLen) :
  Calls prog 68 #[.string s] w λ e w' => e = .returned (.bool (xi s.data.toList)) /\ w = w' := by
 cases hf : pG s.data.toList
 . go_enter func68, ntmps68
   go_wp2_with (first | (go_at_call 116; refine (jy _ _ hs).mono ?_; rintro e w' ⟨rfl, rfl⟩))
   go_ret; exact ⟨aj (by simp [xi, hf]), rfl⟩
 . have h0 := tP hf; have hh := zH (xt h0); go_enter func68, ntmps68
   go_wp2_with (first | (go_at_call 116; refine (jy _ _ hs).mono ?_; rintro e w' ⟨rfl, rfl⟩) | (go_at_call 117; refine (mD _ _).mono ?_; rintro e w' ⟨rfl, rfl⟩) | (go_at_call 118; refine (vF _ _).mono ?_; rintro e w' ⟨rfl, rfl⟩))
   all_goals go_ret
   all_goals exact ⟨aj (by have e := hh.o; simp_all [xi]), rfl⟩
theorem qt (s : ByteArray) (w : World) (hs : s.size <= maxLen) :
  Calls prog 69 #[.string s] w λ e w' => e = .returned (.bool (DP s.data.toList)) /\ w = w' := by
 cases hf : pG s.data.toList
 . go_enter func69, ntmps69
   go_wp2_with (first | (go_at_call 116; refine (jy _ _ hs).mono ?_; rintro e w' ⟨rfl, rfl⟩))
   go_ret; exact ⟨aj (by simp [DP, hf]), rfl⟩
 . have h0 := tP hf; have hh := zH (xt h0); go_enter func69, ntmps69
   go_wp2_with (first | (go_at_call 116; refine (jy _ _ hs).mono ?_; rintro e w' ⟨rfl, rfl⟩) | (go_at_call 119; refine (mF _ _).mono ?_; rintro e w' ⟨rfl, rfl⟩))
   all_goals go_ret
   all_goals exact ⟨aj (by have e := hh.o; simp_all [DP]), rfl⟩
end Go.Proofs.YtdcjlihaldhhjaaGreatDoor
