import Derived.BigQuiet
import Derived.Deep.QuietTactic
import Derived.Lib.Hide
import Derived.Test.YtkfacdofkfabnaaGreatDoorChecked
import Derived.WalkSpells
import Derived.Test.YtkfacdofkfabnaaGreatDoorKm06
set_option maxHeartbeats 400000
namespace Go.Proofs.YtkfacdofkfabnaaGreatDoor
open _root_.Go.Proofs.Tryz
open Go.RowKit
theorem ox (c : UInt8) (w : World) :
  Calls prog 117 #[.int .u8 (c.toNat : Int)] w λ e w' => e = .returned (.bool (td c)) /\ w = w' := by
 go_enter func117, ntmps117
 go_wp2; all_goals go_ret
 all_goals exact ⟨au (by rw [Bool.eq_iff_iff]; simp [td]; omega), rfl⟩
theorem oy (c : UInt8) (w : World) :
  Calls prog 119 #[.int .u8 (c.toNat : Int)] w λ e w' => e = .returned (.bool (tR c)) /\ w = w' := by
 go_enter func119, ntmps119
 go_wp2; all_goals go_ret
 all_goals exact ⟨au (by rw [Bool.eq_iff_iff]; simp [tR]; omega), rfl⟩
theorem vU (c : UInt8) (w : World) :
  Calls prog 161 #[.int .u8 (c.toNat : Int)] w λ e w' => e = .returned (.bool (yW c)) /\ w = w' := by
 go_enter func161, ntmps161
 go_wp2; all_goals go_ret
 all_goals exact ⟨au (by rw [Bool.eq_iff_iff]; simp [yW]; omega), rfl⟩
theorem re (s : ByteArray) (w : World) (hs : s.size <= maxLen) :
  Calls prog 128 #[.string s] w λ e w' => e = .returned (.int .i64 (mb s.data.toList : Nat)) /\ w = w' := by
 unfold maxLen at hs; go_enter func128, ntmps128
 go_wp2_with fail
 go_loop [3] (λ n => ∃ k : Nat, k <= s.size /\ n = .int .i64 k /\ mb s.data.toList = k + mb (s.data.toList.drop k)) (λ n => s.size - (intOf n).toNat)
 case atStart => exact ⟨0, Nat.zero_le _, rfl, by simp⟩
 case round =>
  obtain ⟨k, hk, rfl, hrun⟩ := hrel; have HR := zH hrun; clear hrun; by_cases hlt : k < s.size
  . have HD := zH (sJ s k hlt); have fin : p9 s[k] = true -> mb s.data.toList = ((k + 1 : Nat)) + mb (s.data.toList.drop (k + 1)) := λ h => by rw [HR.o, HD.o, rf h]; omega
    have fin0 : p9 s[k] = false -> mb s.data.toList = k := λ h => by rw [HR.o, HD.o, ti h]; omega
    go_wp2_with (first | (go_at_call 117; refine (ox _ _).mono ?_; rintro e w' ⟨rfl, rfl⟩) | (go_at_call 119; refine (oy _ _).mono ?_; rintro e w' ⟨rfl, rfl⟩) | (go_at_call 161; refine (vU _ _).mono ?_; rintro e w' ⟨rfl, rfl⟩))
    all_goals first
     | (go_round
        case rel => exact ⟨k + 1, by omega, by go_num, fin (by simp_all [p9]; try omega)⟩
        case measure => simp [intOf]; omega)
     | (go_ret; exact ⟨hG (by rw [fin0 (by simp_all [p9]; try omega)]), rfl⟩)
  . go_wp2_with fail
    go_ret; exact ⟨hG (by rw [HR.o, EH s k zO]; simp [mb]), rfl⟩
theorem yF (s : ByteArray) (w : World) :
  Calls prog 118 #[.string s] w λ e w' => e = .returned (.bool (C0 s.data.toList)) /\ w = w' := by
 rw [<- Lib.toList_data]; go_enter func118, ntmps118
 go_wp2; all_goals go_ret
 all_goals exact ⟨au (by simp_all [C0, CZ]), rfl⟩
theorem kV (s : ByteArray) (w : World) (hs : s.size <= maxLen) :
  Calls prog 116 #[.string s] w λ e w' => e = .returned (.bool (rl s.data.toList)) /\ w = w' := by
 have hl : s.data.toList.length = s.size := (by simp); go_enter func116, ntmps116
 go_wp2_with (first | (go_at_call 128; refine (re _ _ hs).mono ?_; rintro e w' ⟨rfl, rfl⟩))
 all_goals go_ret
 all_goals refine ⟨au ?_, rfl⟩
 . rename_i h; rw [Lib.toList_data] at h; simp [rl, h]
 . rename_i h _; have h1 : 1 <= s.size := (by rw [<- hl]; exact List.length_pos_iff.2 (by rwa [Lib.toList_data] at h)); have h2 : s.toList.isEmpty = false := (by rw [Bool.eq_false_iff]; simpa using h); rw [h2, Bool.eq_iff_iff]; simp [rl]; omega
 . simp [rl]; omega
theorem we {s : ByteArray} (h : rl s.data.toList = true) : 0 < s.size := by
 simp [rl] at h; omega
theorem AG {s : ByteArray} (h : 0 < s.size) : s.data.toList.head?.getD 0 = s[0] := by
 have := sJ s 0 h; simp at this; rw [this]; rfl
theorem qq (s : ByteArray) (w : World) (hs : s.size <= maxLen) :
  Calls prog 66 #[.string s] w λ e w' => e = .returned (.bool (As s.data.toList)) /\ w = w' := by
 cases hf : rl s.data.toList
 . go_enter func66, ntmps66
   go_wp2_with (first | (go_at_call 116; refine (kV _ _ hs).mono ?_; rintro e w' ⟨rfl, rfl⟩))
   go_ret; exact ⟨au (by simp [As, hf]), rfl⟩
 . have h0 := we hf; have hh := zH (AG h0); go_enter func66, ntmps66
   go_wp2_with (first | (go_at_call 116; refine (kV _ _ hs).mono ?_; rintro e w' ⟨rfl, rfl⟩) | (go_at_call 117; refine (ox _ _).mono ?_; rintro e w' ⟨rfl, rfl⟩) | (go_at_call 118; refine (yF _ _).mono ?_; rintro e w' ⟨rfl, rfl⟩))
   all_goals go_ret
   all_goals exact ⟨au (by have e := hh.o; simp_all [As]), rfl⟩
theorem sk (s : ByteArray) (w : World) (hs : s.size <= maxLen) :
  Calls prog 67 #[.string s] w λ e w' => e = .returned (.bool (Hx s.data.toList)) /\ w = w' := by
 cases hf : rl s.data.toList
 . go_enter func67, ntmps67
   go_wp2_with (first | (go_at_call 116; refine (kV _ _ hs).mono ?_; rintro e w' ⟨rfl, rfl⟩))
   go_ret; exact ⟨au (by simp [Hx, hf]), rfl⟩
 . have h0 := we hf; have hh := zH (AG h0); go_enter func67, ntmps67
   go_wp2_with (first | (go_at_call 116; refine (kV _ _ hs).mono ?_; rintro e w' ⟨rfl, rfl⟩) | (go_at_call 119; refine (oy _ _).mono ?_; rintro e w' ⟨rfl, rfl⟩))
   all_goals go_ret
   all_goals exact ⟨au (by have e := hh.o; simp_all [Hx]), rfl⟩
end Go.Proofs.YtkfacdofkfabnaaGreatDoor
