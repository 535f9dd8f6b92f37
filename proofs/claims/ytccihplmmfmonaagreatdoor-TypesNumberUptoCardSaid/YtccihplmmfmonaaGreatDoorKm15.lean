import Derived.BigQuiet
import Derived.Deep.QuietTactic
import Derived.Lib.Hide
import Derived.Test.YtccihplmmfmonaaGreatDoorChecked
import Derived.WalkSpells
import Derived.Test.YtccihplmmfmonaaGreatDoorKm09
set_option maxHeartbeats 400000
namespace Go.Proofs.YtccihplmmfmonaaGreatDoor
open _root_.Go.Proofs.Tryz
open Go.RowKit
theorem ox (c : UInt8) (w : World) :
  Calls prog 119 #[.int .u8 (c.toNat : Int)] w λ e w' => e = .returned (.bool (tB c)) /\ w = w' := by
 go_enter func119, ntmps119
 go_wp2; all_goals go_ret
 all_goals exact ⟨ah (by rw [Bool.eq_iff_iff]; simp [tB]; omega), rfl⟩
theorem oy (c : UInt8) (w : World) :
  Calls prog 121 #[.int .u8 (c.toNat : Int)] w λ e w' => e = .returned (.bool (ue c)) /\ w = w' := by
 go_enter func121, ntmps121
 go_wp2; all_goals go_ret
 all_goals exact ⟨ah (by rw [Bool.eq_iff_iff]; simp [ue]; omega), rfl⟩
theorem vZ (c : UInt8) (w : World) :
  Calls prog 146 #[.int .u8 (c.toNat : Int)] w λ e w' => e = .returned (.bool (yS c)) /\ w = w' := by
 go_enter func146, ntmps146
 go_wp2; all_goals go_ret
 all_goals exact ⟨ah (by rw [Bool.eq_iff_iff]; simp [yS]; omega), rfl⟩
theorem rx (s : ByteArray) (w : World) (hs : s.size <= maxLen) :
  Calls prog 109 #[.string s] w λ e w' => e = .returned (.int .i64 (my s.data.toList : Nat)) /\ w = w' := by
 unfold maxLen at hs; go_enter func109, ntmps109
 go_wp2_with fail
 go_loop [3] (λ n => ∃ k : Nat, k <= s.size /\ n = .int .i64 k /\ my s.data.toList = k + my (s.data.toList.drop k)) (λ n => s.size - (intOf n).toNat)
 case atStart => exact ⟨0, Nat.zero_le _, rfl, by simp⟩
 case round =>
  obtain ⟨k, hk, rfl, hrun⟩ := hrel; have HR := zH hrun; clear hrun; by_cases hlt : k < s.size
  . have HD := zH (ta s k hlt); have fin : qj s[k] = true -> my s.data.toList = ((k + 1 : Nat)) + my (s.data.toList.drop (k + 1)) := λ h => by rw [HR.o, HD.o, ry h]; omega
    have fin0 : qj s[k] = false -> my s.data.toList = k := λ h => by rw [HR.o, HD.o, tG h]; omega
    go_wp2_with (first | (go_at_call 119; refine (ox _ _).mono ?_; rintro e w' ⟨rfl, rfl⟩) | (go_at_call 121; refine (oy _ _).mono ?_; rintro e w' ⟨rfl, rfl⟩) | (go_at_call 146; refine (vZ _ _).mono ?_; rintro e w' ⟨rfl, rfl⟩))
    all_goals first
     | (go_round
        case rel => exact ⟨k + 1, by omega, by go_num, fin (by simp_all [qj]; try omega)⟩
        case measure => simp [intOf]; omega)
     | (go_ret; exact ⟨iq (by rw [fin0 (by simp_all [qj]; try omega)]), rfl⟩)
  . go_wp2_with fail
    go_ret; exact ⟨iq (by rw [HR.o, Ew s k zO]; simp [my]), rfl⟩
theorem yz (s : ByteArray) (w : World) :
  Calls prog 120 #[.string s] w λ e w' => e = .returned (.bool (CG s.data.toList)) /\ w = w' := by
 rw [<- Lib.toList_data]; go_enter func120, ntmps120
 go_wp2; all_goals go_ret
 all_goals exact ⟨ah (by simp_all [CG, CF]), rfl⟩
theorem kV (s : ByteArray) (w : World) (hs : s.size <= maxLen) :
  Calls prog 118 #[.string s] w λ e w' => e = .returned (.bool (rE s.data.toList)) /\ w = w' := by
 have hl : s.data.toList.length = s.size := (by simp); go_enter func118, ntmps118
 go_wp2_with (first | (go_at_call 109; refine (rx _ _ hs).mono ?_; rintro e w' ⟨rfl, rfl⟩))
 all_goals go_ret
 all_goals refine ⟨ah ?_, rfl⟩
 . rename_i h; rw [Lib.toList_data] at h; simp [rE, h]
 . rename_i h _; have h1 : 1 <= s.size := (by rw [<- hl]; exact List.length_pos_iff.2 (by rwa [Lib.toList_data] at h)); have h2 : s.toList.isEmpty = false := (by rw [Bool.eq_false_iff]; simpa using h); rw [h2, Bool.eq_iff_iff]; simp [rE]; omega
 . simp [rE]; omega
theorem wm {s : ByteArray} (h : rE s.data.toList = true) : 0 < s.size := by
 simp [rE] at h; omega
theorem Aj {s : ByteArray} (h : 0 < s.size) : s.data.toList.head?.getD 0 = s[0] := by
 have := ta s 0 h; simp at this; rw [this]; rfl
theorem qt (s : ByteArray) (w : World) (hs : s.size <= maxLen) :
  Calls prog 74 #[.string s] w λ e w' => e = .returned (.bool (zX s.data.toList)) /\ w = w' := by
 cases hf : rE s.data.toList
 . go_enter func74, ntmps74
   go_wp2_with (first | (go_at_call 118; refine (kV _ _ hs).mono ?_; rintro e w' ⟨rfl, rfl⟩))
   go_ret; exact ⟨ah (by simp [zX, hf]), rfl⟩
 . have h0 := wm hf; have hh := zH (Aj h0); go_enter func74, ntmps74
   go_wp2_with (first | (go_at_call 118; refine (kV _ _ hs).mono ?_; rintro e w' ⟨rfl, rfl⟩) | (go_at_call 119; refine (ox _ _).mono ?_; rintro e w' ⟨rfl, rfl⟩) | (go_at_call 120; refine (yz _ _).mono ?_; rintro e w' ⟨rfl, rfl⟩))
   all_goals go_ret
   all_goals exact ⟨ah (by have e := hh.o; simp_all [zX]), rfl⟩
theorem sL (s : ByteArray) (w : World) (hs : s.size <= maxLen) :
  Calls prog 75 #[.string s] w λ e w' => e = .returned (.bool (Gy s.data.toList)) /\ w = w' := by
 cases hf : rE s.data.toList
 . go_enter func75, ntmps75
   go_wp2_with (first | (go_at_call 118; refine (kV _ _ hs).mono ?_; rintro e w' ⟨rfl, rfl⟩))
   go_ret; exact ⟨ah (by simp [Gy, hf]), rfl⟩
 . have h0 := wm hf; have hh := zH (Aj h0); go_enter func75, ntmps75
   go_wp2_with (first | (go_at_call 118; refine (kV _ _ hs).mono ?_; rintro e w' ⟨rfl, rfl⟩) | (go_at_call 121; refine (oy _ _).mono ?_; rintro e w' ⟨rfl, rfl⟩))
   all_goals go_ret
   all_goals exact ⟨ah (by have e := hh.o; simp_all [Gy]), rfl⟩
end Go.Proofs.YtccihplmmfmonaaGreatDoor
