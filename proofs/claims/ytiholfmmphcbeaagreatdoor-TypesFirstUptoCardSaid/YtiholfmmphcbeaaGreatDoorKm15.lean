import Derived.BigQuiet
import Derived.Deep.QuietTactic
import Derived.Lib.Hide
import Derived.Test.YtiholfmmphcbeaaGreatDoorChecked
import Derived.WalkSpells
import Derived.Test.YtiholfmmphcbeaaGreatDoorKm09
set_option maxHeartbeats 400000
namespace Go.Proofs.YtiholfmmphcbeaaGreatDoor
open _root_.Go.Proofs.Tryz
open Go.RowKit
theorem om (c : UInt8) (w : World) :
  Calls prog 123 #[.int .u8 (c.toNat : Int)] w λ e w' => e = .returned (.bool (tl c)) /\ w = w' := by
 go_enter func123, ntmps123
 go_wp2; all_goals go_ret
 all_goals exact ⟨ah (by rw [Bool.eq_iff_iff]; simp [tl]; omega), rfl⟩
theorem oo (c : UInt8) (w : World) :
  Calls prog 125 #[.int .u8 (c.toNat : Int)] w λ e w' => e = .returned (.bool (tW c)) /\ w = w' := by
 go_enter func125, ntmps125
 go_wp2; all_goals go_ret
 all_goals exact ⟨ah (by rw [Bool.eq_iff_iff]; simp [tW]; omega), rfl⟩
theorem vO (c : UInt8) (w : World) :
  Calls prog 150 #[.int .u8 (c.toNat : Int)] w λ e w' => e = .returned (.bool (yF c)) /\ w = w' := by
 go_enter func150, ntmps150
 go_wp2; all_goals go_ret
 all_goals exact ⟨ah (by rw [Bool.eq_iff_iff]; simp [yF]; omega), rfl⟩
theorem rk (s : ByteArray) (w : World) (hs : s.size <= maxLen) :
  Calls prog 113 #[.string s] w λ e w' => e = .returned (.int .i64 (mq s.data.toList : Nat)) /\ w = w' := by
 unfold maxLen at hs; go_enter func113, ntmps113
 go_wp2_with fail
 go_loop [3] (λ n => ∃ k : Nat, k <= s.size /\ n = .int .i64 k /\ mq s.data.toList = k + mq (s.data.toList.drop k)) (λ n => s.size - (intOf n).toNat)
 case atStart => exact ⟨0, Nat.zero_le _, rfl, by simp⟩
 case round =>
  obtain ⟨k, hk, rfl, hrun⟩ := hrel; have HR := zH hrun; clear hrun; by_cases hlt : k < s.size
  . have HD := zH (sV s k hlt); have fin : qb s[k] = true -> mq s.data.toList = ((k + 1 : Nat)) + mq (s.data.toList.drop (k + 1)) := λ h => by rw [HR.o, HD.o, rl h]; omega
    have fin0 : qb s[k] = false -> mq s.data.toList = k := λ h => by rw [HR.o, HD.o, tv h]; omega
    go_wp2_with (first | (go_at_call 123; refine (om _ _).mono ?_; rintro e w' ⟨rfl, rfl⟩) | (go_at_call 125; refine (oo _ _).mono ?_; rintro e w' ⟨rfl, rfl⟩) | (go_at_call 150; refine (vO _ _).mono ?_; rintro e w' ⟨rfl, rfl⟩))
    all_goals first
     | (go_round
        case rel => exact ⟨k + 1, by omega, by go_num, fin (by simp_all [qb]; try omega)⟩
        case measure => simp [intOf]; omega)
     | (go_ret; exact ⟨iz (by rw [fin0 (by simp_all [qb]; try omega)]), rfl⟩)
  . go_wp2_with fail
    go_ret; exact ⟨iz (by rw [HR.o, Ec s k zO]; simp [mq]), rfl⟩
theorem yl (s : ByteArray) (w : World) :
  Calls prog 124 #[.string s] w λ e w' => e = .returned (.bool (Cq s.data.toList)) /\ w = w' := by
 rw [<- Lib.toList_data]; go_enter func124, ntmps124
 go_wp2; all_goals go_ret
 all_goals exact ⟨ah (by simp_all [Cq, Cp]), rfl⟩
theorem kY (s : ByteArray) (w : World) (hs : s.size <= maxLen) :
  Calls prog 122 #[.string s] w λ e w' => e = .returned (.bool (rx s.data.toList)) /\ w = w' := by
 have hl : s.data.toList.length = s.size := (by simp); go_enter func122, ntmps122
 go_wp2_with (first | (go_at_call 113; refine (rk _ _ hs).mono ?_; rintro e w' ⟨rfl, rfl⟩))
 all_goals go_ret
 all_goals refine ⟨ah ?_, rfl⟩
 . rename_i h; rw [Lib.toList_data] at h; simp [rx, h]
 . rename_i h _; have h1 : 1 <= s.size := (by rw [<- hl]; exact List.length_pos_iff.2 (by rwa [Lib.toList_data] at h)); have h2 : s.toList.isEmpty = false := (by rw [Bool.eq_false_iff]; simpa using h); rw [h2, Bool.eq_iff_iff]; simp [rx]; omega
 . simp [rx]; omega
theorem wa {s : ByteArray} (h : rx s.data.toList = true) : 0 < s.size := by
 simp [rx] at h; omega
theorem zS {s : ByteArray} (h : 0 < s.size) : s.data.toList.head?.getD 0 = s[0] := by
 have := sV s 0 h; simp at this; rw [this]; rfl
theorem ql (s : ByteArray) (w : World) (hs : s.size <= maxLen) :
  Calls prog 78 #[.string s] w λ e w' => e = .returned (.bool (zF s.data.toList)) /\ w = w' := by
 cases hf : rx s.data.toList
 . go_enter func78, ntmps78
   go_wp2_with (first | (go_at_call 122; refine (kY _ _ hs).mono ?_; rintro e w' ⟨rfl, rfl⟩))
   go_ret; exact ⟨ah (by simp [zF, hf]), rfl⟩
 . have h0 := wa hf; have hh := zH (zS h0); go_enter func78, ntmps78
   go_wp2_with (first | (go_at_call 122; refine (kY _ _ hs).mono ?_; rintro e w' ⟨rfl, rfl⟩) | (go_at_call 123; refine (om _ _).mono ?_; rintro e w' ⟨rfl, rfl⟩) | (go_at_call 124; refine (yl _ _).mono ?_; rintro e w' ⟨rfl, rfl⟩))
   all_goals go_ret
   all_goals exact ⟨ah (by have e := hh.o; simp_all [zF]), rfl⟩
theorem sB (s : ByteArray) (w : World) (hs : s.size <= maxLen) :
  Calls prog 79 #[.string s] w λ e w' => e = .returned (.bool (Gf s.data.toList)) /\ w = w' := by
 cases hf : rx s.data.toList
 . go_enter func79, ntmps79
   go_wp2_with (first | (go_at_call 122; refine (kY _ _ hs).mono ?_; rintro e w' ⟨rfl, rfl⟩))
   go_ret; exact ⟨ah (by simp [Gf, hf]), rfl⟩
 . have h0 := wa hf; have hh := zH (zS h0); go_enter func79, ntmps79
   go_wp2_with (first | (go_at_call 122; refine (kY _ _ hs).mono ?_; rintro e w' ⟨rfl, rfl⟩) | (go_at_call 125; refine (oo _ _).mono ?_; rintro e w' ⟨rfl, rfl⟩))
   all_goals go_ret
   all_goals exact ⟨ah (by have e := hh.o; simp_all [Gf]), rfl⟩
end Go.Proofs.YtiholfmmphcbeaaGreatDoor
