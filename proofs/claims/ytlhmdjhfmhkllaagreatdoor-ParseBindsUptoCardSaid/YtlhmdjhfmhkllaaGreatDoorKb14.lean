/-
  Texts joined.
-/
import Derived.BigQuiet
import Derived.Deep.QuietTactic
import Derived.Lib.Hide
import Derived.Test.YtlhmdjhfmhkllaaGreatDoorChecked
import Derived.WalkKit
import Derived.WalkSpells
import Derived.Test.YtlhmdjhfmhkllaaGreatDoorKb01
namespace Go.Proofs.YtlhmdjhfmhkllaaGreatDoor
open Go.RowKit
theorem isSmall_any (c : UInt8) (w : World) :
    Calls Tryz.prog 139 #[.int .u8 (c.toNat : Int)] w fun e w' => e = .returned (.bool (smallB c)) ∧ w = w' := by
  go_enter Tryz.func139, Tryz.ntmps139
  go_wp2; all_goals go_ret
  all_goals exact ⟨ret_bool (by rw [Bool.eq_iff_iff]; simp [smallB]; omega), rfl⟩
theorem isGreat_any (c : UInt8) (w : World) :
    Calls Tryz.prog 141 #[.int .u8 (c.toNat : Int)] w fun e w' => e = .returned (.bool (greatB c)) ∧ w = w' := by
  go_enter Tryz.func141, Tryz.ntmps141
  go_wp2; all_goals go_ret
  all_goals exact ⟨ret_bool (by rw [Bool.eq_iff_iff]; simp [greatB]; omega), rfl⟩
theorem isDigit_any (c : UInt8) (w : World) :
    Calls Tryz.prog 160 #[.int .u8 (c.toNat : Int)] w fun e w' => e = .returned (.bool (digitB c)) ∧ w = w' := by
  go_enter Tryz.func160, Tryz.ntmps160
  go_wp2; all_goals go_ret
  all_goals exact ⟨ret_bool (by rw [Bool.eq_iff_iff]; simp [digitB]; omega), rfl⟩
set_option maxHeartbeats 400000 in
theorem runLength_any (s : ByteArray) (w : World) (hs : s.size ≤ maxLen) :
    Calls Tryz.prog 129 #[.string s] w fun e w' => e = .returned (.int .i64 (runL s.data.toList : Nat)) ∧ w = w' := by
  unfold maxLen at hs; go_enter Tryz.func129, Tryz.ntmps129
  go_wp2_with fail
  go_loop [3] (fun n => ∃ k : Nat, k ≤ s.size ∧ n = .int .i64 k ∧ runL s.data.toList = k + runL (s.data.toList.drop k)) (fun n => s.size - (intOf n).toNat)
  case atStart => exact ⟨0, Nat.zero_le _, rfl, by simp⟩
  case round =>
    obtain ⟨k, hk, rfl, hrun⟩ := hrel; have HR := Lib.hid hrun; clear hrun; by_cases hlt : k < s.size
    · have HD := Lib.hid (drop_cons s k hlt); have fin : moreB s[k] = true → runL s.data.toList = ((k + 1 : Nat)) + runL (s.data.toList.drop (k + 1)) := fun h => by rw [HR.out, HD.out, runL_cons_yes h]; omega
      have fin0 : moreB s[k] = false → runL s.data.toList = k := fun h => by rw [HR.out, HD.out, runL_cons_no h]; omega
      go_wp2_with (first | (go_at_call 139; refine (isSmall_any _ _).mono ?_; rintro e w' ⟨rfl, rfl⟩) | (go_at_call 141; refine (isGreat_any _ _).mono ?_; rintro e w' ⟨rfl, rfl⟩) | (go_at_call 160; refine (isDigit_any _ _).mono ?_; rintro e w' ⟨rfl, rfl⟩))
      all_goals first
        | (go_round
           case rel => exact ⟨k + 1, by omega, by go_num, fin (by simp_all [moreB]; try omega)⟩
           case measure => simp [intOf]; omega)
        | (go_ret; exact ⟨ret_int (by rw [fin0 (by simp_all [moreB]; try omega)]), rfl⟩)
    · go_wp2_with fail
      go_ret; exact ⟨ret_int (by rw [HR.out, drop_end s k (by omega)]; simp [runL]), rfl⟩
theorem isWord_any (s : ByteArray) (w : World) :
    Calls Tryz.prog 140 #[.string s] w fun e w' => e = .returned (.bool (wordB s.data.toList)) ∧ w = w' := by
  rw [← Lib.toList_data]; go_enter Tryz.func140, Tryz.ntmps140
  go_wp2; all_goals go_ret
  all_goals exact ⟨ret_bool (by simp_all [wordB, wordsL]), rfl⟩
set_option maxHeartbeats 400000 in
theorem isRun_any (s : ByteArray) (w : World) (hs : s.size ≤ maxLen) :
    Calls Tryz.prog 138 #[.string s] w fun e w' => e = .returned (.bool (fitB s.data.toList)) ∧ w = w' := by
  have hl : s.data.toList.length = s.size := (by simp); go_enter Tryz.func138, Tryz.ntmps138
  go_wp2_with (first | (go_at_call 129; refine (runLength_any _ _ hs).mono ?_; rintro e w' ⟨rfl, rfl⟩))
  all_goals go_ret
  all_goals refine ⟨ret_bool ?_, rfl⟩
  · rename_i h; rw [Lib.toList_data] at h; simp [fitB, h]
  · rename_i h _; have h1 : 1 ≤ s.size := (by rw [← hl]; exact List.length_pos_iff.2 (by rwa [Lib.toList_data] at h)); have h2 : s.toList.isEmpty = false := (by rw [Bool.eq_false_iff]; simpa using h); rw [h2, Bool.eq_iff_iff]; simp [fitB]; omega
  · simp [fitB]; omega
theorem fitB_pos {s : ByteArray} (h : fitB s.data.toList = true) : 0 < s.size := by
  simp [fitB] at h; omega
theorem head_eq {s : ByteArray} (h : 0 < s.size) : s.data.toList.head?.getD 0 = s[0] := by
  have := drop_cons s 0 h; simp at this; rw [this]; rfl
set_option maxHeartbeats 400000 in
theorem isName_any (s : ByteArray) (w : World) (hs : s.size ≤ maxLen) :
    Calls Tryz.prog 92 #[.string s] w fun e w' => e = .returned (.bool (nameB s.data.toList)) ∧ w = w' := by
  cases hf : fitB s.data.toList
  · go_enter Tryz.func92, Tryz.ntmps92
    go_wp2_with (first | (go_at_call 138; refine (isRun_any _ _ hs).mono ?_; rintro e w' ⟨rfl, rfl⟩))
    go_ret; exact ⟨ret_bool (by simp [nameB, hf]), rfl⟩
  · have h0 := fitB_pos hf; have hh := Lib.hid (head_eq h0); go_enter Tryz.func92, Tryz.ntmps92
    go_wp2_with (first | (go_at_call 138; refine (isRun_any _ _ hs).mono ?_; rintro e w' ⟨rfl, rfl⟩) | (go_at_call 139; refine (isSmall_any _ _).mono ?_; rintro e w' ⟨rfl, rfl⟩) | (go_at_call 140; refine (isWord_any _ _).mono ?_; rintro e w' ⟨rfl, rfl⟩))
    all_goals go_ret
    all_goals exact ⟨ret_bool (by have e := hh.out; simp_all [nameB]), rfl⟩
set_option maxHeartbeats 400000 in
theorem isCon_any (s : ByteArray) (w : World) (hs : s.size ≤ maxLen) :
    Calls Tryz.prog 93 #[.string s] w fun e w' => e = .returned (.bool (conB s.data.toList)) ∧ w = w' := by
  cases hf : fitB s.data.toList
  · go_enter Tryz.func93, Tryz.ntmps93
    go_wp2_with (first | (go_at_call 138; refine (isRun_any _ _ hs).mono ?_; rintro e w' ⟨rfl, rfl⟩))
    go_ret; exact ⟨ret_bool (by simp [conB, hf]), rfl⟩
  · have h0 := fitB_pos hf; have hh := Lib.hid (head_eq h0); go_enter Tryz.func93, Tryz.ntmps93
    go_wp2_with (first | (go_at_call 138; refine (isRun_any _ _ hs).mono ?_; rintro e w' ⟨rfl, rfl⟩) | (go_at_call 141; refine (isGreat_any _ _).mono ?_; rintro e w' ⟨rfl, rfl⟩))
    all_goals go_ret
    all_goals exact ⟨ret_bool (by have e := hh.out; simp_all [conB]), rfl⟩
end Go.Proofs.YtlhmdjhfmhkllaaGreatDoor
