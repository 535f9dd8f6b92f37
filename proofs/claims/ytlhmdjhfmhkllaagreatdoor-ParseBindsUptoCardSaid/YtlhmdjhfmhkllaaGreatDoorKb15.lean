/-
  Texts joined.
-/
import Derived.Great.BuildSlice
import Derived.OwnWalk
import Derived.Test.YtlhmdjhfmhkllaaGreatDoorKb14
namespace Go.Proofs.YtlhmdjhfmhkllaaGreatDoor
open Go.RowKit
theorem rsmall_any (c : UInt8) (w : World) :
    Calls Tryz.prog 106 #[.int .u8 (c.toNat : Int)] w fun e w' => e = .returned (.bool (smallB c)) ∧ w = w' := by
  go_enter Tryz.func106, Tryz.ntmps106
  go_wp2; all_goals go_ret
  all_goals exact ⟨ret_bool (by rw [Bool.eq_iff_iff]; simp [smallB]; omega), rfl⟩
theorem rgreat_any (c : UInt8) (w : World) :
    Calls Tryz.prog 152 #[.int .u8 (c.toNat : Int)] w fun e w' => e = .returned (.bool (greatB c)) ∧ w = w' := by
  go_enter Tryz.func152, Tryz.ntmps152
  go_wp2; all_goals go_ret
  all_goals exact ⟨ret_bool (by rw [Bool.eq_iff_iff]; simp [greatB]; omega), rfl⟩
theorem rdigit_any (c : UInt8) (w : World) :
    Calls Tryz.prog 104 #[.int .u8 (c.toNat : Int)] w fun e w' => e = .returned (.bool (digitB c)) ∧ w = w' := by
  go_enter Tryz.func104, Tryz.ntmps104
  go_wp2; all_goals go_ret
  all_goals exact ⟨ret_bool (by rw [Bool.eq_iff_iff]; simp [digitB]; omega), rfl⟩
set_option maxHeartbeats 400000 in
theorem rmore_any (c : UInt8) (w : World) :
    Calls Tryz.prog 146 #[.int .u8 (c.toNat : Int)] w fun e w' => e = .returned (.bool (moreB c)) ∧ w = w' := by
  go_enter Tryz.func146, Tryz.ntmps146
  go_wp2_with (first | (go_at_call 106; refine (rsmall_any _ _).mono ?_; rintro e w' ⟨rfl, rfl⟩) | (go_at_call 152; refine (rgreat_any _ _).mono ?_; rintro e w' ⟨rfl, rfl⟩) | (go_at_call 104; refine (rdigit_any _ _).mono ?_; rintro e w' ⟨rfl, rfl⟩))
  all_goals go_ret
  all_goals exact ⟨ret_bool (by rw [Bool.eq_iff_iff]; simp_all [moreB]; try omega), rfl⟩
set_option maxHeartbeats 400000 in
theorem rrun_any (s : ByteArray) (w : World) (hs : s.size ≤ maxLen) :
    Calls Tryz.prog 103 #[.string s] w fun e w' => e = .returned (.int .i64 (runL s.data.toList : Nat)) ∧ w = w' := by
  unfold maxLen at hs; go_enter Tryz.func103, Tryz.ntmps103
  go_wp2_with fail
  go_loop [3] (fun n => ∃ k : Nat, k ≤ s.size ∧ n = .int .i64 k ∧ runL s.data.toList = k + runL (s.data.toList.drop k)) (fun n => s.size - (intOf n).toNat)
  case atStart => exact ⟨0, Nat.zero_le _, rfl, by simp⟩
  case round =>
    obtain ⟨k, hk, rfl, hrun⟩ := hrel; have HR := Lib.hid hrun; clear hrun; by_cases hlt : k < s.size
    · have HD := Lib.hid (drop_cons s k hlt); have fin : moreB s[k] = true → runL s.data.toList = ((k + 1 : Nat)) + runL (s.data.toList.drop (k + 1)) := fun h => by rw [HR.out, HD.out, runL_cons_yes h]; omega
      have fin0 : moreB s[k] = false → runL s.data.toList = k := fun h => by rw [HR.out, HD.out, runL_cons_no h]; omega
      have FIN := Lib.hid fin; have FIN0 := Lib.hid fin0; clear fin fin0; go_wp2_with (go_at_call 146; refine (rmore_any _ _).mono ?_; rintro e w' ⟨rfl, rfl⟩)
      all_goals first
        | (go_round
           case rel => exact ⟨k + 1, by omega, by go_num, FIN.out (by assumption)⟩
           case measure => simp [intOf]; omega)
        | (go_ret; exact ⟨ret_int (by rw [FIN0.out (by assumption)]), rfl⟩)
    · go_wp2_with fail
      go_ret; exact ⟨ret_int (by rw [HR.out, drop_end s k (by omega)]; simp [runL]), rfl⟩
def wordsV : Array Value := (wordsL.map fun l => Value.string (str l)).toArray
theorem rstr_info : (Tryz.prog.info? 9).map (fun i => (i.zero, i.size, i.bytes)) = some (some (.string ⟨#[]⟩), 1, 16) := by kernel_rfl
set_option maxRecDepth 100000 in
theorem rwords_any (w : World) : Calls Tryz.prog 147 #[] w fun e w' => e = .returned (.slice (some ⟨w.heap.size, 0, none⟩) 21 21) ∧ w' = w.alloc (.cells wordsV 9) := by
  obtain ⟨i0, hi, hz0, hz1, hz2⟩ := info_parts rstr_info; go_enter Tryz.func147, Tryz.ntmps147
  go_wp2_with (refine wpList_buildSlice rfl 34 9 21 _ rfl wordsV i0 (.string ⟨#[]⟩) Tryz.underlying34 hi hz0 (by rw [hz1]; decide) (by rw [hz1]; decide) (by rw [hz1]; as_aux_lemma => kernel_rfl) ?_)
  go_ret; exact ⟨rfl, rfl⟩
/-- the cells of a slice of strings -/
def RefStrs (w : World) (g off : Nat) (xs : List (List UInt8)) : Prop := ∀ i, i < xs.length → w.cell? ⟨g, off + i, none⟩ = some (.string (str (xs.getD i [])))
set_option maxHeartbeats 400000 in
theorem rhas_any (g off cap : Nat) (xs : List (List UInt8)) (s : ByteArray) (w : World) (hn : xs.length ≤ 9223372036854775807) (hx : RefStrs w g off xs) :
    Calls Tryz.prog 68 #[.slice (some ⟨g, off, none⟩) xs.length cap, .string s] w fun e w' => e = .returned (.bool (xs.any (s.data.toList == ·))) ∧ w = w' := by
  have HX := Lib.hid hx; clear hx; go_enter Tryz.func68, Tryz.ntmps68
  go_wp2_with fail
  go_loop [5] (fun n => ∃ k : Nat, k ≤ xs.length ∧ n = .int .i64 k ∧ xs.any (s.data.toList == ·) = (xs.drop k).any (s.data.toList == ·)) (fun n => xs.length - (intOf n).toNat)
  case atStart => exact ⟨0, Nat.zero_le _, rfl, by simp⟩
  case round =>
    obtain ⟨k, hk, rfl, ha⟩ := hrel; have HA := Lib.hid ha; clear ha; by_cases hlt : k < xs.length
    · have hc := HX.out k hlt; have hd : xs.drop k = xs.getD k [] :: xs.drop (k + 1) := by
        rw [List.drop_eq_getElem_cons hlt]; simp [List.getD_eq_getElem?_getD, List.getElem?_eq_getElem hlt]
      have HD := Lib.hid hd; clear hd; by_cases he : s.data.toList = xs.getD k []
      · have e1 : ((str (xs.getD k [])).toList == s.toList) = true := by rw [Lib.toList_data, Lib.toList_data, str_toList, he]; simp
        have hfin : xs.any (s.data.toList == ·) = true := (by rw [HA.out, HD.out]; simp [he]); have HF := Lib.hid hfin; clear hfin he HD HA; generalize xs.getD k [] = x at hc e1; go_wp2_with fail
        go_ret; exact ⟨by rw [HF.out]; rfl, rfl⟩
      · have e1 : ((str (xs.getD k [])).toList == s.toList) = false := by rw [Lib.toList_data, Lib.toList_data, str_toList]; simp; exact fun h => he h.symm
        have hfin : xs.any (s.data.toList == ·) = (xs.drop (k + 1)).any (s.data.toList == ·) := (by rw [HA.out, HD.out, List.any_cons, beq_eq_false_iff_ne.2 he, Bool.false_or]); have HF := Lib.hid hfin; clear hfin he HD HA; generalize xs.getD k [] = x at hc e1; go_wp2_with fail
        go_round
        case rel => exact ⟨k + 1, by omega, by go_num, HF.out⟩
        case measure => simp [intOf]; omega
    · go_wp2_with fail
      have hfin : xs.any (s.data.toList == ·) = false := (by rw [HA.out, List.drop_of_length_le (by omega)]; rfl); have HF := Lib.hid hfin; clear hfin; go_ret; exact ⟨by rw [HF.out]; rfl, rfl⟩
theorem words_at (w : World) : RefStrs (w.alloc (.cells wordsV 9)) w.heap.size 0 wordsL := fun i hi => by
  rw [cell_of_row _ _ _ _ _ _ (heap_alloc_new w _)]
  simp [wordsV, List.getElem?_eq_getElem hi]
theorem rhasWords_any (s : ByteArray) (w : World) :
    Calls Tryz.prog 68 #[.slice (some ⟨w.heap.size, 0, none⟩) 21 21, .string s] (w.alloc (.cells wordsV 9)) fun e w' => e = .returned (.bool (wordB s.data.toList)) ∧ w.alloc (.cells wordsV 9) = w' :=
  rhas_any w.heap.size 0 21 wordsL s _ (by decide) (words_at w)
theorem name_iff {s : ByteArray} (h1 : 1 ≤ s.size) : nameB s.data.toList = true ↔ s.size ≤ 24 ∧ smallB (s[0]'h1) = true ∧ (runL s.data.toList : Int) = (s.size : Int) ∧ wordB s.data.toList = false := by
  have hl : s.data.toList.length = s.size := (by simp); have h2 := head_eq (s := s) h1; simp only [nameB, fitB, hl, List.headD_eq_head?_getD, h2, Bool.and_eq_true, decide_eq_true_eq, Bool.not_eq_true']; exact ⟨fun ⟨⟨⟨⟨_, b⟩, c⟩, d⟩, e⟩ => ⟨b, d, by omega, e⟩, fun ⟨b, d, c, e⟩ => ⟨⟨⟨⟨h1, b⟩, by omega⟩, d⟩, e⟩⟩
theorem con_iff {s : ByteArray} (h1 : 1 ≤ s.size) : conB s.data.toList = true ↔ s.size ≤ 24 ∧ greatB (s[0]'h1) = true ∧ (runL s.data.toList : Int) = (s.size : Int) := by
  have hl : s.data.toList.length = s.size := (by simp); have h2 := head_eq (s := s) h1; simp only [conB, fitB, hl, List.headD_eq_head?_getD, h2, Bool.and_eq_true, decide_eq_true_eq]; exact ⟨fun ⟨⟨⟨_, b⟩, c⟩, d⟩ => ⟨b, d, by omega⟩, fun ⟨b, d, c⟩ => ⟨⟨⟨h1, b⟩, by omega⟩, d⟩⟩
set_option maxHeartbeats 400000 in
theorem rIsName_any (s : ByteArray) (w : World) (hs : s.size ≤ maxLen) :
    Calls Tryz.prog 117 #[.string s] w fun e w' => e = .returned (.bool (nameB s.data.toList)) ∧ Below w.heap.size w w' := by
  have hl : s.data.toList.length = s.size := (by simp); have hm : s.size ≤ 9223372036854775807 := hs; by_cases h1 : 1 ≤ s.size
  · have hh := Lib.hid (head_eq (s := s) h1); have FIN := Lib.hid (name_iff h1); go_enter Tryz.func117, Tryz.ntmps117
    go_wp2_with (first | (go_at_call 106; refine (rsmall_any _ _).mono ?_; rintro e w' ⟨rfl, rfl⟩) | (go_at_call 103; refine (rrun_any _ _ hs).mono ?_; rintro e w' ⟨rfl, rfl⟩) | (go_at_call 147; refine (rwords_any _).mono ?_; rintro e w' ⟨rfl, rfl⟩) | (go_at_call 68; refine (rhasWords_any _ _).mono ?_; rintro e w' ⟨rfl, rfl⟩))
    all_goals go_ret
    all_goals refine ⟨ret_bool (by have f := FIN.out; rw [Bool.eq_iff_iff, f]; simp_all; try omega), ?_⟩
    all_goals first | exact Below.refl _ _ | exact (Below.refl _ _).alloc (Nat.le_refl _) _
  · go_enter Tryz.func117, Tryz.ntmps117
    go_wp2_with fail
    go_ret; exact ⟨ret_bool (by simp [nameB, fitB, hl]; omega), Below.refl _ _⟩
set_option maxHeartbeats 400000 in
theorem rIsCon_any (s : ByteArray) (w : World) (hs : s.size ≤ maxLen) :
    Calls Tryz.prog 116 #[.string s] w fun e w' => e = .returned (.bool (conB s.data.toList)) ∧ w = w' := by
  have hl : s.data.toList.length = s.size := (by simp); have hm : s.size ≤ 9223372036854775807 := hs; by_cases h1 : 1 ≤ s.size
  · have FIN := Lib.hid (con_iff h1); go_enter Tryz.func116, Tryz.ntmps116
    go_wp2_with (first | (go_at_call 152; refine (rgreat_any _ _).mono ?_; rintro e w' ⟨rfl, rfl⟩) | (go_at_call 103; refine (rrun_any _ _ hs).mono ?_; rintro e w' ⟨rfl, rfl⟩))
    all_goals go_ret
    all_goals refine ⟨ret_bool (by have f := FIN.out; rw [Bool.eq_iff_iff, f]; simp_all; try omega), rfl⟩
  · go_enter Tryz.func116, Tryz.ntmps116
    go_wp2_with fail
    go_ret; exact ⟨ret_bool (by simp [conB, fitB, hl]; omega), rfl⟩
end Go.Proofs.YtlhmdjhfmhkllaaGreatDoor
