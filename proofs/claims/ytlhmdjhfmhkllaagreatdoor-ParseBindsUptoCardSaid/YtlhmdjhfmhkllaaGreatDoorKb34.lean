/-
  Texts joined.
-/
import Derived.Great.BuildSlice
import Derived.Test.YtlhmdjhfmhkllaaGreatDoorKb16
namespace Go.Proofs.YtlhmdjhfmhkllaaGreatDoor
open Go.RowKit
def signsV : Array Value := #[.string ⟨#[45, 62]⟩, .string ⟨#[60, 61]⟩, .string ⟨#[60, 62]⟩, .string ⟨#[40]⟩, .string ⟨#[41]⟩, .string ⟨#[91]⟩, .string ⟨#[93]⟩, .string ⟨#[60]⟩, .string ⟨#[61]⟩, .string ⟨#[44]⟩, .string ⟨#[59]⟩, .string ⟨#[58]⟩, .string ⟨#[124]⟩, .string ⟨#[43]⟩, .string ⟨#[45]⟩, .string ⟨#[42]⟩, .string ⟨#[47]⟩, .string ⟨#[37]⟩]
theorem signs_info : (Tryz.prog.info? 169).map (·.size) = some signsV.size := by kernel_rfl
theorem signs_one : signsV.all (·.oneCell') = true := by kernel_rfl
set_option maxRecDepth 100000 in
theorem signs_any (w : World) : Calls Tryz.prog 161 #[] w fun e w' => e = .returned (.agg signsV) ∧ Below w.heap.size w w' := by
  go_enter Tryz.func161, Tryz.ntmps161
  go_wp2_with (first | (refine wpList_buildTo rfl 169 _ rfl (some 1) rfl signsV (by as_aux_lemma => kernel_rfl) ?_; refine wpList_store_rowTo rfl 169 _ _ rfl rfl w.heap.size signsV rfl rfl 169 _ (heap_alloc_new w _) signs_info (by as_aux_lemma => kernel_rfl) signs_one ?_))
  refine bodyPost_ret (v := .agg signsV) (results_cell_row Tryz.results161 _ _ w.heap.size 169 signsV (0, 0) _ rfl (setRow_heap _ _ _ _ _ _ (heap_alloc_new w _)) Tryz.underlying169 rfl signs_info) rfl ⟨rfl, ?_⟩; exact ((Below.refl _ _).alloc (Nat.le_refl _) _).trans ⟨rfl, rfl, rfl, by simp, fun k hk => setRow_other _ _ _ _ (by omega)⟩
theorem sign_at (w : World) (k : Nat) (h : k < 18) : (Instr.index 169 (.agg signsV) (.int .i64 (k : Int))).run Tryz.prog w = .ok (.string ⟨(signsL.getD k []).toArray⟩) w := by
  obtain rfl | rfl | rfl | rfl | rfl | rfl | rfl | rfl | rfl | rfl | rfl | rfl | rfl | rfl | rfl | rfl | rfl | rfl : k = 0 ∨ k = 1 ∨ k = 2 ∨ k = 3 ∨ k = 4 ∨ k = 5 ∨ k = 6 ∨ k = 7 ∨ k = 8 ∨ k = 9 ∨ k = 10 ∨ k = 11 ∨ k = 12 ∨ k = 13 ∨ k = 14 ∨ k = 15 ∨ k = 16 ∨ k = 17 := by omega
  all_goals kernel_rfl
set_option maxHeartbeats 400000 in
theorem sign_any (s : ByteArray) (w : World) :
    Calls Tryz.prog 130 #[.string s] w fun e w' => e = .returned (.string ⟨(signL s.data.toList).toArray⟩) ∧ Below w.heap.size w w' := by
  go_enter Tryz.func130, Tryz.ntmps130
  go_wp2_with (go_at_call 161; refine (signs_any _).mono ?_; rintro e w' ⟨rfl, hb⟩)
  go_loop [6] (fun i => ∃ k : Nat, k ≤ 18 ∧ i = .int .i64 k ∧ signL s.data.toList = signOf (signsL.drop k) s.data.toList) (fun i => 18 - (intOf i).toNat)
  case atStart => exact ⟨0, Nat.zero_le _, rfl, rfl⟩
  case round =>
    obtain ⟨k, hk, rfl, h⟩ := hrel; have H := Lib.hid h; clear h; by_cases hlt : k < 18
    · have hx := fun w => sign_at w k hlt; have hd : signsL.drop k = signsL.getD k [] :: signsL.drop (k + 1) := by
        rw [List.drop_eq_getElem_cons (by simpa [signsL] using hlt)]; simp [List.getD_eq_getElem?_getD, List.getElem?_eq_getElem (show k < signsL.length by simpa [signsL] using hlt)]
      generalize signsL.getD k [] = p at hx hd; have HD := Lib.hid hd; clear hd; go_wp2_with (go_at_call 127; refine (hasPrefix_any _ _ _).mono ?_; rintro e w' ⟨rfl, rfl⟩)
      · have hpre : p.isPrefixOf s.data.toList = true := by assumption
        have e : signL s.data.toList = p := (by rw [H.out, HD.out]; simp [signOf, hpre]); have E := Lib.hid e; clear e hpre; go_ret; exact ⟨by rw [E.out]; rfl, hb⟩
      · have hpre : p.isPrefixOf s.data.toList = false := by assumption
        have e : signL s.data.toList = signOf (signsL.drop (k + 1)) s.data.toList := (by rw [H.out, HD.out]; simp [signOf, hpre]); have E := Lib.hid e; clear e hpre; go_round
        case rel => exact ⟨k + 1, by omega, by go_num, E.out⟩
        case measure => simp [intOf]; omega
    · go_wp2_with fail
      have e : signL s.data.toList = [] := by
        rw [H.out, List.drop_of_length_le (by simp [signsL]; omega)]; rfl
      have E := Lib.hid e; clear e; go_ret; exact ⟨by rw [E.out]; rfl, hb⟩
end Go.Proofs.YtlhmdjhfmhkllaaGreatDoor
