/-
  ScanNames: the walk.
-/
import Derived.Test.YtnoifghbcfoaaaaDoorLives
import Derived.Test.YtnoifghbcfoaaaaDoorRef
import Derived.Test.YtnoifghbcfoaaaaDoorAloneSpec
namespace Go.Proofs.YtnoifghbcfoaaaaDoor
open Go.RowKit

theorem kinds_apart (l : List UInt8) : (nameB l = false ∧ conB l = false ∧ wordB l = false) ∨ (nameB l = true ∧ conB l = false ∧ wordB l = false) ∨ (nameB l = false ∧ conB l = true ∧ wordB l = false) ∨ (nameB l = false ∧ conB l = false ∧ wordB l = true) := by
  by_cases h : kindL l = 0
  · exact .inl (kind_zero h)
  · rcases kind_cases h with ⟨_, h⟩ | ⟨_, h⟩ | ⟨_, h⟩
    · exact .inr (.inl h)
    · exact .inr (.inr (.inl h))
    · exact .inr (.inr (.inr h))

set_option maxHeartbeats 1000000 in
theorem names_walk (b1 b2 b3 : Bool) (s : ByteArray) (w : World) (hm : s.size ≤ maxLen) (he : Errs w) (h1 : nameB s.data.toList = b1) (h2 : conB s.data.toList = b2) (h3 : wordB s.data.toList = b3)
    (hb : (b1 = false ∧ b2 = false ∧ b3 = false) ∨ (b1 = true ∧ b2 = false ∧ b3 = false) ∨ (b1 = false ∧ b2 = true ∧ b3 = false) ∨ (b1 = false ∧ b2 = false ∧ b3 = true)) :
    Calls Tryd.prog 4 #[.string s] w (Lived w) := by
  have HE := Lib.hid he
  have H1 := Lib.hid (fun w => isName_any s w hm)
  have H2 := Lib.hid (fun w => isCon_any s w hm)
  have H3 := Lib.hid (fun w => isWord_any s w)
  have R1 := Lib.hid (fun w => rIsName_any s w hm)
  have R2 := Lib.hid (fun w => rIsCon_any s w hm)
  have R3 := Lib.hid (fun w => rIsWord_any s w)
  rw [h1] at H1 R1
  rw [h2] at H2 R2
  rw [h3] at H3 R3
  clear h1 h2 h3 he hm
  rcases hb with ⟨rfl, rfl, rfl⟩ | ⟨rfl, rfl, rfl⟩ | ⟨rfl, rfl, rfl⟩ | ⟨rfl, rfl, rfl⟩
  all_goals go_enter Tryd.func4, Tryd.ntmps4
  all_goals go_wp2_with (first | (go_at_call 9; refine (lives_any _ HE.out).mono ?_; rintro e w1 ⟨rfl, hb1⟩) | (go_at_call 13; refine (H1.out _).mono ?_; rintro e w' ⟨rfl, rfl⟩) | (go_at_call 14; refine (H2.out _).mono ?_; rintro e w' ⟨rfl, rfl⟩) | (go_at_call 15; refine (H3.out _).mono ?_; rintro e w' ⟨rfl, rfl⟩) | (go_at_call 16; refine (R1.out _).mono ?_; rintro e w2 ⟨rfl, hb2⟩) | (go_at_call 17; refine (R2.out _).mono ?_; rintro e w' ⟨rfl, rfl⟩) | (go_at_call 18; refine (R3.out _).mono ?_; rintro e w3 ⟨rfl, hb3⟩))
  all_goals go_ret
  all_goals exact ⟨rfl, (hb1.trans (hb2.mono hb1.size)).trans (hb3.mono (Nat.le_trans hb1.size hb2.size))⟩
theorem names_any (s : ByteArray) (w : World) (hm : s.size ≤ maxLen) (he : Errs w) : Calls Tryd.prog 4 #[.string s] w (Lived w) := by
  rcases kinds_apart s.data.toList with ⟨h1, h2, h3⟩ | ⟨h1, h2, h3⟩ | ⟨h1, h2, h3⟩ | ⟨h1, h2, h3⟩
  all_goals exact names_walk _ _ _ s w hm he h1 h2 h3 (by simp)
end Go.Proofs.YtnoifghbcfoaaaaDoor
