/-
  Texts joined.
-/
import Derived.Test.YtoajfnfhphoaeaaGreatDoorKj23
import Derived.Test.YtoajfnfhphoaeaaGreatDoorKj46
import Derived.Test.YtoajfnfhphoaeaaGreatDoorKj49
namespace Go.Proofs.YtoajfnfhphoaeaaGreatDoor
open Go.RowKit
theorem parseR_flt {s : Tx} {f : Flt} (h : parseR s = .inr f) : f.1 ≠ 0 := by
  unfold parseR at h; split at h
  · rename_i hw; cases h; exact wholeP_flt hw
  · split at h
    · cases h
    · rename_i hr; cases h; exact hr
theorem parseR_got {s : Tx} {p : QProg} (h : parseR s = .inl p) : rightL false p = 0 ∧ GProg p ∧ (progT p).length ≤ 196611 := by
  unfold parseR at h; split at h
  · cases h
  · rename_i q hw; split at h
    · rename_i hr; cases h; exact ⟨hr, whole_got hw⟩
    · cases h
def BadP (f : Flt) (w : World) (e : Ending) (w' : World) : Prop := Below w.heap.size w w' ∧ e = .returned (.tuple #[.agg #[.slice none 0 0, .slice none 0 0], .agg #[.int .i64 f.1, .int .i64 f.2.1, .int .i64 f.2.2]])
theorem parse_badc {s : Tx} {f : Flt} (hp : parseR s = .inr f) (w : World) (hm : s.length ≤ maxLen) (he : Errs w) : Calls Tryz.prog 10 #[.string (str s)] w (BadP f w) := by
  have h := parse_call s w hm he; rw [hp] at h; exact h
end Go.Proofs.YtoajfnfhphoaeaaGreatDoor
