/-
  The reference's Has: is a name among these?
-/
import Derived.Test.YtifbdglhfoimjaaGreatDoorTreeEqS
namespace Go.Proofs.YtifbdglhfoimjaaGreatDoor
open Go.RowKit

def SameRet (b : Bool) (w : World) (e : Ending) (w' : World) : Prop := e = .returned (.bool b) ∧ w = w'
set_option maxHeartbeats 1000000 in
theorem hasR_any {va : Value} {l : List Tx} {w : World} (ha : StrsAt w va l) (s : Tx) : Calls Tryz.prog 12 #[va, .string (str s)] w (SameRet (l.contains s) w) := by
  obtain ⟨A, c, rfl, hlc, hmc, he⟩ := ha
  have hll : l.length ≤ 9223372036854775807 := by unfold maxLen at hmc; omega
  have HE := Lib.hid he
  clear he hlc hmc
  go_enter Tryz.func12, Tryz.ntmps12
  go_wp2_with fail
  go_loop [5] (fun v => ∃ k : Nat, k ≤ l.length ∧ v = .int .i64 k ∧ s ∉ l.take k) (fun v => l.length - (intOf v).toNat)
  case atStart => exact ⟨0, Nat.zero_le _, rfl, by simp⟩
  case round =>
    obtain ⟨k, hk, rfl, hto⟩ := hrel
    have HT := Lib.hid hto
    clear hto
    by_cases hlt : k < l.length
    · obtain ⟨x, hx⟩ : ∃ x, l[k]? = some x := ⟨_, List.getElem?_eq_getElem hlt⟩
      have HX := Lib.hid hx
      obtain ⟨L, hEL, rfl, _⟩ := HE.out k x hx
      obtain ⟨a, rfl, _, _, c0⟩ := elem1 hEL
      rw [Nat.mul_one] at c0
      clear hx hEL
      by_cases hxs : x = s
      · have hb : ((str x).toList == (str s).toList) = true := by rw [hxs]; simp
        have HN := Lib.hid (show l.contains s = true by rw [List.contains_iff_mem, ← hxs]; exact List.mem_of_getElem? HX.out)
        clear hxs
        go_wp2_with fail
        go_ret
        exact ⟨ret_bool (by simpa using HN.out.symm), rfl⟩
      · have hb : ((str x).toList == (str s).toList) = false := by rw [str_toL, str_toL]; simp; exact hxs
        have HN := Lib.hid (show s ∉ l.take (k + 1) by rw [take_snoc HX.out]; simp [HT.out, Ne.symm hxs])
        clear hxs
        go_wp2_with fail
        go_round
        case rel => exact ⟨k + 1, by omega, by go_num, HN.out⟩
        case measure => simp [intOf]; omega
    · have hke : k = l.length := by omega
      have HN := Lib.hid (show l.contains s = false by
        rw [Bool.eq_false_iff]
        intro h
        have := HT.out
        rw [hke, List.take_length] at this
        exact this (List.contains_iff_mem.1 h))
      clear hke
      go_wp2_with fail
      go_ret
      exact ⟨ret_bool (by simpa using HN.out.symm), rfl⟩
end Go.Proofs.YtifbdglhfoimjaaGreatDoor
