/-
  The reference's SameNames: two lists of names, one by one.
-/
import Derived.Test.YtaimagfdjbedeaaGreatDoorTreeEqS
import Derived.Deep.RegionHeld3
namespace Go.Proofs.YtaimagfdjbedeaaGreatDoor
open Go.RowKit

set_option maxHeartbeats 1000000 in
theorem rSameNames_any {w0 : World} {va vb : Value} {la lb : List Tx} (ha : StrsAt w0 va la) (hb : StrsAt w0 vb lb) :
    ∀ w, Below w0.heap.size w0 w → Calls Tryz.prog 16 #[va, vb] w (BoolPost (la == lb) w) := by
  intro w hw
  obtain ⟨A, ca, rfl, hca, hma, hea⟩ := ha
  obtain ⟨B, cb, rfl, hcb, hmb, heb⟩ := hb
  have hla : la.length ≤ 9223372036854775807 := by unfold maxLen at hma; omega
  have hlb : lb.length ≤ 9223372036854775807 := by unfold maxLen at hmb; omega
  have HW0 := Lib.hid hw
  have hsz0 := hw.size
  clear hw hca hma hcb hmb
  by_cases hlen : la.length = lb.length
  · have hd : ((la.length : Int) != (lb.length : Int)) = false := by simp [hlen]
    have HL := Lib.hid hlen
    clear hlen
    go_enter Tryz.func16, Tryz.ntmps16
    go_wp2_with fail
    go_loopg [5] la.length (fun g v wr => ∃ k : Nat, k + g = la.length ∧ v = .int .i64 k ∧ SameTo (fun a b => a == b) la lb k ∧ Below w.heap.size w wr)
    case atStart => exact ⟨0, by omega, rfl, SameTo.zero, Below.refl _ _⟩
    case round =>
      obtain ⟨k, hkg, rfl, hto, hbw⟩ := hrel
      obtain ⟨wq, rfl⟩ : ∃ W, W = wr := ⟨_, rfl⟩
      have HK := Lib.hid hkg
      have HW := Lib.hid hbw
      have HT := Lib.hid hto
      have hkl : k ≤ la.length := by omega
      clear hkg hbw hto
      by_cases hlt : k < la.length
      · have hlt2 : k < lb.length := by have := HL.out; omega
        obtain ⟨x, hx⟩ : ∃ x, la[k]? = some x := ⟨_, List.getElem?_eq_getElem hlt⟩
        obtain ⟨y, hy⟩ : ∃ y, lb[k]? = some y := ⟨_, List.getElem?_eq_getElem hlt2⟩
        obtain ⟨L, hEL, rfl, _⟩ := hea k x hx
        obtain ⟨M, hEM, rfl, _⟩ := heb k y hy
        have HB0 := Lib.hid (HW0.out.trans (HW.out.mono hsz0))
        obtain ⟨a, rfl, hab, haa, d0⟩ := elem1 (hEL.under HB0.out)
        obtain ⟨b, rfl, hbb, hba, e0⟩ := elem1 (hEM.under HB0.out)
        rw [Nat.mul_one] at d0 e0
        have HX := Lib.hid hx
        have HY := Lib.hid hy
        clear hEL hEM hea heb hx hy
        by_cases hxy : x = y
        · subst hxy
          go_wp2_with fail
          go_quiet (fail)
          go_wp2_with fail
          go_roundg (la.length - (k + 1))
          case measure => have := HK.out; omega
          case rel => exact ⟨k + 1, by omega, by go_num, HT.out.succ HX.out HY.out (by simp), below_drewN HW.out _⟩
        · have HXY := Lib.hid hxy
          have hne : ((str x).toList == (str y).toList) = false := by rw [str_toL, str_toL]; simpa using hxy
          have hne2 : ((str x).toList != (str y).toList) = true := by rw [str_toL, str_toL]; simpa using hxy
          clear hxy
          go_wp2_with fail
          go_quiet (fail)
          go_wp2_with fail
          go_ret
          exact ⟨ret_bool (by
            have : la ≠ lb := fun e => HXY.out (by have h1 := HX.out; rw [e, HY.out] at h1; exact (Option.some.inj h1).symm)
            simp [this]), below_drewN HW.out _⟩
      · have hke : k = la.length := by omega
        have HKE := Lib.hid hke
        clear hke
        go_wp2_with fail
        go_ret
        exact ⟨ret_bool (by rw [eq_take HL.out HT.out HKE.out]; simp), HW.out⟩
  · have hd : ((la.length : Int) != (lb.length : Int)) = true := by simp; omega
    have HL := Lib.hid hlen
    clear hlen
    go_enter Tryz.func16, Tryz.ntmps16
    go_wp2_with fail
    go_ret
    exact ⟨ret_bool (by
      have : la ≠ lb := fun e => HL.out (by rw [e])
      simp [this]), Below.refl _ _⟩
end Go.Proofs.YtaimagfdjbedeaaGreatDoor
namespace Go.Proofs.YtaimagfdjbedeaaGreatDoor
open Go.RowKit

end Go.Proofs.YtaimagfdjbedeaaGreatDoor
