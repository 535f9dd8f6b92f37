/-
  Contracts of Size and Depth, the program's and the reference's, for every expression.
-/
import Derived.Test.YtaimagfdjbedeaaGreatDoorTreeMem
namespace Go.Proofs.YtaimagfdjbedeaaGreatDoor
open Go.RowKit

set_option maxHeartbeats 1000000 in
theorem size_any {w0 : World} {L : List Value} {x : Ex} (h : ExAt w0 L x) : ∀ w, Below w0.heap.size w0 w → Calls Tryz.prog 8 #[.agg L.toArray] w (IntPost (sizeW x) w) := by
  induction h with
  | @mk op nm n cs ks cv A c C hop hnm hn hcs hl hc hk hx ih =>
    intro w hb
    have HB := Lib.hid hb
    have hlm : ks.length ≤ 9223372036854775807 := by unfold maxLen at hc; omega
    have hsz0 := hb.size
    clear hop hn hcs hb hl hc hnm
    go_enter Tryz.func8, Tryz.ntmps8
    go_wp2_with fail
    go_loopg [3, 9] ks.length (fun g s v wr => ∃ k : Nat, k + g = ks.length ∧ v = .int .i64 k ∧ s = .int .i64 (sizeF 1 (ks.take k)) ∧ Below w.heap.size w wr)
    case atStart => exact ⟨0, by omega, rfl, by simp [sizeF], (Below.refl _ _).alloc (Nat.le_refl _) _⟩
    case round =>
      obtain ⟨k, hkg, rfl, rfl, hbw⟩ := hrel
      have HK := Lib.hid hkg
      have HW := Lib.hid hbw
      have hszw := hbw.size
      have hkl : k ≤ ks.length := by omega
      clear hkg hbw
      by_cases hlt : k < ks.length
      · obtain ⟨y, hy⟩ : ∃ y, ks[k]? = some y := ⟨_, List.getElem?_eq_getElem hlt⟩
        have hC := hk k y hy
        have hih := Lib.hid (ih k y hy)
        have hxk := hx k y hy
        have HS := Lib.hid (show sizeF 1 (ks.take (k + 1)) = _ by rw [take_snoc hy, sizeF_snoc])
        obtain ⟨o1, s1, n1, A1, m1, k1, A2, m2, k2, hL⟩ := hxk.shape
        generalize C k = L at hC hih hxk hL
        subst hL
        clear hy hxk hk hx ih
        have hB0 := Lib.hid ((HB.out.trans (HW.out.mono hsz0)))
        obtain ⟨a, rfl, ha, haa, d0, d1, d2, d3, d4⟩ := elem5 (hC.under hB0.out)
        clear hC
        go_wp2_with (go_at_call 8; refine (hih.out _ (hB0.out.alloc (by omega) _)).mono ?_; rintro e w1 ⟨rfl, hb1⟩)
        go_roundg (ks.length - (k + 1))
        case measure => have := HK.out; omega
        case rel => exact ⟨k + 1, by omega, by go_num, by rw [HS.out], (HW.out.alloc (by omega) _).trans (hb1.mono (by simp; omega))⟩
      · have hke : k = ks.length := by omega
        have HKE := Lib.hid hke
        clear hke
        go_wp2_with fail
        go_ret
        exact ⟨ret_int (by rw [HKE.out, List.take_length, sizeW]), HW.out⟩
set_option maxHeartbeats 1000000 in
theorem depth_any {w0 : World} {L : List Value} {x : Ex} (h : ExAt w0 L x) : ∀ w, Below w0.heap.size w0 w → Calls Tryz.prog 80 #[.agg L.toArray] w (IntPost (depthW x) w) := by
  induction h with
  | @mk op nm n cs ks cv A c C hop hnm hn hcs hl hc hk hx ih =>
    intro w hb
    have HB := Lib.hid hb
    have hlm : ks.length ≤ 9223372036854775807 := by unfold maxLen at hc; omega
    have hsz0 := hb.size
    clear hop hn hcs hb hl hc hnm
    go_enter Tryz.func80, Tryz.ntmps80
    go_wp2_with fail
    go_loopg [3, 9] ks.length (fun g s v wr => ∃ k : Nat, k + g = ks.length ∧ v = .int .i64 k ∧ s = .int .i64 (depthF 0 (ks.take k)) ∧ Below w.heap.size w wr)
    case atStart => exact ⟨0, by omega, rfl, by simp [depthF], (Below.refl _ _).alloc (Nat.le_refl _) _⟩
    case round =>
      obtain ⟨k, hkg, rfl, rfl, hbw⟩ := hrel
      have HK := Lib.hid hkg
      have HW := Lib.hid hbw
      have hszw := hbw.size
      have hkl : k ≤ ks.length := by omega
      clear hkg hbw
      by_cases hlt : k < ks.length
      · obtain ⟨y, hy⟩ : ∃ y, ks[k]? = some y := ⟨_, List.getElem?_eq_getElem hlt⟩
        have hC := hk k y hy
        have hih := Lib.hid (ih k y hy)
        have hxk := hx k y hy
        have HS := Lib.hid (show depthF 0 (ks.take (k + 1)) = _ by rw [take_snoc hy, depthF_snoc])
        obtain ⟨o1, s1, n1, A1, m1, k1, A2, m2, k2, hL⟩ := hxk.shape
        generalize C k = L at hC hih hxk hL
        subst hL
        clear hy hxk hk hx ih
        have hB0 := Lib.hid ((HB.out.trans (HW.out.mono hsz0)))
        obtain ⟨a, rfl, ha, haa, d0, d1, d2, d3, d4⟩ := elem5 (hC.under hB0.out)
        clear hC
        go_wp2_with (go_at_call 80; refine (hih.out _ (hB0.out.alloc (by omega) _)).mono ?_; rintro e w1 ⟨rfl, hb1⟩)
        all_goals
          go_roundg (ks.length - (k + 1))
          case measure => have := HK.out; omega
          case rel => exact ⟨k + 1, by omega, by go_num, by rw [HS.out]; congr 1; omega, (HW.out.alloc (by omega) _).trans (hb1.mono (by simp; omega))⟩
      · have hke : k = ks.length := by omega
        have HKE := Lib.hid hke
        clear hke
        go_wp2_with fail
        go_ret
        exact ⟨ret_int (by rw [HKE.out, List.take_length, depthW]), HW.out⟩
end Go.Proofs.YtaimagfdjbedeaaGreatDoor
