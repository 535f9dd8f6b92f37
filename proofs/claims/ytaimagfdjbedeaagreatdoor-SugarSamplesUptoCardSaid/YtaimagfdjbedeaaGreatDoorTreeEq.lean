/-
  Contracts of slices.EqualFunc at the seven types of a tree, with the program's own comparisons.
-/
import Derived.Test.YtaimagfdjbedeaaGreatDoorTreeMem
namespace Go.Proofs.YtaimagfdjbedeaaGreatDoor
open Go.RowKit

set_option maxHeartbeats 1000000 in
theorem eqF_Expr {w0 : World} {va vb : Value} {la lb : List Ex} (ha : SliceAt w0 (ExAt w0) va la) (hb : SliceAt w0 (ExAt w0) vb lb)
    (hf : ∀ x ∈ la, ∀ y ∈ lb, ∀ L M, ExAt w0 L x → ExAt w0 M y → ∀ w, Below w0.heap.size w0 w → Calls Tryz.prog 157 #[.agg L.toArray, .agg M.toArray] w (BoolPost (sameX x y) w)) :
    ∀ w, Below w0.heap.size w0 w → Calls Tryz.prog 185 #[va, vb, .func (.func 157) #[] #[]] w (BoolPost (sameBy sameX la lb) w) := by
  intro w hw
  obtain ⟨A, ca, rfl, hca, hma, hea⟩ := ha
  obtain ⟨B, cb, rfl, hcb, hmb, heb⟩ := hb
  have hla : la.length ≤ 9223372036854775807 := by unfold maxLen at hma; omega
  have HW0 := Lib.hid hw
  have hsz0 := hw.size
  clear hw hca hma hcb hmb
  by_cases hlen : la.length = lb.length
  · have hd : ((la.length : Int) != (lb.length : Int)) = false := by simp [hlen]
    have HL := Lib.hid hlen
    clear hlen
    go_enter Tryz.func185, Tryz.ntmps185
    go_wp2_with fail
    go_loopg [17] la.length (fun g v wr => ∃ k : Nat, k + g = la.length ∧ v = .int .i64 k ∧ SameTo sameX la lb k ∧ Below w.heap.size w wr)
    case atStart => exact ⟨0, by omega, rfl, SameTo.zero, Below.refl _ _⟩
    case round =>
      obtain ⟨k, hkg, rfl, hto, hbw⟩ := hrel
      have HK := Lib.hid hkg
      have HW := Lib.hid hbw
      have HT := Lib.hid hto
      have hszw := hbw.size
      have hkl : k ≤ la.length := by omega
      clear hkg hbw hto
      by_cases hlt : k < la.length
      · obtain ⟨x, hx⟩ : ∃ x, la[k]? = some x := ⟨_, List.getElem?_eq_getElem hlt⟩
        have hltb : k < lb.length := by rw [← HL.out]; exact hlt
        obtain ⟨y, hy⟩ : ∃ y, lb[k]? = some y := ⟨_, List.getElem?_eq_getElem hltb⟩
        obtain ⟨L, hEL, hRL⟩ := hea k x hx
        obtain ⟨M, hEM, hRM⟩ := heb k y hy
        obtain ⟨po0, ps1, po2, pA3, pn3, pk3, pA4, pn4, pk4, rfl⟩ := ExAt.shape hRL
        obtain ⟨qo0, qs1, qo2, qA3, qn3, qk3, qA4, qn4, qk4, rfl⟩ := ExAt.shape hRM
        have HF := Lib.hid (hf x (List.mem_of_getElem? hx) y (List.mem_of_getElem? hy) _ _ hRL hRM)
        have HB0 := Lib.hid (HW0.out.trans (HW.out.mono hsz0))
        have HX := Lib.hid hx
        have HY := Lib.hid hy
        obtain ⟨a, rfl, hab, haa, d0, d1, d2, d3, d4⟩ := elem5 (hEL.under HB0.out)
        obtain ⟨b, rfl, hbb, hbc, e0, e1, e2, e3, e4⟩ := elem5 (hEM.under HB0.out)
        clear hRL hRM hEL hEM hea heb hf hx hy
        cases hfx : sameX x y
        · have HFX := Lib.hid hfx
          rw [hfx] at HF
          clear hfx
          go_wp2_with (go_at_call 157; refine (HF.out _ ((HB0.out.alloc (by omega) _).alloc (by simp; omega) _)).mono ?_; rintro e w1 ⟨rfl, hb1⟩)
          go_ret
          exact ⟨ret_bool (sameBy_no HX.out HY.out HFX.out).symm, ((HW.out.alloc (by omega) _).alloc (by simp; omega) _).trans (hb1.mono (by simp; omega))⟩
        · have HFX := Lib.hid hfx
          rw [hfx] at HF
          clear hfx
          go_wp2_with (go_at_call 157; refine (HF.out _ ((HB0.out.alloc (by omega) _).alloc (by simp; omega) _)).mono ?_; rintro e w1 ⟨rfl, hb1⟩)
          go_roundg (la.length - (k + 1))
          case measure => have := HK.out; omega
          case rel => exact ⟨k + 1, by omega, by go_num, HT.out.succ HX.out HY.out HFX.out, ((HW.out.alloc (by omega) _).alloc (by simp; omega) _).trans (hb1.mono (by simp; omega))⟩
      · have hke : k = la.length := by omega
        have HKE := Lib.hid hke
        clear hke
        go_wp2_with fail
        go_ret
        exact ⟨ret_bool (HT.out.all HL.out HKE.out).symm, HW.out⟩
  · have hd : ((la.length : Int) != (lb.length : Int)) = true := by simp; omega
    have HL := Lib.hid hlen
    clear hlen
    go_enter Tryz.func185, Tryz.ntmps185
    go_wp2_with fail
    go_ret
    exact ⟨ret_bool (sameBy_len HL.out).symm, Below.refl _ _⟩
end Go.Proofs.YtaimagfdjbedeaaGreatDoor
