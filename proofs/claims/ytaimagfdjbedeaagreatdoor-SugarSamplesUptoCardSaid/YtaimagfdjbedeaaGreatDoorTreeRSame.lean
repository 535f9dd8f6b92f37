/-
  The reference's SameExpr.
-/
import Derived.Test.YtaimagfdjbedeaaGreatDoorTreeRNm
import Derived.Test.YtaimagfdjbedeaaGreatDoorTreeSamX
import Derived.Deep.RegionHeld3
namespace Go.Proofs.YtaimagfdjbedeaaGreatDoor
open Go.RowKit

theorem sameX_no {o o' n n' : Int} {a a' : Tx} {c c' : List Tx} {k k' : List Ex} (h : ¬ (o = o' ∧ a = a' ∧ n = n' ∧ c = c')) : sameX (.mk o a n c k) (.mk o' a' n' c' k') = false := by
  rw [Bool.eq_false_iff]
  intro e
  rw [sameX_iff] at e
  injection e with e1 e2 e3 e4 _
  exact h ⟨e1, e2, e3, e4⟩
theorem sameX_len {o o' n n' : Int} {a a' : Tx} {c c' : List Tx} {k k' : List Ex} (h : k.length ≠ k'.length) : sameX (.mk o a n c k) (.mk o' a' n' c' k') = false := by
  rw [Bool.eq_false_iff]
  intro e
  rw [sameX_iff] at e
  injection e with _ _ _ _ e5
  exact h (by rw [e5])
theorem sameX_ks {o n : Int} {a : Tx} {c : List Tx} {k k' : List Ex} : sameX (.mk o a n c k) (.mk o a n c k') = sameBy sameX k k' := by
  simp [sameX, sameXs_by]
set_option maxHeartbeats 2000000 in
set_option maxRecDepth 100000 in
theorem rSameExpr_any {w0 : World} : ∀ (x : Ex) (y : Ex) (L M : List Value), ExAt w0 L x → ExAt w0 M y → ∀ w, Below w0.heap.size w0 w → Calls Tryz.prog 6 #[.agg L.toArray, .agg M.toArray] w (BoolPost (sameX x y) w) := by
  intro x
  induction x using Ex.ind with
  | h o a n c ks ih =>
    intro y L M hL hM w hw
    obtain ⟨o', a', n', c', ks'⟩ := y
    obtain ⟨cv, kv, rfl, _, _, _, hc, hk⟩ := hL.open_
    obtain ⟨cv', kv', rfl, _, _, _, hc', hk'⟩ := hM.open_
    have HC := Lib.hid (rSameNames_any hc hc')
    obtain ⟨A1, m1, k1, rfl⟩ := SliceAt.shape hc
    obtain ⟨A2, m2, k2, rfl⟩ := SliceAt.shape hc'
    obtain ⟨A, ca, rfl, _, hma, hea⟩ := hk
    obtain ⟨B, cb, rfl, _, hmb, heb⟩ := hk'
    have hla : ks.length ≤ 9223372036854775807 := by unfold maxLen at hma; omega
    have hlb : ks'.length ≤ 9223372036854775807 := by unfold maxLen at hmb; omega
    have HEA := Lib.hid hea
    have HEB := Lib.hid heb
    have HIH := Lib.hid ih
    have HW := Lib.hid hw
    have hsz := hw.size
    clear hL hM hw hc hc' hma hmb hea heb ih
    by_cases e0 : o = o'
    · subst e0
      by_cases e1 : a = a'
      · subst e1
        by_cases e2 : n = n'
        · subst e2
          by_cases e3 : c = c'
          · subst e3
            rw [show (c == c) = true by simp] at HC
            by_cases e4 : ks.length = ks'.length
            · have hd : ((ks.length : Int) != (ks'.length : Int)) = false := by simp [e4]
              have HL := Lib.hid e4
              clear e4
              go_enter Tryz.func6, Tryz.ntmps6
              go_wp2_with (go_at_call 16
                           refine (HC.out _ ((HW.out.alloc hsz _).alloc (by simp; omega) _)).mono ?_
                           rintro e w1 ⟨rfl, hb1⟩
                           have hs1 := hb1.size
                           simp only [World.size_alloc] at hs1
                           have bx := box_a hb1
                           have by_ := box_b hb1
                           obtain ⟨p0, p1, p2, p3, p4⟩ := row5 bx
                           obtain ⟨r0, r1, r2, r3, r4⟩ := row5 by_
                           have BX := Lib.hid bx
                           have BY := Lib.hid by_
                           have HB1 := Lib.hid ((((Below.refl _ w).alloc (Nat.le_refl _) _).alloc (by simp) _).trans (hb1.mono (by simp; omega)))
                           clear hb1 bx by_)
              clear p0 p1 p2 p3 p4 r0 r1 r2 r3 r4
              go_loopg [5] ks.length (fun g v wr => ∃ k : Nat, k + g = ks.length ∧ v = .int .i64 k ∧ SameTo sameX ks ks' k ∧ Below w1.heap.size w1 wr)
              case atStart => exact ⟨0, by omega, rfl, SameTo.zero, Below.refl _ _⟩
              case round =>
                obtain ⟨k, hkg, rfl, hto, hbw⟩ := hrel
                obtain ⟨wq, rfl⟩ : ∃ W, W = wr := ⟨_, rfl⟩
                have HK := Lib.hid hkg
                have HT := Lib.hid hto
                have HW1 := Lib.hid hbw
                have HQ := Lib.hid (HB1.out.trans (hbw.mono (by omega)))
                have HBQ := Lib.hid (HW.out.trans (HQ.out.mono hsz))
                have bx := box_next hbw BX.out
                have by_ := box_next hbw BY.out
                obtain ⟨p0, p1, p2, p3, p4⟩ := row5 bx
                obtain ⟨r0, r1, r2, r3, r4⟩ := row5 by_
                have hkl : k ≤ ks.length := by omega
                clear hkg hto hbw bx by_
                by_cases hlt : k < ks.length
                · have hlt2 : k < ks'.length := by have := HL.out; omega
                  obtain ⟨x, hx⟩ : ∃ x, ks[k]? = some x := ⟨_, List.getElem?_eq_getElem hlt⟩
                  obtain ⟨y, hy⟩ : ∃ y, ks'[k]? = some y := ⟨_, List.getElem?_eq_getElem hlt2⟩
                  obtain ⟨X, hEX, hRX⟩ := HEA.out k x hx
                  obtain ⟨Y, hEY, hRY⟩ := HEB.out k y hy
                  have HF := Lib.hid (HIH.out x (List.mem_of_getElem? hx) y X Y hRX hRY)
                  obtain ⟨x0, x1, x2, X3, x4, x5, X6, x7, x8, rfl⟩ := hRX.shape
                  obtain ⟨y0, y1, y2, Y3, y4, y5, Y6, y7, y8, rfl⟩ := hRY.shape
                  obtain ⟨a1, rfl, hab, haa, d0, d1, d2, d3, d4⟩ := elem5 (hEX.under HBQ.out)
                  obtain ⟨b1, rfl, hbb, hba, f0, f1, f2, f3, f4⟩ := elem5 (hEY.under HBQ.out)
                  have HX := Lib.hid hx
                  have HY := Lib.hid hy
                  clear hx hy hEX hEY hRX hRY
                  cases hs : sameX x y
                  · have HS := Lib.hid hs
                    rw [hs] at HF
                    clear hs
                    go_wp2_with fail
                    go_region_with (go_at_call 6; refine (HF.out _ HBQ.out.drew).mono ?_; rintro e w2 ⟨rfl, hb2⟩)
                    all_goals go_wp2_with fail
                    all_goals go_ret
                    all_goals exact ⟨ret_bool (by rw [sameX_ks, sameBy_no HX.out HY.out HS.out]), HQ.out.drew.trans (hb2.mono HQ.out.size)⟩
                  · have HS := Lib.hid hs
                    rw [hs] at HF
                    clear hs
                    go_wp2_with fail
                    go_region_with (go_at_call 6; refine (HF.out _ HBQ.out.drew).mono ?_; rintro e w2 ⟨rfl, hb2⟩)
                    all_goals go_wp2_with fail
                    all_goals
                      go_roundg (ks.length - (k + 1))
                      case measure => have := HK.out; omega
                      case rel => exact ⟨k + 1, by omega, by go_num, HT.out.succ HX.out HY.out HS.out, HW1.out.drew.trans (hb2.mono HW1.out.size)⟩
                · have hke : k = ks.length := by omega
                  have HKE := Lib.hid hke
                  clear hke
                  go_wp2_with fail
                  go_ret
                  exact ⟨ret_bool (by rw [sameX_ks, HT.out.all HL.out HKE.out]), HQ.out⟩
            · have hd : ((ks.length : Int) != (ks'.length : Int)) = true := by simp; omega
              have HN := Lib.hid e4
              clear e4
              go_enter Tryz.func6, Tryz.ntmps6
              go_wp2_with (go_at_call 16; refine (HC.out _ ((HW.out.alloc hsz _).alloc (by simp; omega) _)).mono ?_; rintro e w1 ⟨rfl, hb1⟩; have bx := box_a hb1; have by_ := box_b hb1; obtain ⟨p0, p1, p2, p3, p4⟩ := row5 bx; obtain ⟨r0, r1, r2, r3, r4⟩ := row5 by_; have HB1 := Lib.hid ((((Below.refl _ w).alloc (Nat.le_refl _) _).alloc (by simp) _).trans (hb1.mono (by simp; omega))); clear hb1 bx by_)
              go_ret
              exact ⟨ret_bool (by rw [sameX_len HN.out]), HB1.out⟩
          · have HN := Lib.hid e3
            rw [show (c == c') = false by simpa using e3] at HC
            clear e3
            go_enter Tryz.func6, Tryz.ntmps6
            go_wp2_with (go_at_call 16; refine (HC.out _ ((HW.out.alloc hsz _).alloc (by simp; omega) _)).mono ?_; rintro e w1 ⟨rfl, hb1⟩; have bx := box_a hb1; have by_ := box_b hb1; obtain ⟨p0, p1, p2, p3, p4⟩ := row5 bx; obtain ⟨r0, r1, r2, r3, r4⟩ := row5 by_; have HB1 := Lib.hid ((((Below.refl _ w).alloc (Nat.le_refl _) _).alloc (by simp) _).trans (hb1.mono (by simp; omega))); clear hb1 bx by_)
            go_ret
            exact ⟨ret_bool (by rw [sameX_no (fun h => HN.out h.2.2.2)]), HB1.out⟩
        · have HN := Lib.hid e2
          have hd : (n != n') = true := by simpa using e2
          clear e2
          go_enter Tryz.func6, Tryz.ntmps6
          go_wp2_with fail
          go_ret
          exact ⟨ret_bool (by rw [sameX_no (fun h => HN.out h.2.2.1)]), ((Below.refl _ w).alloc (Nat.le_refl _) _).alloc (by simp) _⟩
      · have HN := Lib.hid e1
        have hd : ((str a).toList != (str a').toList) = true := by rw [str_toL, str_toL]; simpa using e1
        have hd2 : ((str a).toList == (str a').toList) = false := by rw [str_toL, str_toL]; simpa using e1
        clear e1
        go_enter Tryz.func6, Tryz.ntmps6
        go_wp2_with fail
        go_ret
        exact ⟨ret_bool (by rw [sameX_no (fun h => HN.out h.2.1)]), ((Below.refl _ w).alloc (Nat.le_refl _) _).alloc (by simp) _⟩
    · have HN := Lib.hid e0
      have hd : (o != o') = true := by simpa using e0
      clear e0
      go_enter Tryz.func6, Tryz.ntmps6
      go_wp2_with fail
      go_ret
      exact ⟨ret_bool (by rw [sameX_no (fun h => HN.out h.1)]), ((Below.refl _ w).alloc (Nat.le_refl _) _).alloc (by simp) _⟩
end Go.Proofs.YtaimagfdjbedeaaGreatDoor
