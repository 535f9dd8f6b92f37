/-
  The reference's Right: field, then how large the nodes are.
-/
import Derived.Test.YtbpbnebcbjacdaaGreatTreeRRight
namespace Go.Proofs.YtbpbnebcbjacdaaGreat
open Go.RowKit

set_option maxHeartbeats 4000000 in
set_option maxRecDepth 100000 in
theorem rRight_any (made : Bool) {w0 : World} {L : List Value} {p : QProg} (hL : ProgAt w0 L p) (hq : ∀ x ∈ p.nodes, (nodeX x).length ≤ 1048576) : ∀ w, Below w0.heap.size w0 w → Calls Tryz.prog 20 #[.agg L.toArray, .bool made] w (IntPost (rightL made p) w) := by
  intro w hw
  have HF := Lib.hid (rField_any made hL)
  obtain ⟨ev, nv, rfl, he, hn⟩ := hL
  obtain ⟨A1, n1, k1, rfl⟩ := SliceAt.shape he
  obtain ⟨C, lc, rfl, hcc, hmc, hec⟩ := hn
  have h3 : p.nodes.length ≤ 9223372036854775807 := by unfold maxLen at hmc; omega
  have HEC := Lib.hid hec
  have HQ := Lib.hid hq
  have HW := Lib.hid hw
  have hsz := hw.size
  clear hw he hcc hmc hec hq
  cases hr : rightP made p
  · rw [hr] at HF
    have HR := Lib.hid hr
    clear hr
    go_enter Tryz.func20, Tryz.ntmps20
    go_wp2_with (go_at_call 34; (with_reducible refine (HF.out _ (HW.out.alloc (by omega) _)).mono ?_); rintro e w1 ⟨rfl, hb1⟩)
    go_ret
    exact ⟨ret_int (by rw [rightL, HR.out]; rfl), ((Below.refl _ w).alloc (Nat.le_refl _) _).trans (hb1.mono (by simp))⟩
  · rw [hr] at HF
    have HR := Lib.hid hr
    clear hr
    go_enter Tryz.func20, Tryz.ntmps20
    go_wp2_with (go_at_call 34; (with_reducible refine (HF.out _ (HW.out.alloc (by omega) _)).mono ?_); rintro e w1 ⟨rfl, hb1⟩; obtain ⟨V, rfl⟩ : ∃ W, W = w1 := ⟨_, rfl⟩; have BV := Lib.hid (box_next hb1 (heap_alloc_new w _)); have HV := Lib.hid (((Below.refl _ w).alloc (Nat.le_refl _) _).trans (hb1.mono (by simp))); obtain ⟨p0, p1⟩ := row2 BV.out; clear hb1)
    clear p0 p1
    go_loopg [5] p.nodes.length (fun g v wr => ∃ k : Nat, k + g = p.nodes.length ∧ v = .int .i64 k ∧ AllTo (fun y => !largeN y) p.nodes k ∧ Below V.heap.size V wr)
    case atStart => exact ⟨0, by omega, rfl, AllTo.zero, Below.refl _ _⟩
    case round =>
      obtain ⟨k, hkg, rfl, hto, hbw⟩ := hrel
      obtain ⟨wn, rfl⟩ : ∃ W, W = wr := ⟨_, rfl⟩
      have HK := Lib.hid hkg
      have HT := Lib.hid hto
      have HVN := Lib.hid hbw
      have HN0 := Lib.hid (HV.out.trans (hbw.mono HV.out.size))
      have HBN := Lib.hid (HW.out.trans (HN0.out.mono hsz))
      have BN := Lib.hid (box_next hbw BV.out)
      obtain ⟨p0, p1⟩ := row2 BN.out
      have hkl : k ≤ p.nodes.length := by omega
      clear hkg hto hbw
      by_cases hlt : k < p.nodes.length
      · obtain ⟨x, hx⟩ : ∃ x, p.nodes[k]? = some x := ⟨_, List.getElem?_eq_getElem hlt⟩
        obtain ⟨X, hEX, hNX⟩ := HEC.out k x hx
        have HE := Lib.hid (rExprs_any hNX (HQ.out x (List.mem_of_getElem? hx)))
        obtain ⟨s0, XA, xa1, xa2, XB, xb1, xb2, XC, xc1, xc2, XD, xd1, xd2, rfl⟩ := hNX.shape
        obtain ⟨a1, rfl, hab, haa, x0, x1, x2, x3, x4⟩ := elem5 (hEX.under HBN.out)
        have HX := Lib.hid hx
        clear hx hEX hNX
        go_wp2_with (go_at_call 35; (with_reducible refine (HE.out _ HBN.out).mono ?_); rintro e w2 ⟨v, rfl, ho, hb2⟩; obtain ⟨V2, rfl⟩ : ∃ W, W = w2 := ⟨_, rfl⟩; have HB2 := Lib.hid (HBN.out.trans (hb2.mono HBN.out.size)); have HV2 := Lib.hid (HVN.out.trans (hb2.mono HVN.out.size)); have HN2 := Lib.hid (HN0.out.trans (hb2.mono HN0.out.size)); obtain ⟨A, ca, rfl, hca, hma, hea⟩ := ho.slice HB2.out; have hla : (nodeX x).length ≤ 9223372036854775807 := (by unfold maxLen at hma; omega); have HEA := Lib.hid hea; clear hb2 ho hca hma hea)
        clear p0 p1 x0 x1 x2 x3 x4
        generalize hxs : nodeX x = xs at *
        have HXS := Lib.hid hxs
        clear hxs
        go_loopg [7, 8] xs.length (fun g s v wr => ∃ (k2 : Nat) (n : Int), k2 + g = xs.length ∧ v = .int .i64 k2 ∧ s = .int .i64 n ∧ largeF 0 xs = largeF n (xs.drop k2) ∧ Below V2.heap.size V2 wr)
        case atStart => exact ⟨0, 0, by omega, rfl, rfl, by simp, Below.refl _ _⟩
        case round =>
          obtain ⟨k2, n, hkg2, rfl, rfl, hF, hbw2⟩ := hrel
          obtain ⟨wy, rfl⟩ : ∃ W, W = wr := ⟨_, rfl⟩
          have HK2 := Lib.hid hkg2
          have HB := Lib.hid hbw2
          have HF2 := Lib.hid hF
          have hkl2 : k2 ≤ xs.length := by omega
          clear hkg2 hbw2 hF
          by_cases hlt2 : k2 < xs.length
          · obtain ⟨y, hy⟩ : ∃ y, xs[k2]? = some y := ⟨_, List.getElem?_eq_getElem hlt2⟩
            have HD := Lib.hid (drop_cons' hy)
            obtain ⟨M, hEM, hRM⟩ := HEA.out k2 y hy
            have HRM := Lib.hid hRM
            obtain ⟨o1, s1, m1, B1, q1, r1, B2, q2, r2, rfl⟩ := hRM.shape
            have EM := Lib.hid hEM
            obtain ⟨a, rfl, hab2, haa2, d0, d1, d2, d3, d4⟩ := elem5 (hEM.under HB.out)
            clear hEM hRM hy
            by_cases hdp : 40 < depthW y
            · have HDP := Lib.hid hdp
              go_wp2_with (first
                | (go_at_call 36
                   (with_reducible refine (rSize_any HRM.out _ HB.out).mono ?_)
                   rintro e w7 ⟨rfl, hb7⟩
                   obtain ⟨z0, rfl⟩ : ∃ W, W = w7 := ⟨_, rfl⟩
                   have B7 := Lib.hid (HB.out.trans (hb7.mono HB.out.size))
                   obtain ⟨_, ea, _, _, d0, d1, d2, d3, d4⟩ := elem5 (EM.out.under B7.out)
                   obtain rfl := Option.some.inj ea
                   clear hb7)
                | (go_at_call 37
                   (with_reducible refine (rDepth_any HRM.out _ B7.out).mono ?_)
                   rintro e w8 ⟨rfl, hb8⟩
                   have B8 := Lib.hid (B7.out.trans (hb8.mono B7.out.size))
                   clear hb8))
              all_goals try (exfalso; omega)
              have LG := Lib.hid (show largeN x = true by rw [largeN, HXS.out, HF2.out, HD.out, largeF, if_pos HDP.out])
              go_ret
              exact ⟨ret_int (by rw [rightL, HR.out, if_pos rfl, if_pos (List.any_eq_true.2 ⟨x, List.mem_of_getElem? HX.out, LG.out⟩)]), HN2.out.trans (B8.out.mono HN2.out.size)⟩
            · have HDP := Lib.hid hdp
              have hdp' : depthW y ≤ 40 := by omega
              clear hdp
              go_wp2_with (first
                | (go_at_call 36
                   (with_reducible refine (rSize_any HRM.out _ HB.out).mono ?_)
                   rintro e w7 ⟨rfl, hb7⟩
                   obtain ⟨z0, rfl⟩ : ∃ W, W = w7 := ⟨_, rfl⟩
                   have B7 := Lib.hid (HB.out.trans (hb7.mono HB.out.size))
                   obtain ⟨_, ea, _, _, d0, d1, d2, d3, d4⟩ := elem5 (EM.out.under B7.out)
                   obtain rfl := Option.some.inj ea
                   clear hb7)
                | (go_at_call 37
                   (with_reducible refine (rDepth_any HRM.out _ B7.out).mono ?_)
                   rintro e w8 ⟨rfl, hb8⟩
                   have B8 := Lib.hid (B7.out.trans (hb8.mono B7.out.size))
                   clear hb8))
              all_goals try (exfalso; omega)
              go_roundg (xs.length - (k2 + 1))
              case measure => have := HK2.out; omega
              case rel => exact ⟨k2 + 1, wrap64 (n + sizeW y), by omega, by go_num, rfl, by rw [HF2.out, HD.out, largeF, if_neg (by have := HDP.out; omega)], B8.out⟩
          · have hke2 : k2 = xs.length := by omega
            have HLN := Lib.hid (show largeN x = decide (300 < n) by rw [largeN, HXS.out, HF2.out, hke2, List.drop_length, largeF])
            clear hke2
            by_cases h300 : 300 < n
            · have LG := Lib.hid (show largeN x = true by rw [HLN.out]; exact decide_eq_true h300)
              go_wp2_with fail
              all_goals try (exfalso; omega)
              go_ret
              exact ⟨ret_int (by rw [rightL, HR.out, if_pos rfl, if_pos (List.any_eq_true.2 ⟨x, List.mem_of_getElem? HX.out, LG.out⟩)]), HN2.out.trans (HB.out.mono HN2.out.size)⟩
            · have LG := Lib.hid (show (!largeN x) = true by rw [HLN.out, decide_eq_false h300]; rfl)
              go_wp2_with fail
              all_goals try (exfalso; omega)
              go_roundg (p.nodes.length - (k + 1))
              case measure => have := HK.out; omega
              case rel => exact ⟨k + 1, by omega, by go_num, HT.out.succ HX.out LG.out, HV2.out.trans (HB.out.mono HV2.out.size)⟩
      · have hke : k = p.nodes.length := by omega
        have NOBIG := Lib.hid (any_no (HT.out.all hke))
        clear hke
        go_wp2_with fail
        go_ret
        exact ⟨ret_int (by rw [rightL, HR.out, if_pos rfl, NOBIG.out]; rfl), HN0.out⟩
end Go.Proofs.YtbpbnebcbjacdaaGreat
