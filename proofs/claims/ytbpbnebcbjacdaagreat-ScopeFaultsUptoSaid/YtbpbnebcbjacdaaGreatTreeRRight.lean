/-
  The reference's field, Right.
-/
import Derived.Test.YtbpbnebcbjacdaaGreatTreeRItem
import Derived.Test.YtbpbnebcbjacdaaGreatTreeRExprs
import Derived.Test.YtbpbnebcbjacdaaGreatTreeRight
namespace Go.Proofs.YtbpbnebcbjacdaaGreat
open Go.RowKit

theorem rightP_len {made : Bool} {p : QProg} (h : 32 < p.enums.length ∨ (made = false ∧ 8 < p.enums.length) ∨ p.nodes.length < 1 ∨ 16 < p.nodes.length) : rightP made p = false := by
  rw [Bool.eq_false_iff]
  intro e
  simp only [rightP, Bool.and_eq_true, allM, decide_eq_true_eq] at e
  obtain ⟨⟨⟨_, h1⟩, _⟩, ⟨⟨h2, h3⟩, _⟩⟩ := e
  cases made
  · have h1 : p.enums.length ≤ 8 := h1
    rcases h with h | ⟨_, h⟩ | h | h <;> omega
  · have h1 : p.enums.length ≤ 32 := h1
    rcases h with h | ⟨h, _⟩ | h | h
    · omega
    · cases h
    · omega
    · omega
theorem rightP_rest {made : Bool} {p : QProg} (h : ¬(32 < p.enums.length ∨ (made = false ∧ 8 < p.enums.length) ∨ p.nodes.length < 1 ∨ 16 < p.nodes.length)) : rightP made p = (p.enums.all (rightEnum made) && p.nodes.all (rightNode made)) := by
  have h1 : p.enums.length ≤ enumsM made := by
    cases made
    · show p.enums.length ≤ 8
      exact Nat.le_of_not_lt fun e => h (.inr (.inl ⟨rfl, e⟩))
    · show p.enums.length ≤ 32
      omega
  have h2 : 1 ≤ p.nodes.length ∧ p.nodes.length ≤ 16 := by omega
  simp [rightP, allM, h1, h2]
theorem rightNode_split (made : Bool) (n : QNode) (hm : n.items.length ≤ 9223372036854775807) : rightNode made n = (nameM made n.name && ((decide ((0 : Int) ≤ n.funs.length) && decide ((n.funs.length : Int) ≤ 6) && n.funs.all (nameM made)) && ((decide ((1 : Int) ≤ n.ins.length) && decide ((n.ins.length : Int) ≤ 6) && n.ins.all (nameM made)) && ((decide ((1 : Int) ≤ n.outs.length) && decide ((n.outs.length : Int) ≤ 6) && n.outs.all (nameM made)) && ((made || decide (n.items.length ≤ 24)) && n.items.all (rightItem made)))))) := by
  have h : allM n.items 0 (itemsM made) (rightItem made) = ((made || decide (n.items.length ≤ 24)) && n.items.all (rightItem made)) := by
    cases made <;> simp [allM, itemsM, hm]
  rw [rightNode, h]
  congr 1
  congr 1
  · exact allM_int n.funs 0 6 _
  · congr 1
    · exact allM_int n.ins 1 6 _
    · congr 1
      exact allM_int n.outs 1 6 _
set_option maxHeartbeats 4000000 in
set_option maxRecDepth 100000 in
theorem rField_any (made : Bool) {w0 : World} {L : List Value} {p : QProg} (hL : ProgAt w0 L p) : ∀ w, Below w0.heap.size w0 w → Calls Tryz.prog 34 #[.agg L.toArray, .bool made] w (BoolPost (rightP made p) w) := by
  intro w hw
  obtain ⟨ev, nv, rfl, ⟨A, ka, rfl, hca, hma, hea⟩, ⟨C, la, rfl, hcc, hmc, hec⟩⟩ := hL
  have h1 : p.enums.length ≤ 9223372036854775807 := by unfold maxLen at hma; omega
  have h3 : p.nodes.length ≤ 9223372036854775807 := by unfold maxLen at hmc; omega
  have HEA := Lib.hid hea
  have HEC := Lib.hid hec
  have HW := Lib.hid hw
  have hsz := hw.size
  clear hw hca hma hea hcc hmc hec
  by_cases hbad : 32 < p.enums.length ∨ (made = false ∧ 8 < p.enums.length) ∨ p.nodes.length < 1 ∨ 16 < p.nodes.length
  · have HR := Lib.hid (rightP_len hbad)
    have HBAD := Lib.hid hbad
    clear hbad
    cases made
    all_goals go_enter Tryz.func34, Tryz.ntmps34
    all_goals go_wp2_with fail
    all_goals first
      | (exfalso; rcases HBAD.out with h | ⟨h, h'⟩ | h | h <;> first | omega | cases h)
      | (go_ret; exact ⟨ret_bool (by rw [HR.out]), (Below.refl _ w).alloc (Nat.le_refl _) _⟩)
  · have HR := Lib.hid (rightP_rest hbad)
    have hok : p.enums.length ≤ 32 ∧ (made = true ∨ p.enums.length ≤ 8) ∧ 1 ≤ p.nodes.length ∧ p.nodes.length ≤ 16 := by
      refine ⟨by omega, ?_, by omega, by omega⟩
      cases made
      · exact .inr (Nat.le_of_not_lt fun e => hbad (.inr (.inl ⟨rfl, e⟩)))
      · exact .inl rfl
    have HOK := Lib.hid hok
    clear hbad hok
    -- FITS
    cases made
    · skip
      have hE : p.enums.length ≤ 8 := by exact HOK.out.2.1.elim (fun h => by cases h) id
      have hN1 : 1 ≤ p.nodes.length := HOK.out.2.2.1
      have hN2 : p.nodes.length ≤ 16 := HOK.out.2.2.2
      go_enter Tryz.func34, Tryz.ntmps34
      go_wp2_with fail
      all_goals try (exfalso; omega)
      generalize hV : w.alloc (.cells #[.slice A p.enums.length ka, .slice C p.nodes.length la] 25) = V
      have BV := Lib.hid (show V.heap[w.heap.size]? = some (.cells #[.slice A p.enums.length ka, .slice C p.nodes.length la] 25 (0, 0)) by rw [← hV]; exact heap_alloc_new w _)
      have HV := Lib.hid (show Below w.heap.size w V by rw [← hV]; exact (Below.refl _ w).alloc (Nat.le_refl _) _)
      clear hV hE hN1 hN2
      go_loopg [5] p.enums.length (fun g v wr => ∃ k : Nat, k + g = p.enums.length ∧ v = .int .i64 k ∧ AllTo (rightEnum false) p.enums k ∧ Below V.heap.size V wr)
      case atStart => exact ⟨0, by omega, rfl, AllTo.zero, Below.refl _ _⟩
      case round =>
        obtain ⟨k, hkg, rfl, hto, hbw⟩ := hrel
        obtain ⟨wq, rfl⟩ : ∃ W, W = wr := ⟨_, rfl⟩
        have HK := Lib.hid hkg
        have HT := Lib.hid hto
        have HVQ := Lib.hid hbw
        have HQ := Lib.hid (HV.out.trans (hbw.mono HV.out.size))
        have HBQ := Lib.hid (HW.out.trans (HQ.out.mono hsz))
        have BQ := Lib.hid (box_next hbw BV.out)
        obtain ⟨p0, p1⟩ := row2 BQ.out
        have hkl : k ≤ p.enums.length := by omega
        clear hkg hto hbw
        by_cases hlt : k < p.enums.length
        · obtain ⟨y, hy⟩ : ∃ y, p.enums[k]? = some y := ⟨_, List.getElem?_eq_getElem hlt⟩
          obtain ⟨X, hEX, cv, rfl, hym, hcv⟩ := HEA.out k y hy
          have HN := Lib.hid (fun w => rName_any y.name false w hym)
          have HC := Lib.hid (rCons_any hcv 1 8 false)
          obtain ⟨X1, n1, k1, rfl⟩ := SliceAt.shape hcv
          have EX := Lib.hid hEX
          obtain ⟨a1, rfl, hab, haa, x0, x1⟩ := elem2 (hEX.under HBQ.out)
          have HY := Lib.hid hy
          have hr : rightEnum false y = (nameM false y.name && (decide ((1 : Int) ≤ y.cons.length) && decide ((y.cons.length : Int) ≤ 8) && y.cons.all (conM false))) := by rw [rightEnum]; congr 1; exact allM_int y.cons 1 8 _
          have HRE := Lib.hid hr
          clear hy hEX hcv hym hr
          generalize (decide ((1 : Int) ≤ y.cons.length) && decide ((y.cons.length : Int) ≤ 8) && y.cons.all (conM false)) = c at HC HRE
          generalize nameM false y.name = b at HN HRE
          have NO := Lib.hid (fun (h : rightEnum false y = false) => show rightP false p = false by rw [HR.out, all_no HY.out h, Bool.false_and])
          cases b
          · rw [Bool.false_and] at HRE
            go_wp2_with (go_at_call 53; (with_reducible refine (HN.out _).mono ?_); rintro e w7 ⟨rfl, hb7⟩)
            go_ret
            exact ⟨ret_bool (by rw [NO.out HRE.out]), HQ.out.trans (hb7.mono HQ.out.size)⟩
          rw [Bool.true_and] at HRE
          cases c
          · go_wp2_with (first
              | (go_at_call 53
                 (with_reducible refine (HN.out _).mono ?_)
                 rintro e w7 ⟨rfl, hb7⟩
                 obtain ⟨z7, rfl⟩ : ∃ W, W = w7 := ⟨_, rfl⟩
                 have G7 := Lib.hid hb7
                 obtain ⟨_, ea, _, _, x0, x1⟩ := elem2 (EX.out.under (HBQ.out.trans (hb7.mono HBQ.out.size)))
                 obtain rfl := Option.some.inj ea
                 obtain ⟨p0, p1⟩ := row2 (box_next hb7 BQ.out)
                 clear hb7)
              | (go_at_call 54
                 (with_reducible refine (HC.out _ (HBQ.out.trans (G7.out.mono HBQ.out.size))).mono ?_)
                 rintro e w8 ⟨rfl, hb8⟩))
            go_ret
            exact ⟨ret_bool (by rw [NO.out HRE.out]), HQ.out.trans ((G7.out.trans (hb8.mono G7.out.size)).mono HQ.out.size)⟩
          · go_wp2_with (first
              | (go_at_call 53
                 (with_reducible refine (HN.out _).mono ?_)
                 rintro e w7 ⟨rfl, hb7⟩
                 obtain ⟨z7, rfl⟩ : ∃ W, W = w7 := ⟨_, rfl⟩
                 have G7 := Lib.hid hb7
                 obtain ⟨_, ea, _, _, x0, x1⟩ := elem2 (EX.out.under (HBQ.out.trans (hb7.mono HBQ.out.size)))
                 obtain rfl := Option.some.inj ea
                 obtain ⟨p0, p1⟩ := row2 (box_next hb7 BQ.out)
                 clear hb7)
              | (go_at_call 54
                 (with_reducible refine (HC.out _ (HBQ.out.trans (G7.out.mono HBQ.out.size))).mono ?_)
                 rintro e w8 ⟨rfl, hb8⟩))
            go_roundg (p.enums.length - (k + 1))
            case measure => have := HK.out; omega
            case rel => exact ⟨k + 1, by omega, by go_num, HT.out.succ HY.out HRE.out, HVQ.out.trans ((G7.out.trans (hb8.mono G7.out.size)).mono HVQ.out.size)⟩
        · have hke : k = p.enums.length := by omega
          have ENUMS := Lib.hid (HT.out.all hke)
          clear hke
          go_wp2_with fail
          clear hlt hkl HK HT p0 p1 BV HV HVQ
          go_loopg [6] p.nodes.length (fun g v wr => ∃ k : Nat, k + g = p.nodes.length ∧ v = .int .i64 k ∧ AllTo (rightNode false) p.nodes k ∧ Below wq.heap.size wq wr)
          case atStart => exact ⟨0, by omega, rfl, AllTo.zero, Below.refl _ _⟩
          case round =>
            obtain ⟨k, hkg, rfl, hto, hbw⟩ := hrel
            obtain ⟨wn, rfl⟩ : ∃ W, W = wr := ⟨_, rfl⟩
            have HK := Lib.hid hkg
            have HT := Lib.hid hto
            have HVQ := Lib.hid hbw
            have HN0 := Lib.hid (HQ.out.trans (hbw.mono HQ.out.size))
            have HBN := Lib.hid (HW.out.trans (HN0.out.mono hsz))
            have BN := Lib.hid (box_next hbw BQ.out)
            obtain ⟨p0, p1⟩ := row2 BN.out
            have hkl : k ≤ p.nodes.length := by omega
            clear hkg hto hbw
            by_cases hlt : k < p.nodes.length
            · obtain ⟨x, hx⟩ : ∃ x, p.nodes[k]? = some x := ⟨_, List.getElem?_eq_getElem hlt⟩
              obtain ⟨X, hEX, xav, xbv, xcv, xdv, rfl, hxm, hxa, hxb, hxc, hxd⟩ := HEC.out k x hx
              have HM := Lib.hid (fun w => rName_any x.name false w hxm)
              have HN1 := Lib.hid (rNames_any hxa 0 6 false)
              have HN2 := Lib.hid (rNames_any hxb 1 6 false)
              have HN3 := Lib.hid (rNames_any hxc 1 6 false)
              obtain ⟨XA, xa1, xa2, rfl⟩ := SliceAt.shape hxa
              obtain ⟨XB, xb1, xb2, rfl⟩ := SliceAt.shape hxb
              obtain ⟨XC, xc1, xc2, rfl⟩ := SliceAt.shape hxc
              obtain ⟨XD, xd2, rfl, hcx, hmx, hex_⟩ := hxd
              have HEX := Lib.hid hex_
              have h5 : x.items.length ≤ 9223372036854775807 := by unfold maxLen at hmx; omega
              obtain ⟨a1, rfl, hab, haa, x0, x1, x2, x3, x4⟩ := elem5 (hEX.under HBN.out)
              have HX := Lib.hid hx
              have NO := Lib.hid (fun (h : rightNode false x = false) => show rightP false p = false by rw [HR.out, all_no (f := rightNode false) HX.out h, Bool.and_false])
              have HRN := Lib.hid (rightNode_split false x h5)
              clear hx hEX hxa hxb hxc hcx hmx hex_ hxm
              generalize nameM false x.name = b0 at HM HRN
              generalize (decide ((0 : Int) ≤ x.funs.length) && decide ((x.funs.length : Int) ≤ 6) && x.funs.all (nameM false)) = b1 at HN1 HRN
              generalize (decide ((1 : Int) ≤ x.ins.length) && decide ((x.ins.length : Int) ≤ 6) && x.ins.all (nameM false)) = b2 at HN2 HRN
              generalize (decide ((1 : Int) ≤ x.outs.length) && decide ((x.outs.length : Int) ≤ 6) && x.outs.all (nameM false)) = b3 at HN3 HRN
              cases b0
              · rw [Bool.false_and] at HRN
                go_wp2_with (first | (go_at_call 53; (with_reducible refine (HM.out _).mono ?_); rintro e w7 ⟨rfl, hb7⟩; obtain ⟨z0, rfl⟩ : ∃ W, W = w7 := ⟨_, rfl⟩; have B0 := Lib.hid (box_next hb7 (heap_alloc_new wn _)); have G0 := Lib.hid (((Below.refl _ wn).alloc (Nat.le_refl _) (.cells #[.string (str x.name), .slice XA xa1 xa2, .slice XB xb1 xb2, .slice XC xc1 xc2, .slice XD x.items.length xd2] 41)).trans (hb7.mono (by simp))); obtain ⟨s0, s1, s2, s3, s4⟩ := row5 B0.out; clear hb7))
                go_ret
                exact ⟨ret_bool (by rw [NO.out HRN.out]), HN0.out.trans (G0.out.mono HN0.out.size)⟩
              cases b1
              · rw [Bool.false_and, Bool.and_false] at HRN
                go_wp2_with (first | (go_at_call 53; (with_reducible refine (HM.out _).mono ?_); rintro e w7 ⟨rfl, hb7⟩; obtain ⟨z0, rfl⟩ : ∃ W, W = w7 := ⟨_, rfl⟩; have B0 := Lib.hid (box_next hb7 (heap_alloc_new wn _)); have G0 := Lib.hid (((Below.refl _ wn).alloc (Nat.le_refl _) (.cells #[.string (str x.name), .slice XA xa1 xa2, .slice XB xb1 xb2, .slice XC xc1 xc2, .slice XD x.items.length xd2] 41)).trans (hb7.mono (by simp))); obtain ⟨s0, s1, s2, s3, s4⟩ := row5 B0.out; clear hb7) | (go_at_call 55; (with_reducible refine (HN1.out _ (HBN.out.trans (G0.out.mono HBN.out.size))).mono ?_); rintro e w7 ⟨rfl, hb7⟩; obtain ⟨z1, rfl⟩ : ∃ W, W = w7 := ⟨_, rfl⟩; have B1 := Lib.hid (box_next hb7 B0.out); have G1 := Lib.hid (G0.out.trans (hb7.mono G0.out.size)); obtain ⟨s0, s1, s2, s3, s4⟩ := row5 B1.out; clear hb7))
                go_ret
                exact ⟨ret_bool (by rw [NO.out HRN.out]), HN0.out.trans (G1.out.mono HN0.out.size)⟩
              cases b2
              · rw [Bool.false_and, Bool.and_false, Bool.and_false] at HRN
                go_wp2_with (first | (go_at_call 53; (with_reducible refine (HM.out _).mono ?_); rintro e w7 ⟨rfl, hb7⟩; obtain ⟨z0, rfl⟩ : ∃ W, W = w7 := ⟨_, rfl⟩; have B0 := Lib.hid (box_next hb7 (heap_alloc_new wn _)); have G0 := Lib.hid (((Below.refl _ wn).alloc (Nat.le_refl _) (.cells #[.string (str x.name), .slice XA xa1 xa2, .slice XB xb1 xb2, .slice XC xc1 xc2, .slice XD x.items.length xd2] 41)).trans (hb7.mono (by simp))); obtain ⟨s0, s1, s2, s3, s4⟩ := row5 B0.out; clear hb7) | (go_at_call 55; (with_reducible refine (HN1.out _ (HBN.out.trans (G0.out.mono HBN.out.size))).mono ?_); rintro e w7 ⟨rfl, hb7⟩; obtain ⟨z1, rfl⟩ : ∃ W, W = w7 := ⟨_, rfl⟩; have B1 := Lib.hid (box_next hb7 B0.out); have G1 := Lib.hid (G0.out.trans (hb7.mono G0.out.size)); obtain ⟨s0, s1, s2, s3, s4⟩ := row5 B1.out; clear hb7) | (go_at_call 55; (with_reducible refine (HN2.out _ (HBN.out.trans (G1.out.mono HBN.out.size))).mono ?_); rintro e w7 ⟨rfl, hb7⟩; obtain ⟨z2, rfl⟩ : ∃ W, W = w7 := ⟨_, rfl⟩; have B2 := Lib.hid (box_next hb7 B1.out); have G2 := Lib.hid (G1.out.trans (hb7.mono G1.out.size)); obtain ⟨s0, s1, s2, s3, s4⟩ := row5 B2.out; clear hb7))
                go_ret
                exact ⟨ret_bool (by rw [NO.out HRN.out]), HN0.out.trans (G2.out.mono HN0.out.size)⟩
              cases b3
              · rw [Bool.false_and, Bool.and_false, Bool.and_false, Bool.and_false] at HRN
                go_wp2_with (first | (go_at_call 53; (with_reducible refine (HM.out _).mono ?_); rintro e w7 ⟨rfl, hb7⟩; obtain ⟨z0, rfl⟩ : ∃ W, W = w7 := ⟨_, rfl⟩; have B0 := Lib.hid (box_next hb7 (heap_alloc_new wn _)); have G0 := Lib.hid (((Below.refl _ wn).alloc (Nat.le_refl _) (.cells #[.string (str x.name), .slice XA xa1 xa2, .slice XB xb1 xb2, .slice XC xc1 xc2, .slice XD x.items.length xd2] 41)).trans (hb7.mono (by simp))); obtain ⟨s0, s1, s2, s3, s4⟩ := row5 B0.out; clear hb7) | (go_at_call 55; (with_reducible refine (HN1.out _ (HBN.out.trans (G0.out.mono HBN.out.size))).mono ?_); rintro e w7 ⟨rfl, hb7⟩; obtain ⟨z1, rfl⟩ : ∃ W, W = w7 := ⟨_, rfl⟩; have B1 := Lib.hid (box_next hb7 B0.out); have G1 := Lib.hid (G0.out.trans (hb7.mono G0.out.size)); obtain ⟨s0, s1, s2, s3, s4⟩ := row5 B1.out; clear hb7) | (go_at_call 55; (with_reducible refine (HN2.out _ (HBN.out.trans (G1.out.mono HBN.out.size))).mono ?_); rintro e w7 ⟨rfl, hb7⟩; obtain ⟨z2, rfl⟩ : ∃ W, W = w7 := ⟨_, rfl⟩; have B2 := Lib.hid (box_next hb7 B1.out); have G2 := Lib.hid (G1.out.trans (hb7.mono G1.out.size)); obtain ⟨s0, s1, s2, s3, s4⟩ := row5 B2.out; clear hb7) | (go_at_call 55; (with_reducible refine (HN3.out _ (HBN.out.trans (G2.out.mono HBN.out.size))).mono ?_); rintro e w7 ⟨rfl, hb7⟩; obtain ⟨z3, rfl⟩ : ∃ W, W = w7 := ⟨_, rfl⟩; have B3 := Lib.hid (box_next hb7 B2.out); have G3 := Lib.hid (G2.out.trans (hb7.mono G2.out.size)); obtain ⟨s0, s1, s2, s3, s4⟩ := row5 B3.out; clear hb7))
                go_ret
                exact ⟨ret_bool (by rw [NO.out HRN.out]), HN0.out.trans (G3.out.mono HN0.out.size)⟩
              simp only [Bool.true_and, Bool.false_or] at HRN
              by_cases h24 : 24 < x.items.length
              · rw [decide_eq_false (show ¬x.items.length ≤ 24 by omega), Bool.false_and] at HRN
                go_wp2_with (first | (go_at_call 53; (with_reducible refine (HM.out _).mono ?_); rintro e w7 ⟨rfl, hb7⟩; obtain ⟨z0, rfl⟩ : ∃ W, W = w7 := ⟨_, rfl⟩; have B0 := Lib.hid (box_next hb7 (heap_alloc_new wn _)); have G0 := Lib.hid (((Below.refl _ wn).alloc (Nat.le_refl _) (.cells #[.string (str x.name), .slice XA xa1 xa2, .slice XB xb1 xb2, .slice XC xc1 xc2, .slice XD x.items.length xd2] 41)).trans (hb7.mono (by simp))); obtain ⟨s0, s1, s2, s3, s4⟩ := row5 B0.out; clear hb7) | (go_at_call 55; (with_reducible refine (HN1.out _ (HBN.out.trans (G0.out.mono HBN.out.size))).mono ?_); rintro e w7 ⟨rfl, hb7⟩; obtain ⟨z1, rfl⟩ : ∃ W, W = w7 := ⟨_, rfl⟩; have B1 := Lib.hid (box_next hb7 B0.out); have G1 := Lib.hid (G0.out.trans (hb7.mono G0.out.size)); obtain ⟨s0, s1, s2, s3, s4⟩ := row5 B1.out; clear hb7) | (go_at_call 55; (with_reducible refine (HN2.out _ (HBN.out.trans (G1.out.mono HBN.out.size))).mono ?_); rintro e w7 ⟨rfl, hb7⟩; obtain ⟨z2, rfl⟩ : ∃ W, W = w7 := ⟨_, rfl⟩; have B2 := Lib.hid (box_next hb7 B1.out); have G2 := Lib.hid (G1.out.trans (hb7.mono G1.out.size)); obtain ⟨s0, s1, s2, s3, s4⟩ := row5 B2.out; clear hb7) | (go_at_call 55; (with_reducible refine (HN3.out _ (HBN.out.trans (G2.out.mono HBN.out.size))).mono ?_); rintro e w7 ⟨rfl, hb7⟩; obtain ⟨z3, rfl⟩ : ∃ W, W = w7 := ⟨_, rfl⟩; have B3 := Lib.hid (box_next hb7 B2.out); have G3 := Lib.hid (G2.out.trans (hb7.mono G2.out.size)); obtain ⟨s0, s1, s2, s3, s4⟩ := row5 B3.out; clear hb7))
                all_goals try (exfalso; omega)
                go_ret
                exact ⟨ret_bool (by rw [NO.out HRN.out]), HN0.out.trans (G3.out.mono HN0.out.size)⟩
              rw [decide_eq_true (show x.items.length ≤ 24 by omega), Bool.true_and] at HRN
              go_wp2_with (first | (go_at_call 53; (with_reducible refine (HM.out _).mono ?_); rintro e w7 ⟨rfl, hb7⟩; obtain ⟨z0, rfl⟩ : ∃ W, W = w7 := ⟨_, rfl⟩; have B0 := Lib.hid (box_next hb7 (heap_alloc_new wn _)); have G0 := Lib.hid (((Below.refl _ wn).alloc (Nat.le_refl _) (.cells #[.string (str x.name), .slice XA xa1 xa2, .slice XB xb1 xb2, .slice XC xc1 xc2, .slice XD x.items.length xd2] 41)).trans (hb7.mono (by simp))); obtain ⟨s0, s1, s2, s3, s4⟩ := row5 B0.out; clear hb7) | (go_at_call 55; (with_reducible refine (HN1.out _ (HBN.out.trans (G0.out.mono HBN.out.size))).mono ?_); rintro e w7 ⟨rfl, hb7⟩; obtain ⟨z1, rfl⟩ : ∃ W, W = w7 := ⟨_, rfl⟩; have B1 := Lib.hid (box_next hb7 B0.out); have G1 := Lib.hid (G0.out.trans (hb7.mono G0.out.size)); obtain ⟨s0, s1, s2, s3, s4⟩ := row5 B1.out; clear hb7) | (go_at_call 55; (with_reducible refine (HN2.out _ (HBN.out.trans (G1.out.mono HBN.out.size))).mono ?_); rintro e w7 ⟨rfl, hb7⟩; obtain ⟨z2, rfl⟩ : ∃ W, W = w7 := ⟨_, rfl⟩; have B2 := Lib.hid (box_next hb7 B1.out); have G2 := Lib.hid (G1.out.trans (hb7.mono G1.out.size)); obtain ⟨s0, s1, s2, s3, s4⟩ := row5 B2.out; clear hb7) | (go_at_call 55; (with_reducible refine (HN3.out _ (HBN.out.trans (G2.out.mono HBN.out.size))).mono ?_); rintro e w7 ⟨rfl, hb7⟩; obtain ⟨z3, rfl⟩ : ∃ W, W = w7 := ⟨_, rfl⟩; have B3 := Lib.hid (box_next hb7 B2.out); have G3 := Lib.hid (G2.out.trans (hb7.mono G2.out.size)); obtain ⟨s0, s1, s2, s3, s4⟩ := row5 B3.out; clear hb7))
              all_goals try (exfalso; omega)
              clear s0 s1 s2 s3 s4 x0 x1 x2 x3 x4 p0 p1
              go_loopg [8] x.items.length (fun g v wr => ∃ j : Nat, j + g = x.items.length ∧ v = .int .i64 j ∧ AllTo (rightItem false) x.items j ∧ Below z3.heap.size z3 wr)
              case atStart => exact ⟨0, by omega, rfl, AllTo.zero, Below.refl _ _⟩
              case round =>
                obtain ⟨j, hjg, rfl, hto, hbw⟩ := hrel
                obtain ⟨wy, rfl⟩ : ∃ W, W = wr := ⟨_, rfl⟩
                have JK := Lib.hid hjg
                have JT := Lib.hid hto
                have JW := Lib.hid hbw
                have JQ := Lib.hid (HN0.out.trans ((G3.out.trans (hbw.mono (by have := G3.out.size; omega))).mono HN0.out.size))
                have JB := Lib.hid (HW.out.trans (JQ.out.mono hsz))
                obtain ⟨s0, s1, s2, s3, s4⟩ := row5 (box_next hbw B3.out)
                have hjl : j ≤ x.items.length := by omega
                clear hjg hto hbw
                by_cases hlt3 : j < x.items.length
                · obtain ⟨u, hu⟩ : ∃ u, x.items[j]? = some u := ⟨_, List.getElem?_eq_getElem hlt3⟩
                  obtain ⟨U, hEU, hRU⟩ := HEX.out j u hu
                  have HF := Lib.hid (rItem_any false hRU)
                  obtain ⟨uA0, un0, uk0, uo1, us2, uo3, uA4, un4, uk4, uA5, un5, uk5, uA6, un6, uk6, rfl⟩ := ItemAt.shape hRU
                  obtain ⟨c2, rfl, hcb, hca, u0, u1, u2, u3, u4, u5, u6⟩ := elem7 (hEU.under JB.out)
                  have HU := Lib.hid hu
                  clear hu hEU hRU
                  cases hfx : rightItem false u
                  · have HFX := Lib.hid hfx
                    rw [hfx] at HF
                    clear hfx
                    go_wp2_with (go_at_call 56; (with_reducible refine (HF.out _ JB.out).mono ?_); rintro e w7 ⟨rfl, hb7⟩)
                    go_ret
                    exact ⟨ret_bool (by rw [NO.out (by rw [HRN.out, all_no HU.out HFX.out])]), JQ.out.trans (hb7.mono JQ.out.size)⟩
                  · have HFX := Lib.hid hfx
                    rw [hfx] at HF
                    clear hfx
                    go_wp2_with (go_at_call 56; (with_reducible refine (HF.out _ JB.out).mono ?_); rintro e w7 ⟨rfl, hb7⟩)
                    go_roundg (x.items.length - (j + 1))
                    case measure => have := JK.out; omega
                    case rel => exact ⟨j + 1, by omega, by go_num, JT.out.succ HU.out HFX.out, JW.out.trans (hb7.mono JW.out.size)⟩
                · have hje : j = x.items.length := by omega
                  have HJE := Lib.hid hje
                  clear hje
                  go_wp2_with fail
                  go_roundg (p.nodes.length - (k + 1))
                  case measure => have := HK.out; omega
                  case rel => exact ⟨k + 1, by omega, by go_num, HT.out.succ HX.out (by rw [HRN.out, JT.out.all HJE.out]), HVQ.out.trans ((G3.out.trans (JW.out.mono (by have := G3.out.size; omega))).mono HVQ.out.size)⟩
            · have hke : k = p.nodes.length := by omega
              have HKE := Lib.hid hke
              clear hke
              go_wp2_with fail
              go_ret
              exact ⟨ret_bool (by rw [HR.out, ENUMS.out, HT.out.all HKE.out]; rfl), HN0.out⟩
    · skip
      have hE : p.enums.length ≤ 32 := by exact HOK.out.1
      have hN1 : 1 ≤ p.nodes.length := HOK.out.2.2.1
      have hN2 : p.nodes.length ≤ 16 := HOK.out.2.2.2
      go_enter Tryz.func34, Tryz.ntmps34
      go_wp2_with fail
      all_goals try (exfalso; omega)
      generalize hV : w.alloc (.cells #[.slice A p.enums.length ka, .slice C p.nodes.length la] 25) = V
      have BV := Lib.hid (show V.heap[w.heap.size]? = some (.cells #[.slice A p.enums.length ka, .slice C p.nodes.length la] 25 (0, 0)) by rw [← hV]; exact heap_alloc_new w _)
      have HV := Lib.hid (show Below w.heap.size w V by rw [← hV]; exact (Below.refl _ w).alloc (Nat.le_refl _) _)
      clear hV hE hN1 hN2
      go_loopg [5] p.enums.length (fun g v wr => ∃ k : Nat, k + g = p.enums.length ∧ v = .int .i64 k ∧ AllTo (rightEnum true) p.enums k ∧ Below V.heap.size V wr)
      case atStart => exact ⟨0, by omega, rfl, AllTo.zero, Below.refl _ _⟩
      case round =>
        obtain ⟨k, hkg, rfl, hto, hbw⟩ := hrel
        obtain ⟨wq, rfl⟩ : ∃ W, W = wr := ⟨_, rfl⟩
        have HK := Lib.hid hkg
        have HT := Lib.hid hto
        have HVQ := Lib.hid hbw
        have HQ := Lib.hid (HV.out.trans (hbw.mono HV.out.size))
        have HBQ := Lib.hid (HW.out.trans (HQ.out.mono hsz))
        have BQ := Lib.hid (box_next hbw BV.out)
        obtain ⟨p0, p1⟩ := row2 BQ.out
        have hkl : k ≤ p.enums.length := by omega
        clear hkg hto hbw
        by_cases hlt : k < p.enums.length
        · obtain ⟨y, hy⟩ : ∃ y, p.enums[k]? = some y := ⟨_, List.getElem?_eq_getElem hlt⟩
          obtain ⟨X, hEX, cv, rfl, hym, hcv⟩ := HEA.out k y hy
          have HN := Lib.hid (fun w => rName_any y.name true w hym)
          have HC := Lib.hid (rCons_any hcv 1 8 true)
          obtain ⟨X1, n1, k1, rfl⟩ := SliceAt.shape hcv
          have EX := Lib.hid hEX
          obtain ⟨a1, rfl, hab, haa, x0, x1⟩ := elem2 (hEX.under HBQ.out)
          have HY := Lib.hid hy
          have hr : rightEnum true y = (nameM true y.name && (decide ((1 : Int) ≤ y.cons.length) && decide ((y.cons.length : Int) ≤ 8) && y.cons.all (conM true))) := by rw [rightEnum]; congr 1; exact allM_int y.cons 1 8 _
          have HRE := Lib.hid hr
          clear hy hEX hcv hym hr
          generalize (decide ((1 : Int) ≤ y.cons.length) && decide ((y.cons.length : Int) ≤ 8) && y.cons.all (conM true)) = c at HC HRE
          generalize nameM true y.name = b at HN HRE
          have NO := Lib.hid (fun (h : rightEnum true y = false) => show rightP true p = false by rw [HR.out, all_no HY.out h, Bool.false_and])
          cases b
          · rw [Bool.false_and] at HRE
            go_wp2_with (go_at_call 53; (with_reducible refine (HN.out _).mono ?_); rintro e w7 ⟨rfl, hb7⟩)
            go_ret
            exact ⟨ret_bool (by rw [NO.out HRE.out]), HQ.out.trans (hb7.mono HQ.out.size)⟩
          rw [Bool.true_and] at HRE
          cases c
          · go_wp2_with (first
              | (go_at_call 53
                 (with_reducible refine (HN.out _).mono ?_)
                 rintro e w7 ⟨rfl, hb7⟩
                 obtain ⟨z7, rfl⟩ : ∃ W, W = w7 := ⟨_, rfl⟩
                 have G7 := Lib.hid hb7
                 obtain ⟨_, ea, _, _, x0, x1⟩ := elem2 (EX.out.under (HBQ.out.trans (hb7.mono HBQ.out.size)))
                 obtain rfl := Option.some.inj ea
                 obtain ⟨p0, p1⟩ := row2 (box_next hb7 BQ.out)
                 clear hb7)
              | (go_at_call 54
                 (with_reducible refine (HC.out _ (HBQ.out.trans (G7.out.mono HBQ.out.size))).mono ?_)
                 rintro e w8 ⟨rfl, hb8⟩))
            go_ret
            exact ⟨ret_bool (by rw [NO.out HRE.out]), HQ.out.trans ((G7.out.trans (hb8.mono G7.out.size)).mono HQ.out.size)⟩
          · go_wp2_with (first
              | (go_at_call 53
                 (with_reducible refine (HN.out _).mono ?_)
                 rintro e w7 ⟨rfl, hb7⟩
                 obtain ⟨z7, rfl⟩ : ∃ W, W = w7 := ⟨_, rfl⟩
                 have G7 := Lib.hid hb7
                 obtain ⟨_, ea, _, _, x0, x1⟩ := elem2 (EX.out.under (HBQ.out.trans (hb7.mono HBQ.out.size)))
                 obtain rfl := Option.some.inj ea
                 obtain ⟨p0, p1⟩ := row2 (box_next hb7 BQ.out)
                 clear hb7)
              | (go_at_call 54
                 (with_reducible refine (HC.out _ (HBQ.out.trans (G7.out.mono HBQ.out.size))).mono ?_)
                 rintro e w8 ⟨rfl, hb8⟩))
            go_roundg (p.enums.length - (k + 1))
            case measure => have := HK.out; omega
            case rel => exact ⟨k + 1, by omega, by go_num, HT.out.succ HY.out HRE.out, HVQ.out.trans ((G7.out.trans (hb8.mono G7.out.size)).mono HVQ.out.size)⟩
        · have hke : k = p.enums.length := by omega
          have ENUMS := Lib.hid (HT.out.all hke)
          clear hke
          go_wp2_with fail
          clear hlt hkl HK HT p0 p1 BV HV HVQ
          go_loopg [6] p.nodes.length (fun g v wr => ∃ k : Nat, k + g = p.nodes.length ∧ v = .int .i64 k ∧ AllTo (rightNode true) p.nodes k ∧ Below wq.heap.size wq wr)
          case atStart => exact ⟨0, by omega, rfl, AllTo.zero, Below.refl _ _⟩
          case round =>
            obtain ⟨k, hkg, rfl, hto, hbw⟩ := hrel
            obtain ⟨wn, rfl⟩ : ∃ W, W = wr := ⟨_, rfl⟩
            have HK := Lib.hid hkg
            have HT := Lib.hid hto
            have HVQ := Lib.hid hbw
            have HN0 := Lib.hid (HQ.out.trans (hbw.mono HQ.out.size))
            have HBN := Lib.hid (HW.out.trans (HN0.out.mono hsz))
            have BN := Lib.hid (box_next hbw BQ.out)
            obtain ⟨p0, p1⟩ := row2 BN.out
            have hkl : k ≤ p.nodes.length := by omega
            clear hkg hto hbw
            by_cases hlt : k < p.nodes.length
            · obtain ⟨x, hx⟩ : ∃ x, p.nodes[k]? = some x := ⟨_, List.getElem?_eq_getElem hlt⟩
              obtain ⟨X, hEX, xav, xbv, xcv, xdv, rfl, hxm, hxa, hxb, hxc, hxd⟩ := HEC.out k x hx
              have HM := Lib.hid (fun w => rName_any x.name true w hxm)
              have HN1 := Lib.hid (rNames_any hxa 0 6 true)
              have HN2 := Lib.hid (rNames_any hxb 1 6 true)
              have HN3 := Lib.hid (rNames_any hxc 1 6 true)
              obtain ⟨XA, xa1, xa2, rfl⟩ := SliceAt.shape hxa
              obtain ⟨XB, xb1, xb2, rfl⟩ := SliceAt.shape hxb
              obtain ⟨XC, xc1, xc2, rfl⟩ := SliceAt.shape hxc
              obtain ⟨XD, xd2, rfl, hcx, hmx, hex_⟩ := hxd
              have HEX := Lib.hid hex_
              have h5 : x.items.length ≤ 9223372036854775807 := by unfold maxLen at hmx; omega
              obtain ⟨a1, rfl, hab, haa, x0, x1, x2, x3, x4⟩ := elem5 (hEX.under HBN.out)
              have HX := Lib.hid hx
              have NO := Lib.hid (fun (h : rightNode true x = false) => show rightP true p = false by rw [HR.out, all_no (f := rightNode true) HX.out h, Bool.and_false])
              have HRN := Lib.hid (rightNode_split true x h5)
              clear hx hEX hxa hxb hxc hcx hmx hex_ hxm
              generalize nameM true x.name = b0 at HM HRN
              generalize (decide ((0 : Int) ≤ x.funs.length) && decide ((x.funs.length : Int) ≤ 6) && x.funs.all (nameM true)) = b1 at HN1 HRN
              generalize (decide ((1 : Int) ≤ x.ins.length) && decide ((x.ins.length : Int) ≤ 6) && x.ins.all (nameM true)) = b2 at HN2 HRN
              generalize (decide ((1 : Int) ≤ x.outs.length) && decide ((x.outs.length : Int) ≤ 6) && x.outs.all (nameM true)) = b3 at HN3 HRN
              cases b0
              · rw [Bool.false_and] at HRN
                go_wp2_with (first | (go_at_call 53; (with_reducible refine (HM.out _).mono ?_); rintro e w7 ⟨rfl, hb7⟩; obtain ⟨z0, rfl⟩ : ∃ W, W = w7 := ⟨_, rfl⟩; have B0 := Lib.hid (box_next hb7 (heap_alloc_new wn _)); have G0 := Lib.hid (((Below.refl _ wn).alloc (Nat.le_refl _) (.cells #[.string (str x.name), .slice XA xa1 xa2, .slice XB xb1 xb2, .slice XC xc1 xc2, .slice XD x.items.length xd2] 41)).trans (hb7.mono (by simp))); obtain ⟨s0, s1, s2, s3, s4⟩ := row5 B0.out; clear hb7))
                go_ret
                exact ⟨ret_bool (by rw [NO.out HRN.out]), HN0.out.trans (G0.out.mono HN0.out.size)⟩
              cases b1
              · rw [Bool.false_and, Bool.and_false] at HRN
                go_wp2_with (first | (go_at_call 53; (with_reducible refine (HM.out _).mono ?_); rintro e w7 ⟨rfl, hb7⟩; obtain ⟨z0, rfl⟩ : ∃ W, W = w7 := ⟨_, rfl⟩; have B0 := Lib.hid (box_next hb7 (heap_alloc_new wn _)); have G0 := Lib.hid (((Below.refl _ wn).alloc (Nat.le_refl _) (.cells #[.string (str x.name), .slice XA xa1 xa2, .slice XB xb1 xb2, .slice XC xc1 xc2, .slice XD x.items.length xd2] 41)).trans (hb7.mono (by simp))); obtain ⟨s0, s1, s2, s3, s4⟩ := row5 B0.out; clear hb7) | (go_at_call 55; (with_reducible refine (HN1.out _ (HBN.out.trans (G0.out.mono HBN.out.size))).mono ?_); rintro e w7 ⟨rfl, hb7⟩; obtain ⟨z1, rfl⟩ : ∃ W, W = w7 := ⟨_, rfl⟩; have B1 := Lib.hid (box_next hb7 B0.out); have G1 := Lib.hid (G0.out.trans (hb7.mono G0.out.size)); obtain ⟨s0, s1, s2, s3, s4⟩ := row5 B1.out; clear hb7))
                go_ret
                exact ⟨ret_bool (by rw [NO.out HRN.out]), HN0.out.trans (G1.out.mono HN0.out.size)⟩
              cases b2
              · rw [Bool.false_and, Bool.and_false, Bool.and_false] at HRN
                go_wp2_with (first | (go_at_call 53; (with_reducible refine (HM.out _).mono ?_); rintro e w7 ⟨rfl, hb7⟩; obtain ⟨z0, rfl⟩ : ∃ W, W = w7 := ⟨_, rfl⟩; have B0 := Lib.hid (box_next hb7 (heap_alloc_new wn _)); have G0 := Lib.hid (((Below.refl _ wn).alloc (Nat.le_refl _) (.cells #[.string (str x.name), .slice XA xa1 xa2, .slice XB xb1 xb2, .slice XC xc1 xc2, .slice XD x.items.length xd2] 41)).trans (hb7.mono (by simp))); obtain ⟨s0, s1, s2, s3, s4⟩ := row5 B0.out; clear hb7) | (go_at_call 55; (with_reducible refine (HN1.out _ (HBN.out.trans (G0.out.mono HBN.out.size))).mono ?_); rintro e w7 ⟨rfl, hb7⟩; obtain ⟨z1, rfl⟩ : ∃ W, W = w7 := ⟨_, rfl⟩; have B1 := Lib.hid (box_next hb7 B0.out); have G1 := Lib.hid (G0.out.trans (hb7.mono G0.out.size)); obtain ⟨s0, s1, s2, s3, s4⟩ := row5 B1.out; clear hb7) | (go_at_call 55; (with_reducible refine (HN2.out _ (HBN.out.trans (G1.out.mono HBN.out.size))).mono ?_); rintro e w7 ⟨rfl, hb7⟩; obtain ⟨z2, rfl⟩ : ∃ W, W = w7 := ⟨_, rfl⟩; have B2 := Lib.hid (box_next hb7 B1.out); have G2 := Lib.hid (G1.out.trans (hb7.mono G1.out.size)); obtain ⟨s0, s1, s2, s3, s4⟩ := row5 B2.out; clear hb7))
                go_ret
                exact ⟨ret_bool (by rw [NO.out HRN.out]), HN0.out.trans (G2.out.mono HN0.out.size)⟩
              cases b3
              · rw [Bool.false_and, Bool.and_false, Bool.and_false, Bool.and_false] at HRN
                go_wp2_with (first | (go_at_call 53; (with_reducible refine (HM.out _).mono ?_); rintro e w7 ⟨rfl, hb7⟩; obtain ⟨z0, rfl⟩ : ∃ W, W = w7 := ⟨_, rfl⟩; have B0 := Lib.hid (box_next hb7 (heap_alloc_new wn _)); have G0 := Lib.hid (((Below.refl _ wn).alloc (Nat.le_refl _) (.cells #[.string (str x.name), .slice XA xa1 xa2, .slice XB xb1 xb2, .slice XC xc1 xc2, .slice XD x.items.length xd2] 41)).trans (hb7.mono (by simp))); obtain ⟨s0, s1, s2, s3, s4⟩ := row5 B0.out; clear hb7) | (go_at_call 55; (with_reducible refine (HN1.out _ (HBN.out.trans (G0.out.mono HBN.out.size))).mono ?_); rintro e w7 ⟨rfl, hb7⟩; obtain ⟨z1, rfl⟩ : ∃ W, W = w7 := ⟨_, rfl⟩; have B1 := Lib.hid (box_next hb7 B0.out); have G1 := Lib.hid (G0.out.trans (hb7.mono G0.out.size)); obtain ⟨s0, s1, s2, s3, s4⟩ := row5 B1.out; clear hb7) | (go_at_call 55; (with_reducible refine (HN2.out _ (HBN.out.trans (G1.out.mono HBN.out.size))).mono ?_); rintro e w7 ⟨rfl, hb7⟩; obtain ⟨z2, rfl⟩ : ∃ W, W = w7 := ⟨_, rfl⟩; have B2 := Lib.hid (box_next hb7 B1.out); have G2 := Lib.hid (G1.out.trans (hb7.mono G1.out.size)); obtain ⟨s0, s1, s2, s3, s4⟩ := row5 B2.out; clear hb7) | (go_at_call 55; (with_reducible refine (HN3.out _ (HBN.out.trans (G2.out.mono HBN.out.size))).mono ?_); rintro e w7 ⟨rfl, hb7⟩; obtain ⟨z3, rfl⟩ : ∃ W, W = w7 := ⟨_, rfl⟩; have B3 := Lib.hid (box_next hb7 B2.out); have G3 := Lib.hid (G2.out.trans (hb7.mono G2.out.size)); obtain ⟨s0, s1, s2, s3, s4⟩ := row5 B3.out; clear hb7))
                go_ret
                exact ⟨ret_bool (by rw [NO.out HRN.out]), HN0.out.trans (G3.out.mono HN0.out.size)⟩
              simp only [Bool.true_and, Bool.true_or] at HRN
              go_wp2_with (first | (go_at_call 53; (with_reducible refine (HM.out _).mono ?_); rintro e w7 ⟨rfl, hb7⟩; obtain ⟨z0, rfl⟩ : ∃ W, W = w7 := ⟨_, rfl⟩; have B0 := Lib.hid (box_next hb7 (heap_alloc_new wn _)); have G0 := Lib.hid (((Below.refl _ wn).alloc (Nat.le_refl _) (.cells #[.string (str x.name), .slice XA xa1 xa2, .slice XB xb1 xb2, .slice XC xc1 xc2, .slice XD x.items.length xd2] 41)).trans (hb7.mono (by simp))); obtain ⟨s0, s1, s2, s3, s4⟩ := row5 B0.out; clear hb7) | (go_at_call 55; (with_reducible refine (HN1.out _ (HBN.out.trans (G0.out.mono HBN.out.size))).mono ?_); rintro e w7 ⟨rfl, hb7⟩; obtain ⟨z1, rfl⟩ : ∃ W, W = w7 := ⟨_, rfl⟩; have B1 := Lib.hid (box_next hb7 B0.out); have G1 := Lib.hid (G0.out.trans (hb7.mono G0.out.size)); obtain ⟨s0, s1, s2, s3, s4⟩ := row5 B1.out; clear hb7) | (go_at_call 55; (with_reducible refine (HN2.out _ (HBN.out.trans (G1.out.mono HBN.out.size))).mono ?_); rintro e w7 ⟨rfl, hb7⟩; obtain ⟨z2, rfl⟩ : ∃ W, W = w7 := ⟨_, rfl⟩; have B2 := Lib.hid (box_next hb7 B1.out); have G2 := Lib.hid (G1.out.trans (hb7.mono G1.out.size)); obtain ⟨s0, s1, s2, s3, s4⟩ := row5 B2.out; clear hb7) | (go_at_call 55; (with_reducible refine (HN3.out _ (HBN.out.trans (G2.out.mono HBN.out.size))).mono ?_); rintro e w7 ⟨rfl, hb7⟩; obtain ⟨z3, rfl⟩ : ∃ W, W = w7 := ⟨_, rfl⟩; have B3 := Lib.hid (box_next hb7 B2.out); have G3 := Lib.hid (G2.out.trans (hb7.mono G2.out.size)); obtain ⟨s0, s1, s2, s3, s4⟩ := row5 B3.out; clear hb7))
              all_goals try (exfalso; omega)
              clear s0 s1 s2 s3 s4 x0 x1 x2 x3 x4 p0 p1
              go_loopg [8] x.items.length (fun g v wr => ∃ j : Nat, j + g = x.items.length ∧ v = .int .i64 j ∧ AllTo (rightItem true) x.items j ∧ Below z3.heap.size z3 wr)
              case atStart => exact ⟨0, by omega, rfl, AllTo.zero, Below.refl _ _⟩
              case round =>
                obtain ⟨j, hjg, rfl, hto, hbw⟩ := hrel
                obtain ⟨wy, rfl⟩ : ∃ W, W = wr := ⟨_, rfl⟩
                have JK := Lib.hid hjg
                have JT := Lib.hid hto
                have JW := Lib.hid hbw
                have JQ := Lib.hid (HN0.out.trans ((G3.out.trans (hbw.mono (by have := G3.out.size; omega))).mono HN0.out.size))
                have JB := Lib.hid (HW.out.trans (JQ.out.mono hsz))
                obtain ⟨s0, s1, s2, s3, s4⟩ := row5 (box_next hbw B3.out)
                have hjl : j ≤ x.items.length := by omega
                clear hjg hto hbw
                by_cases hlt3 : j < x.items.length
                · obtain ⟨u, hu⟩ : ∃ u, x.items[j]? = some u := ⟨_, List.getElem?_eq_getElem hlt3⟩
                  obtain ⟨U, hEU, hRU⟩ := HEX.out j u hu
                  have HF := Lib.hid (rItem_any true hRU)
                  obtain ⟨uA0, un0, uk0, uo1, us2, uo3, uA4, un4, uk4, uA5, un5, uk5, uA6, un6, uk6, rfl⟩ := ItemAt.shape hRU
                  obtain ⟨c2, rfl, hcb, hca, u0, u1, u2, u3, u4, u5, u6⟩ := elem7 (hEU.under JB.out)
                  have HU := Lib.hid hu
                  clear hu hEU hRU
                  cases hfx : rightItem true u
                  · have HFX := Lib.hid hfx
                    rw [hfx] at HF
                    clear hfx
                    go_wp2_with (go_at_call 56; (with_reducible refine (HF.out _ JB.out).mono ?_); rintro e w7 ⟨rfl, hb7⟩)
                    go_ret
                    exact ⟨ret_bool (by rw [NO.out (by rw [HRN.out, all_no HU.out HFX.out])]), JQ.out.trans (hb7.mono JQ.out.size)⟩
                  · have HFX := Lib.hid hfx
                    rw [hfx] at HF
                    clear hfx
                    go_wp2_with (go_at_call 56; (with_reducible refine (HF.out _ JB.out).mono ?_); rintro e w7 ⟨rfl, hb7⟩)
                    go_roundg (x.items.length - (j + 1))
                    case measure => have := JK.out; omega
                    case rel => exact ⟨j + 1, by omega, by go_num, JT.out.succ HU.out HFX.out, JW.out.trans (hb7.mono JW.out.size)⟩
                · have hje : j = x.items.length := by omega
                  have HJE := Lib.hid hje
                  clear hje
                  go_wp2_with fail
                  go_roundg (p.nodes.length - (k + 1))
                  case measure => have := HK.out; omega
                  case rel => exact ⟨k + 1, by omega, by go_num, HT.out.succ HX.out (by rw [HRN.out, JT.out.all HJE.out]), HVQ.out.trans ((G3.out.trans (JW.out.mono (by have := G3.out.size; omega))).mono HVQ.out.size)⟩
            · have hke : k = p.nodes.length := by omega
              have HKE := Lib.hid hke
              clear hke
              go_wp2_with fail
              go_ret
              exact ⟨ret_bool (by rw [HR.out, ENUMS.out, HT.out.all HKE.out]; rfl), HN0.out⟩
end Go.Proofs.YtbpbnebcbjacdaaGreat
