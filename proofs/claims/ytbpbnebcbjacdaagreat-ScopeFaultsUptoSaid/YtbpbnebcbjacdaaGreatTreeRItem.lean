/-
  The reference's Eq, Item.
-/
import Derived.Test.YtbpbnebcbjacdaaGreatTreeRExpr
import Derived.Test.YtbpbnebcbjacdaaGreatTreeMade
namespace Go.Proofs.YtbpbnebcbjacdaaGreat
open Go.RowKit

theorem eq_head {w : World} {L : List Value} {q : QEq} (h : EqAt w L q) : ∃ A0 n0 k0 o1 s2 o3 A4 n4 k4 A5 n5 k5, L = [.slice A0 n0 k0, .int .i64 o1, .string s2, .int .i64 o3, .slice A4 n4 k4, .slice A5 n5 k5] ∧ StrsAt w (.slice A0 n0 k0) q.names ∧ ExAt w [.int .i64 o1, .string s2, .int .i64 o3, .slice A4 n4 k4, .slice A5 n5 k5] q.e := by
  obtain ⟨nv, L', rfl, h1, h2⟩ := h
  obtain ⟨A0, n0, k0, rfl⟩ := SliceAt.shape h1
  obtain ⟨o1, s2, o3, A4, n4, k4, A5, n5, k5, rfl⟩ := h2.shape
  exact ⟨_, _, _, _, _, _, _, _, _, _, _, _, rfl, h1, h2⟩
set_option maxHeartbeats 1000000 in
theorem rEq_any (made : Bool) {w0 : World} {L : List Value} {q : QEq} (h : EqAt w0 L q) : ∀ w, Below w0.heap.size w0 w → Calls Tryz.prog 83 #[.agg L.toArray, .bool made] w (BoolPost (rightEq made q) w) := by
  intro w hw
  obtain ⟨A0, n0, k0, o1, s2, o3, A4, n4, k4, A5, n5, k5, rfl, h1, h2⟩ := eq_head h
  have HN := Lib.hid (rNames_any h1 1 6 made)
  have HE := Lib.hid (rExpr_any made h2)
  have HB := Lib.hid hw
  have hsz := hw.size
  have hr : rightEq made q = (decide ((1 : Int) ≤ q.names.length) && decide ((q.names.length : Int) ≤ 6) && q.names.all (nameM made) && rightX made q.e) := by rw [rightEq]; congr 1; exact allM_int q.names 1 6 _
  rw [hr]
  generalize (decide ((1 : Int) ≤ q.names.length) && decide ((q.names.length : Int) ≤ 6) && q.names.all (nameM made)) = b at HN
  generalize rightX made q.e = c at HE
  clear h h1 h2 hw hr
  cases b
  all_goals go_enter Tryz.func83, Tryz.ntmps83
  all_goals go_wp2_with (first
    | (go_at_call 55
       (with_reducible refine (HN.out _ (HB.out.alloc hsz _)).mono ?_)
       rintro e w7 ⟨rfl, hb7⟩
       obtain ⟨z1, rfl⟩ : ∃ W, W = w7 := ⟨_, rfl⟩
       have B1 := Lib.hid (box_next hb7 (heap_alloc_new w _))
       have G1 := Lib.hid (((Below.refl _ w).alloc (Nat.le_refl _) (.cells #[.slice A0 n0 k0, .int .i64 o1, .string s2, .int .i64 o3, .slice A4 n4 k4, .slice A5 n5 k5] 52)).trans (hb7.mono (by simp)))
       obtain ⟨p0, p1, p2, p3, p4, p5⟩ := row6 B1.out
       clear hb7)
    | (go_at_call 85
       (with_reducible refine (HE.out _ (HB.out.trans (G1.out.mono hsz))).mono ?_)
       rintro e w7 ⟨rfl, hb7⟩
       obtain ⟨z2, rfl⟩ : ∃ W, W = w7 := ⟨_, rfl⟩
       have G2 := Lib.hid (G1.out.trans (hb7.mono G1.out.size))
       clear hb7))
  all_goals go_ret
  · exact ⟨rfl, G1.out⟩
  · exact ⟨ret_bool (by simp), G2.out⟩
theorem none_at (w : World) : ExAt w [.int .i64 0, .string ⟨#[]⟩, .int .i64 0, .slice none 0 0, .slice none 0 0] noneX := ex_leaf w (op := 0) (n := 0) (nm := []) (i64_small (by omega)) (i64_small (by omega)) (len_small (by decide))
set_option maxHeartbeats 4000000 in
set_option maxRecDepth 100000 in
theorem rItem_any (made : Bool) {w0 : World} {L : List Value} {x : QItem} (h : ItemAt w0 L x) : ∀ w, Below w0.heap.size w0 w → Calls Tryz.prog 56 #[.agg L.toArray, .bool made] w (BoolPost (rightItem made x) w) := by
  intro w hw
  obtain ⟨L', sv, rfl, hE, ⟨S, c, rfl, hlc, hlm, hes⟩⟩ := h
  have HEq := Lib.hid (rEq_any made hE)
  obtain ⟨A0, n0, k0, o1, s2, o3, A4, n4, k4, A5, n5, k5, rfl, h1, h2⟩ := eq_head hE
  have HX := Lib.hid (rSameExpr_any x.eq.e noneX _ _ h2 (none_at w0))
  obtain ⟨A0, k0, e0, hn1, hn2, _⟩ := h1
  injection e0 with e1 e2 e3
  subst e1 e3
  have HN0 := Lib.hid e2
  have hnl : n0 ≤ 9223372036854775807 := by unfold maxLen at hn2; omega
  have hsl : x.states.length ≤ 9223372036854775807 := by unfold maxLen at hlm; omega
  have HB := Lib.hid hw
  have hsz := hw.size
  have HES := Lib.hid hes
  clear hE h2 hw hlc hlm hes hn1 hn2 e2
  by_cases h0 : x.states = []
  · have hr : rightItem made x = rightEq made x.eq := by rw [rightItem, if_pos h0]
    rw [hr]
    have hz : ((x.states.length : Int) == 0) = true := by simp [h0]
    have hz2 : (x.states.length : Int) = 0 := by simp [h0]
    generalize rightEq made x.eq = b at HEq
    clear h0 hr
    go_enter Tryz.func56, Tryz.ntmps56
    go_wp2_with (go_at_call 83; (with_reducible refine (HEq.out _ (HB.out.alloc hsz _)).mono ?_); rintro e w7 ⟨rfl, hb7⟩)
    go_ret
    exact ⟨rfl, ((Below.refl _ w).alloc (Nat.le_refl _) _).trans (hb7.mono (by simp))⟩
  have hz : ((x.states.length : Int) == 0) = false := by
    have : x.states.length ≠ 0 := fun e => h0 (List.length_eq_zero_iff.1 e)
    simp; omega
  have hpos : 1 ≤ x.states.length := by
    have : x.states.length ≠ 0 := fun e => h0 (List.length_eq_zero_iff.1 e)
    omega
  have hr : rightItem made x = (x.eq.names.isEmpty && (sameX x.eq.e noneX && allM x.states 1 8 (rightState made))) := by rw [rightItem, if_neg h0]
  have HR := Lib.hid hr
  clear h0 hr
  by_cases h1 : n0 = 0
  case neg =>
    have hg : 0 < n0 := by omega
    have HN := Lib.hid h1
    clear h1
    go_enter Tryz.func56, Tryz.ntmps56
    go_wp2_with fail
    go_ret
    exact ⟨ret_bool (by rw [HR.out, len0, ← HN0.out, decide_eq_false HN.out, Bool.false_and]), (Below.refl _ w).alloc (Nat.le_refl _) _⟩
  rw [len0, ← HN0.out, decide_eq_true h1, Bool.true_and] at HR
  subst h1
  cases h2 : sameX x.eq.e noneX
  · rw [h2] at HX HR
    rw [Bool.false_and] at HR
    clear h2
    go_enter Tryz.func56, Tryz.ntmps56
    go_wp2_with (go_at_call 84; (with_reducible refine (HX.out _ (HB.out.alloc hsz _)).mono ?_); rintro e w7 ⟨rfl, hb7⟩)
    go_ret
    exact ⟨ret_bool (by rw [HR.out]), ((Below.refl _ w).alloc (Nat.le_refl _) _).trans (hb7.mono (by simp))⟩
  rw [h2] at HX HR
  rw [Bool.true_and, allM_int] at HR
  clear h2
  by_cases h8 : 8 < x.states.length
  · have hg8 : (8 : Int) < x.states.length := by omega
    rw [decide_eq_false (show ¬(x.states.length : Int) ≤ ((8 : Nat) : Int) by omega), Bool.and_false, Bool.false_and] at HR
    clear h8
    go_enter Tryz.func56, Tryz.ntmps56
    go_wp2_with (go_at_call 84; (with_reducible refine (HX.out _ (HB.out.alloc hsz _)).mono ?_); rintro e w7 ⟨rfl, hb7⟩; obtain ⟨p0, p1, p2, p3, p4, p5, p6⟩ := row7 (box_next hb7 (heap_alloc_new w _)))
    go_ret
    exact ⟨ret_bool (by rw [HR.out]), ((Below.refl _ w).alloc (Nat.le_refl _) _).trans (hb7.mono (by simp))⟩
  have hg8 : ¬ (8 : Int) < x.states.length := by omega
  rw [decide_eq_true (show (x.states.length : Int) ≤ ((8 : Nat) : Int) by omega), decide_eq_true (show ((1 : Nat) : Int) ≤ (x.states.length : Int) by omega), Bool.true_and, Bool.true_and] at HR
  clear h8
  go_enter Tryz.func56, Tryz.ntmps56
  go_wp2_with (go_at_call 84; (with_reducible refine (HX.out _ (HB.out.alloc hsz _)).mono ?_); rintro e w7 ⟨rfl, hb7⟩; obtain ⟨Z, rfl⟩ : ∃ W, W = w7 := ⟨_, rfl⟩; have BZ := Lib.hid (box_next hb7 (heap_alloc_new w _)); have HZ := Lib.hid (((Below.refl _ w).alloc (Nat.le_refl _) (.cells #[.slice A0 0 k0, .int .i64 o1, .string s2, .int .i64 o3, .slice A4 n4 k4, .slice A5 n5 k5, .slice S x.states.length c] 55)).trans (hb7.mono (by simp))); obtain ⟨p0, p1, p2, p3, p4, p5, p6⟩ := row7 BZ.out; clear hb7)
  clear p0 p1 p2 p3 p4 p5 p6
  go_loopg [5] x.states.length (fun g v wr => ∃ k : Nat, k + g = x.states.length ∧ v = .int .i64 k ∧ AllTo (rightState made) x.states k ∧ Below Z.heap.size Z wr)
  case atStart => exact ⟨0, by omega, rfl, AllTo.zero, Below.refl _ _⟩
  case round =>
    obtain ⟨k, hkg, rfl, hto, hbw⟩ := hrel
    obtain ⟨wq, rfl⟩ : ∃ W, W = wr := ⟨_, rfl⟩
    have HK := Lib.hid hkg
    have HT := Lib.hid hto
    have HQ := Lib.hid (HZ.out.trans (hbw.mono HZ.out.size))
    have HZQ := Lib.hid hbw
    have HBQ := Lib.hid (HB.out.trans (HQ.out.mono hsz))
    obtain ⟨p0, p1, p2, p3, p4, p5, p6⟩ := row7 (box_next hbw BZ.out)
    have hkl : k ≤ x.states.length := by omega
    clear hkg hto hbw
    by_cases hlt : k < x.states.length
    · obtain ⟨s, hs⟩ : ∃ s, x.states[k]? = some s := ⟨_, List.getElem?_eq_getElem hlt⟩
      obtain ⟨X, hEX, ev, wv, rfl, hsn, ⟨E, ce, rfl, hec, hem, hee⟩, ⟨V, cv, rfl, hvc, hvm, hve⟩⟩ := HES.out k s hs
      have hel : s.eqs.length ≤ 9223372036854775807 := by unfold maxLen at hem; omega
      have hvl : s.ways.length ≤ 9223372036854775807 := by unfold maxLen at hvm; omega
      have HC := Lib.hid (fun w => rConstructor_any s.name made w hsn)
      have HEE := Lib.hid hee
      have HVE := Lib.hid hve
      obtain ⟨a, rfl, ha, haa, d0, d1, d2⟩ := elem3 (hEX.under HBQ.out)
      have HS := Lib.hid hs
      have hst : rightState made s = (conM made s.name && (decide ((s.eqs.length : Int) ≤ 24) && s.eqs.all (rightEq made) && (decide ((s.ways.length : Int) ≤ 4) && s.ways.all (rightWay made)))) := by
        rw [rightState, allM_int, allM_int]
        simp
      have HST := Lib.hid hst
      have NO := Lib.hid (fun (h : rightState made s = false) => show rightItem made x = false by rw [HR.out, all_no HS.out h])
      clear hEX hs hec hem hee hvc hvm hve hsn hst
      cases hc : conM made s.name
      · rw [hc] at HC HST
        rw [Bool.false_and] at HST
        clear hc
        go_wp2_with (go_at_call 82; (with_reducible refine (HC.out _).mono ?_); rintro e w7 ⟨rfl, hb7⟩)
        go_ret
        exact ⟨ret_bool (by rw [NO.out HST.out]), (HQ.out.alloc HQ.out.size _).trans (hb7.mono (by have := HQ.out.size; simp; omega))⟩
      rw [hc] at HC HST
      rw [Bool.true_and] at HST
      clear hc
      by_cases h24 : (24 : Int) < s.eqs.length
      · rw [decide_eq_false (show ¬(s.eqs.length : Int) ≤ 24 by omega), Bool.false_and, Bool.false_and] at HST
        go_wp2_with (go_at_call 82; (with_reducible refine (HC.out _).mono ?_); rintro e w7 ⟨rfl, hb7⟩; obtain ⟨q0, q1, q2⟩ := row3 (box_next hb7 (heap_alloc_new wq _)))
        go_ret
        exact ⟨ret_bool (by rw [NO.out HST.out]), (HQ.out.alloc HQ.out.size _).trans (hb7.mono (by have := HQ.out.size; simp; omega))⟩
      rw [decide_eq_true (show (s.eqs.length : Int) ≤ 24 by omega), Bool.true_and] at HST
      by_cases h4 : (4 : Int) < s.ways.length
      · rw [decide_eq_false (show ¬(s.ways.length : Int) ≤ 4 by omega), Bool.false_and, Bool.and_false] at HST
        go_wp2_with (go_at_call 82; (with_reducible refine (HC.out _).mono ?_); rintro e w7 ⟨rfl, hb7⟩; obtain ⟨q0, q1, q2⟩ := row3 (box_next hb7 (heap_alloc_new wq _)))
        go_ret
        exact ⟨ret_bool (by rw [NO.out HST.out]), (HQ.out.alloc HQ.out.size _).trans (hb7.mono (by have := HQ.out.size; simp; omega))⟩
      rw [decide_eq_true (show (s.ways.length : Int) ≤ 4 by omega), Bool.true_and] at HST
      go_wp2_with (go_at_call 82; (with_reducible refine (HC.out _).mono ?_); rintro e w7 ⟨rfl, hb7⟩; obtain ⟨Y, rfl⟩ : ∃ W, W = w7 := ⟨_, rfl⟩; have BY := Lib.hid (box_next hb7 (heap_alloc_new wq _)); have HYQ := Lib.hid (((Below.refl _ wq).alloc (Nat.le_refl _) (.cells #[.string (str s.name), .slice E s.eqs.length ce, .slice V s.ways.length cv] 71)).trans (hb7.mono (by simp))); have BX := Lib.hid (box_next HYQ.out (box_next HZQ.out BZ.out)); obtain ⟨q0, q1, q2⟩ := row3 BY.out; clear hb7)
      all_goals try (exfalso; omega)
      clear h24 h4 q0 q1 q2 d0 d1 d2 p0 p1 p2 p3 p4 p5 p6
      have HY := Lib.hid (HQ.out.trans (HYQ.out.mono HQ.out.size))
      go_loopg [7] s.eqs.length (fun g v wr => ∃ j : Nat, j + g = s.eqs.length ∧ v = .int .i64 j ∧ AllTo (rightEq made) s.eqs j ∧ Below Y.heap.size Y wr)
      case atStart => exact ⟨0, by omega, rfl, AllTo.zero, Below.refl _ _⟩
      case round =>
        obtain ⟨j, hjg, rfl, hto, hbw⟩ := hrel
        obtain ⟨wy, rfl⟩ : ∃ W, W = wr := ⟨_, rfl⟩
        have JK := Lib.hid hjg
        have JT := Lib.hid hto
        have JQ := Lib.hid (HY.out.trans (hbw.mono HY.out.size))
        have JY := Lib.hid hbw
        have JB := Lib.hid (HB.out.trans (JQ.out.mono hsz))
        obtain ⟨q0, q1, q2⟩ := row3 (box_next hbw BY.out)
        obtain ⟨p0, p1, p2, p3, p4, p5, p6⟩ := row7 (box_next hbw BX.out)
        have hjl : j ≤ s.eqs.length := by omega
        clear hjg hto hbw
        by_cases hlt2 : j < s.eqs.length
        · obtain ⟨y, hy⟩ : ∃ y, s.eqs[j]? = some y := ⟨_, List.getElem?_eq_getElem hlt2⟩
          obtain ⟨U, hEU, hRU⟩ := HEE.out j y hy
          have HF := Lib.hid (rEq_any made hRU)
          obtain ⟨u0, u1, u2, u3, u4, u5, u6, u7, u8, u9, u10, u11, rfl⟩ := EqAt.shape hRU
          obtain ⟨b, rfl, hb, hba, e0, e1, e2, e3, e4, e5⟩ := elem6 (hEU.under JB.out)
          have HYy := Lib.hid hy
          clear hEU hRU hy
          cases hfx : rightEq made y
          · have HFX := Lib.hid hfx
            rw [hfx] at HF
            clear hfx
            go_wp2_with (go_at_call 83; (with_reducible refine (HF.out _ JB.out).mono ?_); rintro e w7 ⟨rfl, hb7⟩)
            go_ret
            exact ⟨ret_bool (by rw [NO.out (by rw [HST.out, all_no HYy.out HFX.out, Bool.false_and])]), JQ.out.trans (hb7.mono JQ.out.size)⟩
          · have HFX := Lib.hid hfx
            rw [hfx] at HF
            clear hfx
            go_wp2_with (go_at_call 83; (with_reducible refine (HF.out _ JB.out).mono ?_); rintro e w7 ⟨rfl, hb7⟩)
            go_roundg (s.eqs.length - (j + 1))
            case measure => have := JK.out; omega
            case rel => exact ⟨j + 1, by omega, by go_num, JT.out.succ HYy.out HFX.out, JY.out.trans (hb7.mono JY.out.size)⟩
        · have hje : j = s.eqs.length := by omega
          have EQS := Lib.hid (JT.out.all hje)
          clear hje
          go_wp2_with fail
          clear hlt2 hjl JK JT p0 p1 p2 p3 p4 p5 p6 q0 q1 q2
          go_loopg [8] s.ways.length (fun g v wr => ∃ j : Nat, j + g = s.ways.length ∧ v = .int .i64 j ∧ AllTo (rightWay made) s.ways j ∧ Below Y.heap.size Y wr)
          case atStart => exact ⟨0, by omega, rfl, AllTo.zero, JY.out⟩
          case round =>
            obtain ⟨i, hig, rfl, hto, hbw⟩ := hrel
            obtain ⟨wz, rfl⟩ : ∃ W, W = wr := ⟨_, rfl⟩
            have IK := Lib.hid hig
            have IT := Lib.hid hto
            have IQ := Lib.hid (HY.out.trans (hbw.mono HY.out.size))
            have IY := Lib.hid hbw
            have IB := Lib.hid (HB.out.trans (IQ.out.mono hsz))
            have IS := Lib.hid (box_next hbw BY.out)
            obtain ⟨q0, q1, q2⟩ := row3 IS.out
            obtain ⟨p0, p1, p2, p3, p4, p5, p6⟩ := row7 (box_next hbw BX.out)
            have hil : i ≤ s.ways.length := by omega
            clear hig hto hbw
            by_cases hlt3 : i < s.ways.length
            · obtain ⟨y, hy⟩ : ∃ y, s.ways[i]? = some y := ⟨_, List.getElem?_eq_getElem hlt3⟩
              obtain ⟨U, hEU, U', rfl, hRU, hyt⟩ := HVE.out i y hy
              have HF := Lib.hid (rExpr_any made hRU)
              have HG := Lib.hid (fun w => rConstructor_any y.to made w hyt)
              obtain ⟨u1, u2, u3, u4, u5, u6, u7, u8, u9, rfl⟩ := hRU.shape
              have EU := Lib.hid hEU
              obtain ⟨b, rfl, hb, hba, e0, e1, e2, e3, e4, e5⟩ := elem6 (hEU.under IB.out)
              have HYy := Lib.hid hy
              clear hEU hRU hy hyt
              cases hgx : conM made y.to
              · have HGX := Lib.hid hgx
                rw [hgx] at HG
                clear hgx
                go_wp2_with (go_at_call 82; (with_reducible refine (HG.out _).mono ?_); rintro e w7 ⟨rfl, hb7⟩)
                go_ret
                exact ⟨ret_bool (by rw [NO.out (by rw [HST.out, all_no (f := rightWay made) HYy.out (by rw [rightWay, HGX.out, Bool.false_and]), Bool.and_false])]), IQ.out.trans (hb7.mono IQ.out.size)⟩
              have HGX := Lib.hid hgx
              rw [hgx] at HG
              clear hgx
              cases hfx : rightX made y.cond
              · have HFX := Lib.hid hfx
                rw [hfx] at HF
                clear hfx
                go_wp2_with (first
                  | (go_at_call 82
                     (with_reducible refine (HG.out _).mono ?_)
                     rintro e w7 ⟨rfl, hb7⟩
                     obtain ⟨z7, rfl⟩ : ∃ W, W = w7 := ⟨_, rfl⟩
                     have G7 := Lib.hid hb7
                     obtain ⟨_, ea, _, _, e0, e1, e2, e3, e4, e5⟩ := elem6 (EU.out.under (IB.out.trans (hb7.mono IB.out.size)))
                     obtain rfl := Option.some.inj ea
                     obtain ⟨q0, q1, q2⟩ := row3 (box_next hb7 IS.out)
                     clear hb7)
                  | (go_at_call 85
                     (with_reducible refine (HF.out _ (IB.out.trans (G7.out.mono IB.out.size))).mono ?_)
                     rintro e w8 ⟨rfl, hb8⟩))
                go_ret
                exact ⟨ret_bool (by rw [NO.out (by rw [HST.out, all_no (f := rightWay made) HYy.out (by rw [rightWay, HFX.out, Bool.and_false]), Bool.and_false])]), IQ.out.trans ((G7.out.trans (hb8.mono G7.out.size)).mono IQ.out.size)⟩
              · have HFX := Lib.hid hfx
                rw [hfx] at HF
                clear hfx
                go_wp2_with (first
                  | (go_at_call 82
                     (with_reducible refine (HG.out _).mono ?_)
                     rintro e w7 ⟨rfl, hb7⟩
                     obtain ⟨z7, rfl⟩ : ∃ W, W = w7 := ⟨_, rfl⟩
                     have G7 := Lib.hid hb7
                     obtain ⟨_, ea, _, _, e0, e1, e2, e3, e4, e5⟩ := elem6 (EU.out.under (IB.out.trans (hb7.mono IB.out.size)))
                     obtain rfl := Option.some.inj ea
                     obtain ⟨q0, q1, q2⟩ := row3 (box_next hb7 IS.out)
                     clear hb7)
                  | (go_at_call 85
                     (with_reducible refine (HF.out _ (IB.out.trans (G7.out.mono IB.out.size))).mono ?_)
                     rintro e w8 ⟨rfl, hb8⟩))
                go_roundg (s.ways.length - (i + 1))
                case measure => have := IK.out; omega
                case rel => exact ⟨i + 1, by omega, by go_num, IT.out.succ HYy.out (by rw [rightWay, HFX.out, HGX.out]; rfl), IY.out.trans ((G7.out.trans (hb8.mono G7.out.size)).mono IY.out.size)⟩
            · have hie : i = s.ways.length := by omega
              have WAYS := Lib.hid (IT.out.all hie)
              clear hie
              go_wp2_with fail
              go_roundg (x.states.length - (k + 1))
              case measure => have := HK.out; omega
              case rel => exact ⟨k + 1, by omega, by go_num, HT.out.succ HS.out (by rw [HST.out, EQS.out, WAYS.out]; rfl), HZQ.out.trans ((HYQ.out.trans (IY.out.mono HYQ.out.size)).mono HZQ.out.size)⟩
    · have hke : k = x.states.length := by omega
      have HKE := Lib.hid hke
      clear hke
      go_wp2_with fail
      go_ret
      exact ⟨ret_bool (by rw [HR.out, HT.out.all HKE.out]), HQ.out⟩
end Go.Proofs.YtbpbnebcbjacdaaGreat
