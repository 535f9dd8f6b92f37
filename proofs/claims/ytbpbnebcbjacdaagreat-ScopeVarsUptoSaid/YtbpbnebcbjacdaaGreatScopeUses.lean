/-
  uses: does an item use names correctly?
-/
import Derived.Test.YtbpbnebcbjacdaaGreatScopeExpr
namespace Go.Proofs.YtbpbnebcbjacdaaGreat
open Go.RowKit
open Go.ChangeMaps Go.MapKept
open Go.Maps

section
variable {S P e1 c1 n1 t1 f1 v1 : Nat} {nd : Value × Value × Value × Value × Value} {s : SNode}
def stateUses (s : SNode) (q : QState) : Bool := (q.eqs.all fun e => usesX s 1 true e.e) && q.ways.all fun y => usesX s 1 true y.cond
theorem rightItem_parts {made : Bool} {i : QItem} (h : rightItem made i = true) : (i.states = [] → rightX made i.eq.e = true) ∧ ∀ q ∈ i.states, (∀ e ∈ q.eqs, rightX made e.e = true) ∧ ∀ y ∈ q.ways, rightX made y.cond = true := by
  unfold rightItem at h
  by_cases h0 : i.states = []
  · rw [if_pos h0] at h
    refine ⟨fun _ => ?_, fun q hq => by rw [h0] at hq; cases hq⟩
    unfold rightEq at h
    rw [Bool.and_eq_true] at h
    exact h.2
  · rw [if_neg h0, Bool.and_eq_true, Bool.and_eq_true] at h
    refine ⟨fun e => absurd e h0, fun q hq => ?_⟩
    have h1 := h.2.2
    unfold allM at h1
    rw [Bool.and_eq_true, List.all_eq_true] at h1
    have h2 := h1.2 q hq
    unfold rightState allM at h2
    simp only [Bool.and_eq_true, List.all_eq_true] at h2
    refine ⟨fun e he => ?_, fun y hy => ?_⟩
    · have := h2.2.1.2 e he
      unfold rightEq at this
      rw [Bool.and_eq_true] at this
      exact this.2
    · have := h2.2.2.2 y hy
      unfold rightWay at this
      rw [Bool.and_eq_true] at this
      exact this.2
set_option maxHeartbeats 8000000 in
set_option maxRecDepth 100000 in
theorem uses_any {made : Bool} {w0 : World} (h0 : NScope w0 S P e1 c1 n1 t1 f1 v1 nd s) {L : List Value} {i : QItem} (hL : ItemAt w0 L i) (hr : rightItem made i = true) : ∀ w, Below w0.heap.size w0 w →
    Calls Tryz.prog 47 #[.pointer (some ⟨S, 0, none⟩), .agg L.toArray] w (BoolPost (usesItem s i) w) := by
  intro w hb
  have H0 := Lib.hid h0
  have HB := Lib.hid hb
  have hsz := hb.size
  obtain ⟨hr1, hr2⟩ := rightItem_parts hr
  obtain ⟨L', sv, rfl, hEq, hst⟩ := hL
  obtain ⟨⟨nl, ex⟩, sts⟩ := i
  obtain ⟨nv, Le, rfl, hnv, hxe⟩ := hEq
  replace hnv : StrsAt w0 nv nl := hnv
  replace hxe : ExAt w0 Le ex := hxe
  replace hst : SliceAt w0 (StateAt w0) sv sts := hst
  have HR1 := Lib.hid hr1
  have HR2 := Lib.hid hr2
  have HX := Lib.hid hxe
  obtain ⟨A0, k0, rfl, hnc, hnm, _⟩ := hnv
  have hnl : nl.length ≤ 9223372036854775807 := by unfold maxLen at hnm; omega
  obtain ⟨o1, s2, o3, A4, n4, k4, A5, n5, k5, rfl⟩ := hxe.shape
  obtain ⟨sA, sc, rfl, hsc, hsm, hes⟩ := hst
  have hsl : sts.length ≤ 9223372036854775807 := by unfold maxLen at hsm; omega
  have HES := Lib.hid hes
  simp only [List.cons_append, List.nil_append]
  clear hb hes hsc hsm hxe hnc hnm hr hr1 hr2 h0
  by_cases hs0 : sts = []
  · have HE := Lib.hid (scopeExpr_any H0.out HX.out (HR1.out hs0))
    subst hs0
    have HQ := Lib.hid (show usesItem s ⟨⟨nl, ex⟩, []⟩ = usesX s nl.length false ex from rfl)
    simp only [List.length_nil] at *
    go_enter Tryz.func47, Tryz.ntmps47
    go_wp2_with (go_at_call 78
                 (with_reducible refine (HE.out _ _ _ (HB.out.alloc (by omega) _)).mono ?_)
                 rintro e w1 ⟨rfl, hb1⟩)
    go_ret
    exact ⟨ret_bool HQ.out.symm, ((Below.refl _ w).alloc (Nat.le_refl _) _).trans (hb1.mono (by simp))⟩
  · have HQ := Lib.hid (show usesItem s ⟨⟨nl, ex⟩, sts⟩ = sts.all (stateUses s) by rw [usesItem, if_neg hs0]; rfl)
    have hd : ((sts.length : Int) == 0) = false := by cases sts with
      | nil => exact absurd rfl hs0
      | cons a b => simp; omega
    clear hs0
    go_enter Tryz.func47, Tryz.ntmps47
    go_wp2_with fail
    have a1 : Below w.heap.size w (w.alloc (.cells #[.slice A0 nl.length k0, .int .i64 o1, .string s2, .int .i64 o3, .slice A4 n4 k4, .slice A5 n5 k5, .slice sA sts.length sc] 55)) := (Below.refl _ w).alloc (Nat.le_refl _) _
    have HV := Lib.hid (a1.alloc (by simp) (.cells #[.int .i64 1, .bool true] 116))
    have BP := Lib.hid (show ((w.alloc (.cells #[.slice A0 nl.length k0, .int .i64 o1, .string s2, .int .i64 o3, .slice A4 n4 k4, .slice A5 n5 k5, .slice sA sts.length sc] 55)).alloc (.cells #[.int .i64 1, .bool true] 116)).heap[w.heap.size + 1]? = some (.cells #[.int .i64 1, .bool true] 116 (0, 0)) from alloc_at (by simp))
    generalize (w.alloc (.cells #[.slice A0 nl.length k0, .int .i64 o1, .string s2, .int .i64 o3, .slice A4 n4 k4, .slice A5 n5 k5, .slice sA sts.length sc] 55)).alloc (.cells #[.int .i64 1, .bool true] 116) = V at *
    clear a1
    go_loopg [30] sts.length (fun g v wr => ∃ k : Nat, k + g = sts.length ∧ v = .int .i64 k ∧ AllTo (stateUses s) sts k ∧ Below V.heap.size V wr)
    case atStart => exact ⟨0, by omega, rfl, AllTo.zero, Below.refl _ _⟩
    case round =>
      obtain ⟨k, hkg, rfl, hto, hbw⟩ := hrel
      obtain ⟨wq, rfl⟩ : ∃ W, W = wr := ⟨_, rfl⟩
      have HK := Lib.hid hkg
      have HT := Lib.hid hto
      have HW := Lib.hid hbw
      have HQW := Lib.hid (HV.out.trans (hbw.mono HV.out.size))
      have HBQ := Lib.hid (HB.out.trans (HQW.out.mono hsz))
      have hkl : k ≤ sts.length := by omega
      clear hkg hto hbw
      by_cases hlt : k < sts.length
      · obtain ⟨st, hst⟩ : ∃ st, sts[k]? = some st := ⟨_, List.getElem?_eq_getElem hlt⟩
        obtain ⟨hre, hry⟩ := HR2.out st (List.mem_of_getElem? hst)
        have HRE := Lib.hid hre
        have HRY := Lib.hid hry
        have HST := Lib.hid hst
        obtain ⟨X, hEX, ev, wv, rfl, hsn, ⟨E, ce, rfl, hec, hem, hee⟩, ⟨VV, cv, rfl, hvc, hvm, hve⟩⟩ := HES.out k st hst
        have hel : st.eqs.length ≤ 9223372036854775807 := by unfold maxLen at hem; omega
        have hvl : st.ways.length ≤ 9223372036854775807 := by unfold maxLen at hvm; omega
        have HEE := Lib.hid hee
        have HVE := Lib.hid hve
        obtain ⟨a, rfl, ha, haa, d0, d1, d2⟩ := elem3 (hEX.under HBQ.out)
        clear hEX hec hem hee hvc hvm hve hsn hst hre hry
        go_wp2_with fail
        have BY := Lib.hid (heap_alloc_new wq (.cells #[.string (str st.name), .slice E st.eqs.length ce, .slice VV st.ways.length cv] 71))
        have HY := Lib.hid ((Below.refl wq.heap.size wq).alloc (Nat.le_refl _) (.cells #[.string (str st.name), .slice E st.eqs.length ce, .slice VV st.ways.length cv] 71))
        generalize wq.alloc (.cells #[.string (str st.name), .slice E st.eqs.length ce, .slice VV st.ways.length cv] 71) = Y at *
        clear d0 d1 d2
        have HYW := Lib.hid (HQW.out.trans (HY.out.mono HQW.out.size))
        go_loopg [37] st.eqs.length (fun g v wr => ∃ j : Nat, j + g = st.eqs.length ∧ v = .int .i64 j ∧ AllTo (fun e : QEq => usesX s 1 true e.e) st.eqs j ∧ Below Y.heap.size Y wr)
        case atStart => exact ⟨0, by omega, rfl, AllTo.zero, Below.refl _ _⟩
        case round =>
          obtain ⟨j, hjg, rfl, hto, hbw⟩ := hrel
          obtain ⟨wy, rfl⟩ : ∃ W, W = wr := ⟨_, rfl⟩
          have JK := Lib.hid hjg
          have JT := Lib.hid hto
          have JY := Lib.hid hbw
          have JQ := Lib.hid (HYW.out.trans (hbw.mono HYW.out.size))
          have JB := Lib.hid (HB.out.trans (JQ.out.mono hsz))
          have JV := Lib.hid (HW.out.trans ((HY.out.mono HW.out.size).trans (hbw.mono (Nat.le_trans HW.out.size HY.out.size))))
          obtain ⟨q0, q1, q2⟩ := row3 (box_next hbw BY.out)
          obtain ⟨g0, g1⟩ := row2 (box_next JV.out BP.out)
          have hpl := lt_of_heap (box_next JV.out BP.out)
          have hjl : j ≤ st.eqs.length := by omega
          clear hjg hto hbw
          by_cases hlt2 : j < st.eqs.length
          · obtain ⟨y, hy⟩ : ∃ y, st.eqs[j]? = some y := ⟨_, List.getElem?_eq_getElem hlt2⟩
            obtain ⟨U, hEU, nv2, L2, rfl, hn2, hx2⟩ := HEE.out j y hy
            have HF := Lib.hid (scopeExpr_any H0.out hx2 (HRE.out y (List.mem_of_getElem? hy)))
            obtain ⟨u0, u1, u2, rfl⟩ := SliceAt.shape hn2
            obtain ⟨u3, u4, u5, u6, u7, u8, u9, u10, u11, rfl⟩ := hx2.shape
            obtain ⟨b, rfl, hb, hba, e0, e1, e2, e3, e4, e5⟩ := elem6 (hEU.under JB.out)
            have HYy := Lib.hid hy
            clear hEU hn2 hx2 hy
            have hal := Lib.hid ((Below.refl wy.heap.size wy).alloc (Nat.le_refl _) (.cells #[.slice u0 u1 u2, .int .i64 u3, .string u4, .int .i64 u5, .slice u6 u7 u8, .slice u9 u10 u11] 52))
            cases hq : usesX s 1 true y.e
            · have HQY := Lib.hid hq
              clear hq
              go_wp2_with (go_at_call 78
                           (with_reducible refine (HF.out 1 true _ (JB.out.alloc JB.out.size _)).mono ?_)
                           rintro e w7 ⟨he, hb7⟩
                           rw [HQY.out] at he
                           subst he)
              go_ret
              exact ⟨ret_bool (by rw [HQ.out, all_no HST.out (by rw [stateUses, all_no HYy.out HQY.out]; rfl)]), JQ.out.trans ((hal.out.mono JQ.out.size).trans (hb7.mono (by have := JQ.out.size; simp; omega)))⟩
            · have HQY := Lib.hid hq
              clear hq
              go_wp2_with (go_at_call 78
                           (with_reducible refine (HF.out 1 true _ (JB.out.alloc JB.out.size _)).mono ?_)
                           rintro e w7 ⟨he, hb7⟩
                           rw [HQY.out] at he
                           subst he)
              go_roundg (st.eqs.length - (j + 1))
              case measure => have := JK.out; omega
              case rel => exact ⟨j + 1, by omega, by go_num, JT.out.succ HYy.out HQY.out, JY.out.trans ((hal.out.mono JY.out.size).trans (hb7.mono (by have := JY.out.size; simp; omega)))⟩
          · have hje : j = st.eqs.length := by omega
            have HJE := Lib.hid (show (st.eqs.all fun e => usesX s 1 true e.e) = true from JT.out.all hje)
            have BYY := Lib.hid (box_next JY.out BY.out)
            have BPY := Lib.hid (box_next JV.out BP.out)
            clear hje
            go_wp2_with fail
            obtain ⟨Z, hZ⟩ : ∃ W, W = wy := ⟨_, rfl⟩
            clear q0 q1 q2 g0 g1
            rw [← hZ] at BYY BPY JY JQ JB JV ⊢
            clear hZ
            go_loopg [51] st.ways.length (fun g v wr => ∃ m : Nat, m + g = st.ways.length ∧ v = .int .i64 m ∧ AllTo (fun y : QWay => usesX s 1 true y.cond) st.ways m ∧ Below Z.heap.size Z wr)
            case atStart => exact ⟨0, by omega, rfl, AllTo.zero, Below.refl _ _⟩
            case round =>
              obtain ⟨m, hmg, rfl, hto, hbw⟩ := hrel
              obtain ⟨wz, rfl⟩ : ∃ W, W = wr := ⟨_, rfl⟩
              have MK := Lib.hid hmg
              have MT := Lib.hid hto
              have MY := Lib.hid hbw
              have MQ := Lib.hid (JQ.out.trans (hbw.mono JQ.out.size))
              have MB := Lib.hid (HB.out.trans (MQ.out.mono hsz))
              have MV := Lib.hid (JV.out.trans (hbw.mono JV.out.size))
              obtain ⟨q0, q1, q2⟩ := row3 (box_next hbw BYY.out)
              obtain ⟨g0, g1⟩ := row2 (box_next hbw BPY.out)
              have hpl2 := lt_of_heap (box_next hbw BPY.out)
              have hml : m ≤ st.ways.length := by omega
              clear hmg hto hbw
              by_cases hlt3 : m < st.ways.length
              · obtain ⟨y, hy⟩ : ∃ y, st.ways[m]? = some y := ⟨_, List.getElem?_eq_getElem hlt3⟩
                obtain ⟨U, hEU, L6, rfl, hce, hyt⟩ := HVE.out m y hy
                have HF := Lib.hid (scopeExpr_any H0.out hce (HRY.out y (List.mem_of_getElem? hy)))
                obtain ⟨u1, u2, u3, u4, u5, u6, u7, u8, u9, rfl⟩ := hce.shape
                simp only [List.cons_append, List.nil_append] at hEU
                obtain ⟨b, rfl, hb, hba, e0, e1, e2, e3, e4, e5⟩ := elem6 (hEU.under MB.out)
                have HYy := Lib.hid hy
                clear hEU hce hy hyt
                have hal := Lib.hid ((Below.refl wz.heap.size wz).alloc (Nat.le_refl _) (.cells #[.int .i64 u1, .string u2, .int .i64 u3, .slice u4 u5 u6, .slice u7 u8 u9, .string (str y.to)] 102))
                cases hq : usesX s 1 true y.cond
                · have HQY := Lib.hid hq
                  clear hq
                  go_wp2_with (go_at_call 78
                               (with_reducible refine (HF.out 1 true _ (MB.out.alloc MB.out.size _)).mono ?_)
                               rintro e w7 ⟨he, hb7⟩
                               rw [HQY.out] at he
                               subst he)
                  go_ret
                  exact ⟨ret_bool (by rw [HQ.out, all_no HST.out (by rw [stateUses, all_no HYy.out HQY.out, Bool.and_false])]), MQ.out.trans ((hal.out.mono MQ.out.size).trans (hb7.mono (by have := MQ.out.size; simp; omega)))⟩
                · have HQY := Lib.hid hq
                  clear hq
                  go_wp2_with (go_at_call 78
                               (with_reducible refine (HF.out 1 true _ (MB.out.alloc MB.out.size _)).mono ?_)
                               rintro e w7 ⟨he, hb7⟩
                               rw [HQY.out] at he
                               subst he)
                  go_roundg (st.ways.length - (m + 1))
                  case measure => have := MK.out; omega
                  case rel => exact ⟨m + 1, by omega, by go_num, MT.out.succ HYy.out HQY.out, MY.out.trans ((hal.out.mono MY.out.size).trans (hb7.mono (by have := MY.out.size; simp; omega)))⟩
              · have hme : m = st.ways.length := by omega
                have HME := Lib.hid (show stateUses s st = true by rw [stateUses, HJE.out, MT.out.all hme]; rfl)
                clear hme
                go_wp2_with fail
                go_roundg (sts.length - (k + 1))
                case measure => have := HK.out; omega
                case rel => exact ⟨k + 1, by omega, by go_num, HT.out.succ HST.out HME.out, MV.out⟩
      · have hke : k = sts.length := by omega
        have HKE := Lib.hid (show usesItem s ⟨⟨nl, ex⟩, sts⟩ = true by rw [HQ.out, HT.out.all hke])
        clear hke
        go_wp2_with fail
        go_ret
        exact ⟨ret_bool HKE.out.symm, HQW.out⟩
end
end Go.Proofs.YtbpbnebcbjacdaaGreat
