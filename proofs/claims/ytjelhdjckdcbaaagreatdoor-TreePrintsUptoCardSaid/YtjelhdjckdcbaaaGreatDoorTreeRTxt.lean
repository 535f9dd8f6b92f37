/-
  The reference's names, eq, item.
  The reference's item: an item's text.
  The reference's Text: a program's text.
-/
import Derived.Test.YtjelhdjckdcbaaaGreatDoorTreeRShw
namespace Go.Proofs.YtjelhdjckdcbaaaGreatDoor
open Go.RowKit

set_option maxHeartbeats 1000000 in
theorem rNamesS_any {va : Value} {l : List Tx} {w : World} (ha : StrsAt w va l) (hs : (namesS l).length ≤ 1073741824) :
    Calls Tryz.prog 69 #[va] w (StrSame (namesS l) w) := by
  have ht : 1 + (str (padL [44] l)).size + 2 ≤ 1073741824 := by rw [str_size]; simp only [namesS, List.length_append, List.length_cons, List.length_nil] at hs; omega
  have HPAD := Lib.hid (rPad44s ha (by rw [← str_size]; omega))
  obtain ⟨A, c, rfl, _⟩ := ha
  clear hs
  go_enter Tryz.func69, Tryz.ntmps69
  go_wp2_with (go_at_call 24; (with_reducible refine HPAD.out.mono ?_); rintro e w' ⟨rfl, rfl⟩)
  go_ret
  exact ⟨ret_strB (by rw [namesS]; simp only [lit_str, str_append']), rfl⟩
theorem eq_few {q : QEq} (h : i64x q.e) (hw : wEq q ≤ 1048576) : (eqS q).length ≤ 6291456 := by
  have h1 := eq_wN h
  have h2 := putL_wN (eqT q) false
  rw [putL_false] at h2
  rw [eqS_spell]
  omega
theorem eqS_one (x : Tx) (e : Ex) : eqS ⟨[x], e⟩ = x ++ [32, 61, 32] ++ txt e ++ [32, 59] := rfl
theorem eqS_many (l : List Tx) (e : Ex) (h : l.length ≠ 1) : eqS ⟨l, e⟩ = namesS l ++ [32, 61, 32] ++ txt e ++ [32, 59] := by
  match l with
  | [] => rfl
  | [x] => exact absurd rfl h
  | x :: y :: r => rfl
set_option maxHeartbeats 2000000 in
set_option maxRecDepth 100000 in
theorem rEqS_any {w0 : World} (htab : Tab w0) {L : List Value} {q : QEq} (hL : EqAt w0 L q) (hw : wEq q ≤ 1048576) : ∀ w, Below w0.heap.size w0 w → Calls Tryz.prog 95 #[.agg L.toArray] w (StrPost (eqS q) w) := by
  intro w hb
  have HTOT := Lib.hid (eq_few hL.i64 hw)
  have HB := Lib.hid hb
  obtain ⟨nv, Le, rfl, hn, he⟩ := hL
  obtain ⟨l, e⟩ := q
  replace hn : StrsAt w0 nv l := hn
  replace he : ExAt w0 Le e := he
  replace hw : wN l + wX e + 2 ≤ 1048576 := hw
  have hwl : wN l ≤ 1048576 := by omega
  have HX := Lib.hid (rShow_any htab he (by omega))
  have HNS := Lib.hid (show ∀ W, Below w0.heap.size w0 W → Calls Tryz.prog 69 #[nv] W (StrSame (namesS l) W) from fun W hW => rNamesS_any (hn.under hW) (by
    have h1 := names_wN (s := [44]) (l := l) rfl
    have h2 := putL_wN (namesT [44] l) false
    rw [putL_false, ← listL_names] at h2
    have h3 : (padL [44] l).length ≤ (listL [44] l).length + 1 := by unfold padL; split <;> simp
    simp only [namesS, List.length_append, List.length_cons, List.length_nil]
    omega))
  have HN := Lib.hid hn
  obtain ⟨A1, c1, rfl, hc1, hm1, _⟩ := hn
  obtain ⟨o1, s1, n1, A2, m2, k2, A3, m3, k3, rfl⟩ := he.shape
  have hll : l.length ≤ 9223372036854775807 := by unfold maxLen at hm1; omega
  have hsz := hb.size
  clear hw hb he hc1 hm1 htab
  by_cases h1 : l.length = 1
  · obtain ⟨x, rfl⟩ : ∃ x, l = [x] := List.length_eq_one_iff.1 h1
    clear h1
    have HE := Lib.hid (eqS_one x e)
    have ht : (1 + (str (padL [44] [x])).size + 2) ≤ 1073741824 ∧ (str x).size + 3 + (str (txt e)).size + 2 ≤ 6291456 := by
      have h := HTOT.out
      rw [HE.out] at h
      simp only [List.length_append, List.length_cons, List.length_nil] at h
      simp only [str_size, padL, listL]
      simp
      omega
    obtain ⟨_, ht⟩ := ht
    have HEL := Lib.hid (show ∀ W, Below w0.heap.size w0 W → ∃ a, A1 = some a ∧ W.cell? a = some (.string (str x)) from fun W hW => by
      obtain ⟨A', c', e', _, _, he'⟩ := HN.out
      injection e' with e1 _ _
      obtain ⟨M, hM, rfl, _⟩ := he' 0 x rfl
      obtain ⟨a, ea, _, _, h0⟩ := elem1 (hM.under hW)
      simp only [Nat.zero_mul] at h0
      rw [add_zero] at h0
      exact ⟨a, e1.trans ea, h0⟩)
    simp only [List.length_cons, List.length_nil, Nat.zero_add] at *
    go_enter Tryz.func95, Tryz.ntmps95
    go_wp2_with (first
      | (go_at_call 69
         (with_reducible refine (HNS.out _ (HB.out.alloc (by omega) _)).mono ?_)
         rintro e w1 ⟨rfl, rfl⟩
         obtain ⟨a, rfl, ha0⟩ := HEL.out _ (HB.out.alloc (by omega) (.cells #[.slice A1 1 c1, .int .i64 o1, .string s1, .int .i64 n1, .slice A2 m2 k2, .slice A3 m3 k3] 41)))
      | (go_at_call 12
         (with_reducible refine (HX.out _ (HB.out.alloc (by omega) _)).mono ?_)
         rintro e w2 ⟨rfl, hb2⟩))
    go_ret
    exact ⟨ret_strB (by rw [HE.out]; simp only [lit_str, str_append']), ((Below.refl _ w).alloc (Nat.le_refl _) _).trans (hb2.mono (by simp))⟩
  · have hd : ((l.length : Int) == 1) = false := by simp; omega
    have HE := Lib.hid (eqS_many l e h1)
    have ht : (str (namesS l)).size + 3 + (str (txt e)).size + 2 ≤ 6291456 := by
      have h := HTOT.out
      rw [HE.out] at h
      simp only [List.length_append, List.length_cons, List.length_nil] at h
      simp only [str_size]
      omega
    clear h1
    go_enter Tryz.func95, Tryz.ntmps95
    go_wp2_with (first
      | (go_at_call 69
         (with_reducible refine (HNS.out _ (HB.out.alloc (by omega) _)).mono ?_)
         rintro e w1 ⟨rfl, rfl⟩)
      | (go_at_call 12
         (with_reducible refine (HX.out _ (HB.out.alloc (by omega) _)).mono ?_)
         rintro e w2 ⟨rfl, hb2⟩))
    go_ret
    exact ⟨ret_strB (by rw [HE.out]; simp only [lit_str, str_append']), ((Below.refl _ w).alloc (Nat.le_refl _) _).trans (hb2.mono (by simp))⟩
theorem wayS_eq (y : QWay) : wayS y = [32, 117, 110, 116, 105, 108, 32] ++ txt y.cond ++ [32, 116, 104, 101, 110, 32] ++ y.to ++ [32, 59] := rfl
/-- what the first k states of an automaton, the first j equations and the first m transitions of the next have told -/
def autoS (l : List QState) (k : Nat) : Tx := [97, 117, 116, 111, 109, 97, 116, 111, 110] ++ ((l.take k).map stateS).flatten
def stEqS (s : QState) (j : Nat) : Tx := [32, 115, 116, 97, 116, 101, 32] ++ s.name ++ [32, 58] ++ blankL ((s.eqs.take j).map eqS)
def stWayS (s : QState) (m : Nat) : Tx := stEqS s s.eqs.length ++ ((s.ways.take m).map wayS).flatten
theorem autoS_succ {l : List QState} {k : Nat} {s : QState} (h : l[k]? = some s) : autoS l (k + 1) = autoS l k ++ stateS s := by
  unfold autoS; rw [take_snoc h]; simp
theorem stEqS_succ {s : QState} {j : Nat} {q : QEq} (h : s.eqs[j]? = some q) : stEqS s (j + 1) = stEqS s j ++ 32 :: eqS q := by
  unfold stEqS; rw [take_snoc h, List.map_append, List.map_singleton, blankL_snoc]; simp
theorem stWayS_succ {s : QState} {j : Nat} {y : QWay} (h : s.ways[j]? = some y) : stWayS s (j + 1) = stWayS s j ++ wayS y := by
  unfold stWayS; rw [take_snoc h]; simp
theorem stWayS_all (s : QState) : stWayS s s.ways.length = stateS s := by
  unfold stWayS stEqS stateS; simp
theorem flatten_take {X : Type} (f : X → Tx) (l : List X) (k : Nat) : (((l.take k).map f).flatten).length ≤ ((l.map f).flatten).length := by
  have : (l.map f).flatten = ((l.take k).map f).flatten ++ ((l.drop k).map f).flatten := by rw [← List.flatten_append, ← List.map_append, List.take_append_drop]
  rw [this]; simp
theorem blankL_flat {X : Type} (f : X → Tx) (l : List X) : blankL (l.map f) = (l.map fun x => 32 :: f x).flatten := by
  unfold blankL; rw [List.flatMap_def, List.map_map]; rfl
theorem autoS_le (l : List QState) {k : Nat} {s : QState} (h : l[k]? = some s) : (autoS l k).length + (stateS s).length ≤ (autoS l l.length).length := by
  rw [← List.length_append, ← autoS_succ h]
  unfold autoS
  rw [List.length_append, List.length_append, List.take_length]
  have := flatten_take stateS l (k + 1)
  omega
theorem stEqS_le {s : QState} {j : Nat} {q : QEq} (h : s.eqs[j]? = some q) : (stEqS s j).length + (1 + (eqS q).length) ≤ (stateS s).length := by
  have h1 := congrArg List.length (stEqS_succ h)
  rw [List.length_append, List.length_cons] at h1
  have h2 : (stEqS s (j + 1)).length ≤ (stateS s).length := by
    unfold stEqS stateS
    have := flatten_take (fun x => 32 :: eqS x) s.eqs (j + 1)
    rw [blankL_flat, blankL_flat]
    simp only [List.length_append]
    omega
  omega
theorem stWayS_le {s : QState} {j : Nat} {y : QWay} (h : s.ways[j]? = some y) : (stWayS s j).length + (wayS y).length ≤ (stateS s).length := by
  have h1 := congrArg List.length (stWayS_succ h)
  rw [List.length_append] at h1
  have h2 : (stWayS s (j + 1)).length ≤ (stWayS s s.ways.length).length := by
    unfold stWayS
    have := flatten_take wayS s.ways (j + 1)
    rw [List.take_length, List.length_append, List.length_append]
    omega
  rw [stWayS_all] at h2
  omega
theorem itemS_auto {i : QItem} (h : i.states ≠ []) : itemS i = autoS i.states i.states.length ++ [32, 101, 110, 100, 32, 59] := by
  unfold itemS autoS; rw [if_neg h, List.take_length]
theorem item_few {i : QItem} (h : i64Item i) (hw : wItem i ≤ 1048576) : (itemS i).length ≤ 8388608 := by
  have h1 := item_wN h
  have h2 := putL_wN (itemT i) false
  rw [putL_false] at h2
  rw [itemS_spell]
  omega
end Go.Proofs.YtjelhdjckdcbaaaGreatDoor
namespace Go.Proofs.YtjelhdjckdcbaaaGreatDoor
open Go.RowKit

set_option maxHeartbeats 8000000 in
set_option maxRecDepth 100000 in
theorem rItemS_any {w0 : World} (htab : Tab w0) {L : List Value} {i : QItem} (hL : ItemAt w0 L i) (hw : wItem i ≤ 1048576) : ∀ w, Below w0.heap.size w0 w → Calls Tryz.prog 70 #[.agg L.toArray] w (StrPost (itemS i) w) := by
  intro w hb
  have HTOT := Lib.hid (item_few hL.i64 hw)
  have HB := Lib.hid hb
  have HTB := Lib.hid htab
  have hsz := hb.size
  obtain ⟨L', sv, rfl, hEq, hst⟩ := hL
  obtain ⟨q, sts⟩ := i
  replace hEq : EqAt w0 L' q := hEq
  replace hst : SliceAt w0 (StateAt w0) sv sts := hst
  replace hw : wEq q + wL wState sts + 2 ≤ 1048576 := hw
  have HEQ := Lib.hid (rEqS_any htab hEq (by omega))
  obtain ⟨A0, n0, k0, o1, s2, o3, A4, n4, k4, A5, n5, k5, rfl⟩ := hEq.shape
  have HWS := Lib.hid (show ∀ s ∈ sts, s.name.length + wL wEq s.eqs + wL wWay s.ways + 4 ≤ 1048576 from fun s hs => by have h := wL_mem (f := wState) hs; rw [wState] at h; omega)
  obtain ⟨sA, sc, rfl, hsc, hsm, hes⟩ := hst
  have hsl : sts.length ≤ 9223372036854775807 := by unfold maxLen at hsm; omega
  have HES := Lib.hid hes
  simp only [List.cons_append, List.nil_append]
  clear hw hb hes hsc hsm hEq htab
  by_cases h0 : sts = []
  · subst h0
    have HIT := Lib.hid (show itemS ⟨q, []⟩ = eqS q from rfl)
    simp only [List.length_nil] at *
    go_enter Tryz.func70, Tryz.ntmps70
    go_wp2_with (go_at_call 95; (with_reducible refine (HEQ.out _ (HB.out.alloc (by omega) _)).mono ?_); rintro e w1 ⟨rfl, hb1⟩)
    go_ret
    exact ⟨ret_str' (by rw [HIT.out]), ((Below.refl _ w).alloc (Nat.le_refl _) _).trans (hb1.mono (by simp))⟩
  · have HIT := Lib.hid (itemS_auto (i := ⟨q, sts⟩) h0)
    have HTS := Lib.hid (show (autoS sts sts.length).length + 6 ≤ 8388608 by
      have h := HTOT.out
      rw [HIT.out] at h
      simpa using h)
    have hd : ((sts.length : Int) == 0) = false := by cases sts with
      | nil => exact absurd rfl h0
      | cons a b => simp; omega
    clear h0
    go_enter Tryz.func70, Tryz.ntmps70
    go_wp2_with fail
    go_loopg [3, 4] sts.length (fun g s v wr => ∃ k : Nat, k + g = sts.length ∧ v = .int .i64 k ∧ s = .string (str (autoS sts k)) ∧ Below w.heap.size w wr ∧ wr.heap[w.heap.size]? = some (.cells #[.slice A0 n0 k0, .int .i64 o1, .string s2, .int .i64 o3, .slice A4 n4 k4, .slice A5 n5 k5, .slice sA sts.length sc] 44 (0, 0)))
    case atStart => exact ⟨0, by omega, rfl, by simp [autoS]; rfl, (Below.refl _ _).alloc (Nat.le_refl _) _, heap_alloc_new w _⟩
    case round =>
      obtain ⟨k, hkg, rfl, rfl, hbw, hbox⟩ := hrel
      obtain ⟨wq, rfl⟩ : ∃ W, W = wr := ⟨_, rfl⟩
      have HK := Lib.hid hkg
      have HQ := Lib.hid hbw
      have BX := Lib.hid hbox
      have HBQ := Lib.hid (HB.out.trans (HQ.out.mono hsz))
      obtain ⟨p0, p1, p2, p3, p4, p5, p6⟩ := row7 hbox
      have hlb := lt_of_heap hbox
      have hkl : k ≤ sts.length := by omega
      have hszq := hbw.size
      clear hkg hbw hbox
      by_cases hlt : k < sts.length
      · obtain ⟨st, hst⟩ : ∃ st, sts[k]? = some st := ⟨_, List.getElem?_eq_getElem hlt⟩
        have hle := autoS_le sts hst
        have HSU := Lib.hid (autoS_succ hst)
        have hws := HWS.out st (List.mem_of_getElem? hst)
        obtain ⟨X, hEX, ev, wv, rfl, hsn, ⟨E, ce, rfl, hec, hem, hee⟩, ⟨V, cv, rfl, hvc, hvm, hve⟩⟩ := HES.out k st hst
        have hel : st.eqs.length ≤ 9223372036854775807 := by unfold maxLen at hem; omega
        have hvl : st.ways.length ≤ 9223372036854775807 := by unfold maxLen at hvm; omega
        have hwe : ∀ y ∈ st.eqs, wEq y ≤ 1048576 := fun y hy => by have := wL_mem (f := wEq) hy; omega
        have hwy : ∀ y ∈ st.ways, wWay y ≤ 1048576 := fun y hy => by have := wL_mem (f := wWay) hy; omega
        have HWE := Lib.hid hwe
        have HWY := Lib.hid hwy
        have HEE := Lib.hid hee
        have HVE := Lib.hid hve
        have HTL := Lib.hid (show (autoS sts k).length + (stateS st).length ≤ 8388608 by have := HTS.out; omega)
        have ht0 : (str (autoS sts k)).size + (7 + (str st.name).size + 2) ≤ 8388608 := by
          have h := HTL.out
          rw [stateS] at h
          simp only [List.length_append, List.length_cons, List.length_nil] at h
          simp only [str_size]
          omega
        obtain ⟨a, rfl, ha, haa, d0, d1, d2⟩ := elem3 (hEX.under HBQ.out)
        clear hEX hec hem hee hvc hvm hve hsn hst hle hws hwe hwy
        go_wp2_with fail
        have BY := Lib.hid (heap_alloc_new wq (.cells #[.string (str st.name), .slice E st.eqs.length ce, .slice V st.ways.length cv] 94))
        have HY := Lib.hid ((Below.refl wq.heap.size wq).alloc (Nat.le_refl _) (.cells #[.string (str st.name), .slice E st.eqs.length ce, .slice V st.ways.length cv] 94))
        have BX2 := Lib.hid (box_next HY.out BX.out)
        generalize wq.alloc (.cells #[.string (str st.name), .slice E st.eqs.length ce, .slice V st.ways.length cv] 94) = Y at *
        clear p0 p1 p2 p3 p4 p5 p6 d0 d1 d2
        have hby := lt_of_heap BY.out
        have HWY2 := Lib.hid (HQ.out.trans (HY.out.mono hszq))
        go_loopg [3, 6] st.eqs.length (fun g s v wr => ∃ j : Nat, j + g = st.eqs.length ∧ v = .int .i64 j ∧ s = .string (str (autoS sts k ++ stEqS st j)) ∧ Below Y.heap.size Y wr)
        case atStart => exact ⟨0, by omega, rfl, by simp only [lit_str, str_append', stEqS]; simp [blankL], Below.refl _ _⟩
        case round =>
          obtain ⟨j, hjg, rfl, rfl, hbw⟩ := hrel
          obtain ⟨wy, rfl⟩ : ∃ W, W = wr := ⟨_, rfl⟩
          have JK := Lib.hid hjg
          have JY := Lib.hid hbw
          have JQ := Lib.hid (HWY2.out.trans (hbw.mono HWY2.out.size))
          have JB := Lib.hid (HB.out.trans (JQ.out.mono hsz))
          obtain ⟨q0, q1, q2⟩ := row3 (box_next hbw BY.out)
          have hjl : j ≤ st.eqs.length := by omega
          clear hjg hbw
          by_cases hlt2 : j < st.eqs.length
          · obtain ⟨y, hy⟩ : ∃ y, st.eqs[j]? = some y := ⟨_, List.getElem?_eq_getElem hlt2⟩
            have hle := stEqS_le hy
            have HJU := Lib.hid (stEqS_succ hy)
            have ht1 : (str (autoS sts k ++ stEqS st j)).size + (1 + (str (eqS y)).size) ≤ 8388608 := by
              have h := HTL.out
              simp only [str_size, List.length_append]
              omega
            have hwy1 := HWE.out y (List.mem_of_getElem? hy)
            obtain ⟨U, hEU, hRU⟩ := HEE.out j y hy
            have HF := Lib.hid (rEqS_any HTB.out hRU hwy1)
            obtain ⟨u0, u1, u2, u3, u4, u5, u6, u7, u8, u9, u10, u11, rfl⟩ := EqAt.shape hRU
            obtain ⟨b, rfl, hb, hba, e0, e1, e2, e3, e4, e5⟩ := elem6 (hEU.under JB.out)
            clear hEU hRU hy hle hwy1
            go_wp2_with (go_at_call 95; (with_reducible refine (HF.out _ JB.out).mono ?_); rintro e w1 ⟨rfl, hb1⟩)
            go_roundg (st.eqs.length - (j + 1))
            case measure => have := JK.out; omega
            case rel => exact ⟨j + 1, by omega, by go_num, by rw [HJU.out]; simp only [lit_str, str_append']; simp, JY.out.trans (hb1.mono JY.out.size)⟩
          · have hje : j = st.eqs.length := by omega
            have HJE := Lib.hid hje
            have BYY := Lib.hid (box_next JY.out BY.out)
            have BXZ := Lib.hid (box_next JY.out BX2.out)
            clear hje
            go_wp2_with fail
            obtain ⟨Z, hZ⟩ : ∃ W, W = wy := ⟨_, rfl⟩
            clear q0 q1 q2
            rw [← hZ] at BYY BXZ JY JQ JB ⊢
            clear hZ
            go_loopg [3, 7] st.ways.length (fun g s v wr => ∃ m : Nat, m + g = st.ways.length ∧ v = .int .i64 m ∧ s = .string (str (autoS sts k ++ stWayS st m)) ∧ Below Z.heap.size Z wr)
            case atStart => exact ⟨0, by omega, rfl, by rw [HJE.out]; simp [stWayS], Below.refl _ _⟩
            case round =>
              obtain ⟨m, hmg, rfl, rfl, hbw⟩ := hrel
              obtain ⟨wz, rfl⟩ : ∃ W, W = wr := ⟨_, rfl⟩
              have MK := Lib.hid hmg
              have MY := Lib.hid hbw
              have MQ := Lib.hid (JQ.out.trans (hbw.mono JQ.out.size))
              have MB := Lib.hid (HB.out.trans (MQ.out.mono hsz))
              have BM := Lib.hid (box_next hbw BYY.out)
              obtain ⟨q0, q1, q2⟩ := row3 BM.out
              have hml : m ≤ st.ways.length := by omega
              clear hmg hbw
              by_cases hlt3 : m < st.ways.length
              · obtain ⟨y, hy⟩ : ∃ y, st.ways[m]? = some y := ⟨_, List.getElem?_eq_getElem hlt3⟩
                have hle := stWayS_le hy
                have HMU := Lib.hid (stWayS_succ hy)
                have HWQ := Lib.hid (wayS_eq y)
                have ht2 : (str (autoS sts k ++ stWayS st m)).size + (7 + (str (txt y.cond)).size + 6 + (str y.to).size + 2) ≤ 8388608 := by
                  have h := HTL.out
                  rw [HWQ.out] at hle
                  simp only [List.length_append, List.length_cons, List.length_nil] at hle
                  simp only [str_size, List.length_append]
                  omega
                have g0 : ¬ 9223372036854775807 < 7 + (str (txt y.cond)).size := by omega
                have g1 : ¬ 9223372036854775807 < 7 + (str (txt y.cond)).size + 6 := by omega
                have g2 : ¬ 9223372036854775807 < 7 + (str (txt y.cond)).size + 6 + (str y.to).size := by omega
                have g3 : ¬ 9223372036854775807 < 7 + (str (txt y.cond)).size + 6 + (str y.to).size + 2 := by omega
                have g4 : ¬ 9223372036854775807 < (str (autoS sts k ++ stWayS st m)).size + (7 + (str (txt y.cond)).size + 6 + (str y.to).size + 2) := by omega
                have hwy1 := HWY.out y (List.mem_of_getElem? hy)
                obtain ⟨U, hEU, L6, rfl, hce, hyt⟩ := HVE.out m y hy
                have HF := Lib.hid (rShow_any HTB.out hce (by unfold wWay at hwy1; omega))
                obtain ⟨u1, u2, u3, u4, u5, u6, u7, u8, u9, rfl⟩ := hce.shape
                simp only [List.cons_append, List.nil_append] at hEU
                have EU := Lib.hid hEU
                obtain ⟨b, rfl, hb, hba, e0, e1, e2, e3, e4, e5⟩ := elem6 (hEU.under MB.out)
                clear hEU hce hy hle hwy1 hyt
                go_wp2_with fail
                have G0 := Lib.hid (Below.refl wz.heap.size wz).drew
                go_region_held3 (fun W => W.cell? ⟨wq.heap.size, 2, none⟩ = some (.slice (some b) st.ways.length cv) ∧ W.cell? (b.add (m * 6)) = some (.int .i64 u1) ∧ W.cell? { block := (b.add (m * 6)).block, off := (b.add (m * 6)).off + 1 } = some (.string u2) ∧ W.cell? { block := (b.add (m * 6)).block, off := (b.add (m * 6)).off + 2 } = some (.int .i64 u3) ∧ W.cell? { block := (b.add (m * 6)).block, off := (b.add (m * 6)).off + 3 } = some (.slice u4 u5 u6) ∧ W.cell? { block := (b.add (m * 6)).block, off := (b.add (m * 6)).off + 4 } = some (.slice u7 u8 u9) ∧ W.cell? { block := (b.add (m * 6)).block, off := (b.add (m * 6)).off + 5 } = some (.string (str y.to))) (go_keep) ((go_at_call 12; (with_reducible refine (HF.out _ (MB.out.trans (G0.out.mono MB.out.size))).mono ?_); rintro e w7 ⟨rfl, hb7⟩; obtain ⟨z7, rfl⟩ : ∃ W, W = w7 := ⟨_, rfl⟩; have G1 := Lib.hid (G0.out.trans (hb7.mono G0.out.size)); obtain ⟨q0, q1, q2⟩ := row3 (box_next G1.out BM.out); obtain ⟨_, eb, _, _, e0, e1, e2, e3, e4, e5⟩ := elem6 (EU.out.under (MB.out.trans (G1.out.mono MB.out.size))); obtain rfl := Option.some.inj eb; clear hb7))
                all_goals go_wp2_with fail
                all_goals go_roundg (st.ways.length - (m + 1))
                case measure => have := MK.out; omega
                case rel => exact ⟨m + 1, by omega, by go_num, by rw [HMU.out, HWQ.out]; simp only [lit_str, str_append']; simp, MY.out.trans (G1.out.mono MY.out.size)⟩
              · have hme : m = st.ways.length := by omega
                have HME := Lib.hid (show autoS sts (k + 1) = autoS sts k ++ stWayS st m by rw [HSU.out, hme, stWayS_all])
                clear hme
                go_wp2_with fail
                go_roundg (sts.length - (k + 1))
                case measure => have := HK.out; omega
                case rel => exact ⟨k + 1, by omega, by go_num, by rw [HME.out], MQ.out, box_next MY.out BXZ.out⟩
      · have hke : k = sts.length := by omega
        have HKE := Lib.hid (show itemS ⟨q, sts⟩ = autoS sts k ++ [32, 101, 110, 100, 32, 59] by rw [HIT.out, hke])
        have ht9 : (str (autoS sts k)).size + 6 ≤ 8388608 := by have := HTS.out; rw [str_size, hke]; exact this
        clear hke
        go_wp2_with fail
        go_ret
        exact ⟨ret_strB (by rw [HKE.out]; simp only [lit_str, str_append']), HQ.out⟩
end Go.Proofs.YtjelhdjckdcbaaaGreatDoor
namespace Go.Proofs.YtjelhdjckdcbaaaGreatDoor
open Go.RowKit

def joinK (l : List Tx) (k : Nat) : Tx := joinB (l.take k)
theorem joinK_zero (l : List Tx) : joinK l 0 = [] := by simp [joinK, joinB]
theorem joinK_succ {l : List Tx} {k : Nat} {x : Tx} (h : l[k]? = some x) : joinK l (k + 1) = joinK l k ++ ((if k = 0 then [] else [32]) ++ x) := by
  unfold joinK
  rw [take_snoc h, joinB_snoc]
  congr 2
  by_cases h0 : k = 0
  · subst h0; simp
  · rw [if_neg h0, if_neg]
    intro e
    rw [List.take_eq_nil_iff] at e
    rcases e with e | e
    · omega
    · rw [e] at h; simp at h
theorem joinB_more (l m : List Tx) : ∃ r, joinB (l ++ m) = joinB l ++ r := by
  cases l with
  | nil => exact ⟨joinB m, by simp [joinB]⟩
  | cons y r => exact ⟨blankL m, by simp [joinB, blankL]⟩
theorem joinK_le (l : List Tx) (k : Nat) : (joinK l k).length ≤ (joinB l).length := by
  obtain ⟨r, hr⟩ := joinB_more (l.take k) (l.drop k)
  rw [List.take_append_drop] at hr
  rw [hr]; simp [joinK]
theorem joinB_mem {l : List Tx} {x : Tx} (h : x ∈ l) : x.length ≤ (joinB l).length := by
  obtain ⟨k, hk⟩ := List.getElem?_of_mem h
  have h1 := joinK_succ hk
  have h2 := joinK_le l (k + 1)
  rw [h1] at h2
  simp only [List.length_append] at h2
  omega
theorem joinB_len (l : List Tx) (h : ∀ x ∈ l, x ≠ []) : l.length ≤ (joinB l).length := by
  have hb : ∀ r : List Tx, r.length ≤ (blankL r).length := by
    intro r
    induction r with
    | nil => simp
    | cons x r ih => simp only [blankL, List.flatMap_cons, List.length_append, List.length_cons] at ih ⊢; omega
  cases l with
  | nil => simp
  | cons x r =>
    have h1 := hb r
    have h2 : 0 < x.length := List.length_pos_iff.2 (h x (by simp))
    simp only [joinB, List.length_cons, List.length_append]
    omega
/-- a node's text so far -/
def nodeK (n : QNode) (k : Nat) : Tx := headS n ++ ([32] ++ namesS n.ins ++ [32, 61, 32] ++ namesS n.outs ++ [32, 119, 104, 101, 114, 101]) ++ blankL ((n.items.take k).map itemS)
theorem nodeK_succ {n : QNode} {k : Nat} {x : QItem} (h : n.items[k]? = some x) : nodeK n (k + 1) = nodeK n k ++ 32 :: itemS x := by
  unfold nodeK; rw [take_snoc h, List.map_append, List.map_singleton, blankL_snoc]; simp
theorem nodeK_all (n : QNode) : nodeS n = nodeK n n.items.length ++ [32, 101, 110, 100] := by unfold nodeK nodeS; rw [List.take_length]
theorem nodeK_le {n : QNode} {k : Nat} {x : QItem} (h : n.items[k]? = some x) : (nodeK n k).length + (1 + (itemS x).length) + 4 ≤ (nodeS n).length := by
  have h1 := congrArg List.length (nodeK_succ h)
  rw [List.length_append, List.length_cons] at h1
  have h2 : (nodeK n (k + 1)).length ≤ (nodeK n n.items.length).length := by
    unfold nodeK
    have := flatten_take (fun x => 32 :: itemS x) n.items (k + 1)
    rw [blankL_flat, blankL_flat, List.take_length]
    simp only [List.length_append] at this ⊢
    omega
  rw [nodeK_all, List.length_append]
  simp only [List.length_cons, List.length_nil]
  omega
theorem nodeK_zero (n : QNode) : nodeK n 0 = headS n ++ ([32] ++ namesS n.ins ++ [32, 61, 32] ++ namesS n.outs ++ [32, 119, 104, 101, 114, 101]) := by simp [nodeK, blankL]
theorem nodeK_zero_le (n : QNode) : (headS n).length + (1 + (namesS n.ins).length + 3 + (namesS n.outs).length + 6) + 4 ≤ (nodeS n).length := by
  unfold nodeS; simp only [List.length_append, List.length_cons, List.length_nil]; omega
theorem rNames_same {va : Value} {l : List Tx} {w : World} (ha : StrsAt w va l) (hs : (namesS l).length ≤ 1073741824) (n : Nat) : Calls Tryz.prog 69 #[va] (w.drewN n) fun e w' => e = .returned (.string (str (namesS l))) ∧ w' = w.drewN n :=
  (rNamesS_any (ha.drewN n) hs).mono fun _ _ h => ⟨h.1, h.2.symm⟩
theorem enums_all {B : Nat} {w : World} {v : Value} {p : QProg} {k : Nat} (hk : k = p.enums.length) (h : OwnS B w v ((p.enums.take k).map enumS)) : OwnS B w v (p.enums.map enumS ++ (p.nodes.take 0).map nodeS) := by
  rw [hk, List.take_length] at h; simpa using h
theorem nodes_all {B : Nat} {w : World} {v : Value} {p : QProg} {k : Nat} (hk : k = p.nodes.length) (h : OwnS B w v (p.enums.map enumS ++ (p.nodes.take k).map nodeS)) : OwnS B w v (progL p) := by
  rw [hk, List.take_length] at h; exact h
set_option maxHeartbeats 8000000 in
set_option maxRecDepth 100000 in
theorem rTextS_any {w0 : World} (htab : Tab w0) {L : List Value} {p : QProg} (hL : ProgAt w0 L p) (hw : wProg p ≤ 1048576) (htot : (joinB (progL p)).length ≤ 8388608) : ∀ w, Below w0.heap.size w0 w → Calls Tryz.prog 37 #[.agg L.toArray] w (StrPost (joinB (progL p)) w) := by
  intro w hb
  have HB := Lib.hid hb
  have HTB := Lib.hid htab
  have hsz := hb.size
  have HTOT := Lib.hid htot
  have HLN := Lib.hid (show (progL p).length ≤ 1048576 by
    have h1 := len_wL (l := p.enums) (f := wEnum) (fun e _ => by unfold wEnum; omega)
    have h2 := len_wL (l := p.nodes) (f := wNode) (fun e _ => by unfold wNode; omega)
    unfold wProg at hw
    simp only [progL, List.length_append, List.length_map]
    omega)
  have HWN := Lib.hid (show ∀ n ∈ p.nodes, ∀ i ∈ n.items, wItem i ≤ 1048576 from fun n hn i hi => by
    have h1 := wL_mem (f := wNode) hn
    have h2 := wL_mem (f := wItem) hi
    rw [wNode] at h1
    unfold wProg at hw
    omega)
  obtain ⟨ev, nv, rfl, he, hn⟩ := hL
  obtain ⟨E, ce, rfl, hec, hem, hee⟩ := he
  obtain ⟨N, cn, rfl, hnc, hnm, hne⟩ := hn
  have hel : p.enums.length ≤ 9223372036854775807 := by unfold maxLen at hem; omega
  have hnl : p.nodes.length ≤ 9223372036854775807 := by unfold maxLen at hnm; omega
  have HEE := Lib.hid hee
  have HNE := Lib.hid hne
  clear hb htab htot hw hec hem hee hnc hnm hne
  go_enter Tryz.func37, Tryz.ntmps37
  go_wp2_with fail
  go_loopg [3, 4] p.enums.length (fun g s v wr => ∃ k : Nat, k + g = p.enums.length ∧ v = .int .i64 k ∧ OwnS (w.heap.size + 1) wr s ((p.enums.take k).map enumS) ∧ Below (w.heap.size + 1) (w.alloc (.cells #[.slice E p.enums.length ce, .slice N p.nodes.length cn] 33)) wr)
  case atStart => exact ⟨0, by omega, rfl, OwnS.nil _ _, Below.refl _ _⟩
  case round =>
    obtain ⟨k, hkg, rfl, ho, hbw⟩ := hrel
    obtain ⟨wq, rfl⟩ : ∃ W, W = wr := ⟨_, rfl⟩
    have HK := Lib.hid hkg
    have HQ1 := Lib.hid hbw
    have HO := Lib.hid ho
    have BX := Lib.hid (show wq.heap[w.heap.size]? = _ from (hbw.block w.heap.size (by omega)).trans (heap_alloc_new w _))
    have hs1 := hbw.size
    simp only [World.size_alloc] at hs1
    have HQ := Lib.hid (((Below.refl w.heap.size w).alloc (Nat.le_refl _) _).trans (hbw.mono (by omega)))
    have HBQ := Lib.hid (HB.out.trans (HQ.out.mono hsz))
    obtain ⟨p0, p1⟩ := row2 BX.out
    have hkl : k ≤ p.enums.length := by omega
    clear hkg hbw ho
    by_cases hlt : k < p.enums.length
    · obtain ⟨y, hy⟩ : ∃ y, p.enums[k]? = some y := ⟨_, List.getElem?_eq_getElem hlt⟩
      have HS := Lib.hid (show (p.enums.take (k + 1)).map enumS = (p.enums.take k).map enumS ++ [enumS y] by rw [take_snoc hy]; simp)
      have hmem : enumS y ∈ progL p := List.mem_append_left _ (List.mem_map_of_mem (List.mem_of_getElem? hy))
      have hyl := Nat.le_trans (joinB_mem hmem) HTOT.out
      have hyl2 : 5 + (str y.name).size + 3 + (str (listL [124] y.cons)).size + 2 ≤ 8388608 := by
        have h := hyl
        unfold enumS at h
        simp only [List.length_append, List.length_cons, List.length_nil] at h
        simp only [str_size]
        omega
      have g0 : ¬ 9223372036854775807 < 5 + (str y.name).size := by omega
      have g1 : ¬ 9223372036854775807 < 5 + (str y.name).size + 3 := by omega
      have g2 : ¬ 9223372036854775807 < 5 + (str y.name).size + 3 + (str (listL [124] y.cons)).size := by omega
      have g3 : ¬ 9223372036854775807 < 5 + (str y.name).size + 3 + (str (listL [124] y.cons)).size + 2 := by omega
      have HXL := Lib.hid (show ([116, 121, 112, 101, 32] ++ y.name ++ [32, 61, 32] ++ listL [124] y.cons ++ [32, 59]).length ≤ maxLen by have h := hyl; unfold enumS at h; unfold maxLen; omega)
      have HAL := Lib.hid (show ((p.enums.take k).map enumS).length ≤ 2097152 by have := HLN.out; simp only [progL, List.length_append, List.length_map] at this; simp only [List.length_map, List.length_take]; omega)
      obtain ⟨M, hEM, cv, rfl, hnm2, hcs⟩ := HEE.out k y hy
      have HCS := Lib.hid (show ∀ W, Below w0.heap.size w0 W → Calls Tryz.prog 25 #[cv, .string ⟨#[124]⟩] W (StrSame (listL [124] y.cons) W) from fun W hW => rList124s (hcs.under hW) (by rw [← str_size]; omega))
      obtain ⟨C1, C2, C3, rfl⟩ := SliceAt.shape hcs
      have EM := Lib.hid hEM
      obtain ⟨a, rfl, ha, haa, d0, d1⟩ := elem2 (hEM.under HBQ.out)
      clear hy hmem hyl hyl2 hEM hnm2 hcs
      go_wp2_with fail
      refine wp_region_held_drew (S := (fun W => W.cell? ⟨w.heap.size, 0, none⟩ = some (.slice (some a) p.enums.length ce) ∧ W.cell? (a.add (k * 2)) = some (.string (str y.name)) ∧ W.cell? { block := (a.add (k * 2)).block, off := (a.add (k * 2)).off + 1 } = some (.slice C1 C2 C3))) (by kernel_rfl) ?_ (fun hHeld => ?_)
      · (try dsimp only); go_keep
      refine take_at 0 (v := ?_) rfl (by kernel_rfl) (by kernel_rfl) (by kernel_rfl) (fun _ _ _ h => h) (by rfl) ?_ (by assumption) ?_
      rotate_left
      · intro w hSw; (try dsimp only at hSw); go_simp; (try rw [if_neg (by assumption)]); (try rw [if_pos (by omega)]); (try simp only [hSw]); (try with_reducible rfl)
      try simp only [Act.put, List.setIfInBounds_toArray, List.set_cons_zero, List.set_cons_succ]
      refine take_at 1 (v := ?_) rfl (by kernel_rfl) (by kernel_rfl) (by kernel_rfl) (fun _ _ _ h => h) (by rfl) ?_ (by assumption) ?_
      rotate_left
      · intro w hSw; (try dsimp only at hSw); go_simp; (try rw [if_neg (by assumption)]); (try rw [if_pos (by omega)]); (try simp only [hSw]); (try with_reducible rfl)
      try simp only [Act.put, List.setIfInBounds_toArray, List.set_cons_zero, List.set_cons_succ]
      refine take_at 2 (v := ?_) rfl (by kernel_rfl) (by kernel_rfl) (by kernel_rfl) (fun _ _ _ h => h) (by rfl) ?_ (by assumption) ?_
      rotate_left
      · intro w hSw; (try dsimp only at hSw); go_simp; (try rw [if_neg (by assumption)]); (try rw [if_pos (by omega)]); (try simp only [hSw]); (try with_reducible rfl)
      try simp only [Act.put, List.setIfInBounds_toArray, List.set_cons_zero, List.set_cons_succ]
      refine take_at 3 (v := ?_) rfl (by kernel_rfl) (by kernel_rfl) (by kernel_rfl) (fun _ _ _ h => h) (by rfl) ?_ (by assumption) ?_
      rotate_left
      · intro w hSw; (try dsimp only at hSw); go_simp; (try rw [if_neg (by assumption)]); (try rw [if_pos (by omega)]); (try simp only [hSw]); (try with_reducible rfl)
      try simp only [Act.put, List.setIfInBounds_toArray, List.set_cons_zero, List.set_cons_succ]
      refine take_at 4 (v := ?_) rfl (by kernel_rfl) (by kernel_rfl) (by kernel_rfl) (fun _ _ _ h => h) (by rfl) ?_ (by assumption) ?_
      rotate_left
      · intro w hSw; (try dsimp only at hSw); go_simp; (try rw [if_neg (by assumption)]); (try rw [if_pos (by omega)]); (try simp only [hSw]); (try with_reducible rfl)
      try simp only [Act.put, List.setIfInBounds_toArray, List.set_cons_zero, List.set_cons_succ]
      refine take_at 5 (v := ?_) rfl (by kernel_rfl) (by kernel_rfl) (by kernel_rfl) (fun _ _ _ h => h) (by rfl) ?_ (by assumption) ?_
      rotate_left
      · intro w hSw; (try dsimp only at hSw); go_simp; (try rw [if_neg (by assumption)]); (try rw [if_pos (by omega)]); (try simp only [hSw]); (try with_reducible rfl)
      try simp only [Act.put, List.setIfInBounds_toArray, List.set_cons_zero, List.set_cons_succ]
      refine take_at 6 (v := ?_) rfl (by kernel_rfl) (by kernel_rfl) (by kernel_rfl) (fun _ _ _ h => h) (by rfl) ?_ (by assumption) ?_
      rotate_left
      · intro w hSw; (try dsimp only at hSw); go_simp; (try rw [if_neg (by assumption)]); (try rw [if_pos (by omega)]); (try simp only [hSw]); (try with_reducible rfl)
      try simp only [Act.put, List.setIfInBounds_toArray, List.set_cons_zero, List.set_cons_succ]
      refine take_at 7 (v := ?_) rfl (by kernel_rfl) (by kernel_rfl) (by kernel_rfl) (fun _ _ _ h => h) (by rfl) ?_ (by assumption) ?_
      rotate_left
      · intro w hSw; (try dsimp only at hSw); go_simp; (try rw [if_neg (by assumption)]); (try rw [if_pos (by omega)]); (try simp only [hSw]); (try with_reducible rfl)
      try simp only [Act.put, List.setIfInBounds_toArray, List.set_cons_zero, List.set_cons_succ]
      refine take_at 8 (v := ?_) rfl (by kernel_rfl) (by kernel_rfl) (by kernel_rfl) (fun _ _ _ h => h) (by rfl) ?_ (by assumption) ?_
      rotate_left
      · intro w hSw; (try dsimp only at hSw); go_simp; (try rw [if_neg (by assumption)]); (try rw [if_pos (by omega)]); (try simp only [hSw]); (try with_reducible rfl)
      try simp only [Act.put, List.setIfInBounds_toArray, List.set_cons_zero, List.set_cons_succ]
      refine take_at 9 (v := ?_) rfl (by kernel_rfl) (by kernel_rfl) (by kernel_rfl) (fun _ _ _ h => h) (by rfl) ?_ (by assumption) ?_
      rotate_left
      · intro w hSw; (try dsimp only at hSw); go_simp; (try rw [if_neg (by assumption)]); (try rw [if_pos (by omega)]); (try simp only [hSw]); (try with_reducible rfl)
      try simp only [Act.put, List.setIfInBounds_toArray, List.set_cons_zero, List.set_cons_succ]
      refine take_at 10 (v := ?_) rfl (by kernel_rfl) (by kernel_rfl) (by kernel_rfl) (fun _ _ _ h => h) (by rfl) ?_ (by assumption) ?_
      rotate_left
      · intro w hSw; (try dsimp only at hSw); go_simp; (try rw [if_neg (by assumption)]); (try rw [if_pos (by omega)]); (try simp only [hSw]); (try with_reducible rfl)
      try simp only [Act.put, List.setIfInBounds_toArray, List.set_cons_zero, List.set_cons_succ]
      refine take_at 11 (v := ?_) rfl (by kernel_rfl) (by kernel_rfl) (by kernel_rfl) (fun _ _ _ h => h) (by rfl) ?_ (by assumption) ?_
      rotate_left
      · intro w hSw; (try dsimp only at hSw); go_simp; (try rw [if_neg (by assumption)]); (try rw [if_pos (by omega)]); (try simp only [hSw]); (try with_reducible rfl)
      try simp only [Act.put, List.setIfInBounds_toArray, List.set_cons_zero, List.set_cons_succ]
      refine take_at 12 (v := ?_) rfl (by kernel_rfl) (by kernel_rfl) (by kernel_rfl) (fun _ _ _ h => h) (by rfl) ?_ (by assumption) ?_
      rotate_left
      · intro w hSw; (try dsimp only at hSw); go_simp; (try rw [if_neg (by assumption)]); (try rw [if_pos (by omega)]); (try simp only [hSw]); (try with_reducible rfl)
      try simp only [Act.put, List.setIfInBounds_toArray, List.set_cons_zero, List.set_cons_succ]
      refine take_at 13 (v := ?_) rfl (by kernel_rfl) (by kernel_rfl) (by kernel_rfl) (fun _ _ _ h => h) (by rfl) ?_ (by assumption) ?_
      rotate_left
      · intro w hSw; (try dsimp only at hSw); go_simp; (try rw [if_neg (by assumption)]); (try rw [if_pos (by omega)]); (try simp only [hSw]); (try with_reducible rfl)
      try simp only [Act.put, List.setIfInBounds_toArray, List.set_cons_zero, List.set_cons_succ]
      refine take_at 14 (v := ?_) rfl (by kernel_rfl) (by kernel_rfl) (by kernel_rfl) (fun _ _ _ h => h) (by rfl) ?_ (by assumption) ?_
      rotate_left
      · intro w hSw; (try dsimp only at hSw); go_simp; (try rw [if_neg (by assumption)]); (try rw [if_pos (by omega)]); (try simp only [hSw]); (try with_reducible rfl)
      try simp only [Act.put, List.setIfInBounds_toArray, List.set_cons_zero, List.set_cons_succ]
      refine only_at 15 (by kernel_rfl) rfl (fun K hK => ?_)
      go_simp
      (go_at_call 25
       (with_reducible refine (HCS.out _ (HBQ.out.drew)).mono ?_)
       rintro e w7 ⟨rfl, rfl⟩)
      refine hK.out _ _ ?_ (fun hHeld => ?_)
      · (try dsimp only); go_keep
      clear hK K
      try simp only [Act.put, List.setIfInBounds_toArray, List.set_cons_zero, List.set_cons_succ]
      refine take_at 16 (v := ?_) rfl (by kernel_rfl) (by kernel_rfl) (by kernel_rfl) (fun _ _ _ h => h) (by rfl) ?_ (by assumption) ?_
      rotate_left
      · intro w hSw; (try dsimp only at hSw); go_simp; (try rw [if_neg (by assumption)]); (try rw [if_pos (by omega)]); (try simp only [hSw]); (try with_reducible rfl)
      try simp only [Act.put, List.setIfInBounds_toArray, List.set_cons_zero, List.set_cons_succ]
      refine take_at 17 (v := ?_) rfl (by kernel_rfl) (by kernel_rfl) (by kernel_rfl) (fun _ _ _ h => h) (by rfl) ?_ (by assumption) ?_
      rotate_left
      · intro w hSw; (try dsimp only at hSw); go_simp; (try rw [if_neg (by assumption)]); (try rw [if_pos (by omega)]); (try simp only [hSw]); (try with_reducible rfl)
      try simp only [Act.put, List.setIfInBounds_toArray, List.set_cons_zero, List.set_cons_succ]
      refine only_at 18 (by kernel_rfl) rfl (fun K hK => ?_)
      go_simp
      refine hK.out _ _ ?_ (fun hHeld => ?_)
      · (try dsimp only); go_keep
      clear hK K
      try simp only [Act.put, List.setIfInBounds_toArray, List.set_cons_zero, List.set_cons_succ]
      refine only_at 19 (by kernel_rfl) rfl (fun K hK => ?_)
      (refine step_str rfl _ _ rfl rfl rfl (heap_alloc_new wq.drew _) ((OwnS.drew HO.out).alloc _) HXL.out HAL.out ?_ ?_
       · simp; omega
       intro v' w2 hap
       obtain ⟨v2, rfl⟩ : ∃ W, W = w2 := ⟨_, rfl⟩
       have HAP := Lib.hid hap
       have hbz := ((Below.refl (w.heap.size + 1) wq).drew.alloc (by simp; omega) _).trans hap.2.1
       obtain ⟨z0, z1⟩ := row2 ((hbz.block w.heap.size (by omega)).trans BX.out)
       obtain ⟨_, ea, _, _, d0, d1⟩ := elem2 (EM.out.under (HBQ.out.trans (hbz.mono (by omega))))
       obtain rfl := Option.some.inj ea
       have HBF := Lib.hid (HQ1.out.trans hbz)
       clear hap hbz)
      refine hK.out _ _ ?_ (fun hHeld => ?_)
      · (try dsimp only); go_keep
      clear hK K
      try simp only [Act.put, List.setIfInBounds_toArray, List.set_cons_zero, List.set_cons_succ]
      refine take_at 20 (v := ?_) rfl (by kernel_rfl) (by kernel_rfl) (by kernel_rfl) (fun _ _ _ h => h) (by rfl) ?_ (by assumption) ?_
      rotate_left
      · intro w hSw; (try dsimp only at hSw); go_simp; (try rw [if_neg (by assumption)]); (try rw [if_pos (by omega)]); (try simp only [hSw]); (try with_reducible rfl)
      try simp only [Act.put, List.setIfInBounds_toArray, List.set_cons_zero, List.set_cons_succ]
      refine wpAnyH_done (by kernel_rfl) ?_ _
      go_wp2_with fail
      go_roundg (p.enums.length - (k + 1))
      case measure => have := HK.out; omega
      case rel => exact ⟨k + 1, by omega, by go_num, by rw [HS.out]; exact HAP.out.1, HBF.out⟩
    · have hke : k = p.enums.length := by omega
      have HO2 := Lib.hid (enums_all (p := p) hke HO.out)
      clear hke
      go_wp2_with fail
      clear p0 p1
      go_loopg [3, 5] p.nodes.length (fun g s v wr => ∃ k : Nat, k + g = p.nodes.length ∧ v = .int .i64 k ∧ OwnS (w.heap.size + 1) wr s (p.enums.map enumS ++ (p.nodes.take k).map nodeS) ∧ Below (w.heap.size + 1) (w.alloc (.cells #[.slice E p.enums.length ce, .slice N p.nodes.length cn] 33)) wr)
      case atStart => exact ⟨0, by omega, rfl, by simpa using HO2.out, HQ1.out⟩
      case round =>
        clear HO HO2 HK HQ1 BX hs1 HQ HBQ hkl hlt
        obtain ⟨j, hkg, rfl, ho, hbw⟩ := hrel
        obtain ⟨wq, rfl⟩ : ∃ W, W = wr := ⟨_, rfl⟩
        have HK := Lib.hid hkg
        have HQ1 := Lib.hid hbw
        have HO := Lib.hid ho
        have BX := Lib.hid (show wq.heap[w.heap.size]? = _ from (hbw.block w.heap.size (by omega)).trans (heap_alloc_new w _))
        have hs1 := hbw.size
        simp only [World.size_alloc] at hs1
        have HQ := Lib.hid (((Below.refl w.heap.size w).alloc (Nat.le_refl _) _).trans (hbw.mono (by omega)))
        have HBQ := Lib.hid (HB.out.trans (HQ.out.mono hsz))
        obtain ⟨p0, p1⟩ := row2 BX.out
        have hkl : j ≤ p.nodes.length := by omega
        clear hkg hbw ho
        by_cases hlt : j < p.nodes.length
        · obtain ⟨y, hy⟩ : ∃ y, p.nodes[j]? = some y := ⟨_, List.getElem?_eq_getElem hlt⟩
          have HS := Lib.hid (show p.enums.map enumS ++ (p.nodes.take (j + 1)).map nodeS = p.enums.map enumS ++ (p.nodes.take j).map nodeS ++ [nodeS y] by rw [take_snoc hy]; simp)
          have hmem : nodeS y ∈ progL p := List.mem_append_right _ (List.mem_map_of_mem (List.mem_of_getElem? hy))
          have HYL := Lib.hid (show (nodeS y).length ≤ 8388608 from Nat.le_trans (joinB_mem hmem) HTOT.out)
          have hz := nodeK_zero_le y
          have HXL := Lib.hid (show (nodeS y).length ≤ maxLen by have := HYL.out; unfold maxLen; omega)
          have HAL := Lib.hid (show (p.enums.map enumS ++ (p.nodes.take j).map nodeS).length ≤ 2097152 by have := HLN.out; simp only [progL, List.length_append, List.length_map] at this; simp only [List.length_append, List.length_map, List.length_take]; omega)
          have HWI := Lib.hid (HWN.out y (List.mem_of_getElem? hy))
          obtain ⟨M, hEM, fv, iv, ov, xv, rfl, _, hf, hi, ho, hx⟩ := HNE.out j y hy
          have hh : (headS y).length + (1 + (namesS y.ins).length + 3 + (namesS y.outs).length + 6) ≤ 8388608 := by have := HYL.out; omega
          have HFL := Lib.hid hf
          have HIN := Lib.hid (show ∀ W, Below w0.heap.size w0 W → ∀ n, Calls Tryz.prog 69 #[iv] (W.drewN n) fun e w' => e = .returned (.string (str (namesS y.ins))) ∧ w' = W.drewN n from fun W hW n => rNames_same (hi.under hW) (by omega) n)
          have HON := Lib.hid (show ∀ W, Below w0.heap.size w0 W → ∀ n, Calls Tryz.prog 69 #[ov] (W.drewN n) fun e w' => e = .returned (.string (str (namesS y.outs))) ∧ w' = W.drewN n from fun W hW n => rNames_same (ho.under hW) (by omega) n)
          have hnn : [110, 111, 100, 101, 32] ++ y.name = ([110, 111, 100, 101, 32] ++ y.name : Tx) := rfl
          obtain ⟨F1, fc, rfl, hfc, hfm, _⟩ := hf
          have hfl : y.funs.length ≤ 9223372036854775807 := by unfold maxLen at hfm; omega
          obtain ⟨I1, I2, I3, rfl⟩ := SliceAt.shape hi
          obtain ⟨O1, O2, O3, rfl⟩ := SliceAt.shape ho
          obtain ⟨X1, xc, rfl, hxc, hxm, hxe⟩ := hx
          have hxl : y.items.length ≤ 9223372036854775807 := by unfold maxLen at hxm; omega
          have HXE := Lib.hid hxe
          obtain ⟨a, rfl, ha, haa, d0, d1, d2, d3, d4⟩ := elem5 (hEM.under HBQ.out)
          clear hy hmem hz hEM hi ho hxc hxm hxe hfc hfm hnn
          have HYB := Lib.hid ((Below.refl wq.heap.size wq).alloc (Nat.le_refl _) (.cells #[.string (str y.name), .slice F1 y.funs.length fc, .slice I1 I2 I3, .slice O1 O2 O3, .slice X1 y.items.length xc] 47))
          have BY := Lib.hid (heap_alloc_new wq (.cells #[.string (str y.name), .slice F1 y.funs.length fc, .slice I1 I2 I3, .slice O1 O2 O3, .slice X1 y.items.length xc] 47))
          have HWY := Lib.hid (HBQ.out.trans (HYB.out.mono HBQ.out.size))
          have HH := Lib.hid hh
          clear hh
          by_cases hf0 : y.funs = []
          · have hfl0 : y.funs.length = 0 := by rw [hf0]; rfl
            have HHD := Lib.hid (show headS y = [110, 111, 100, 101, 32] ++ y.name by rw [headS, if_pos hf0])
            have HFL0 := Lib.hid hfl0
            have hh : 5 + (str y.name).size + (1 + (str (namesS y.ins)).size + 3 + (str (namesS y.outs)).size + 6) ≤ 8388608 := by
              have h := HH.out
              rw [HHD.out] at h
              simp only [List.length_append, List.length_cons, List.length_nil] at h
              simp only [str_size]; omega
            have hgt : ¬ (0 < y.funs.length) := by omega
            clear hf0 hfl0
            go_wp2_with fail
            generalize wq.alloc (.cells #[.string (str y.name), .slice F1 y.funs.length fc, .slice I1 I2 I3, .slice O1 O2 O3, .slice X1 y.items.length xc] 47) = Y at *
            obtain ⟨q0, q1, q2, q3, q4⟩ := row5 BY.out
            go_quiet (first | (go_at_call 69; exact Calls.quiet_of_same (HIN.out _ HWY.out _)) | (go_at_call 69; exact Calls.quiet_of_same (HON.out _ HWY.out _)))
            clear p0 p1 d0 d1 d2 d3 d4 q0 q1 q2 q3 q4
            go_wp2_with fail
            go_loopg [7, 8] y.items.length (fun g s v wr => ∃ m : Nat, m + g = y.items.length ∧ v = .int .i64 m ∧ s = .string (str (nodeK y m)) ∧ Below Y.heap.size Y wr)
            case atStart => exact ⟨0, by omega, rfl, by rw [nodeK_zero, HHD.out]; simp only [lit_str, str_append'], below_drewN (Below.refl _ _) _⟩
            case round =>
              obtain ⟨m, hmg, rfl, rfl, hbw⟩ := hrel
              obtain ⟨wz, rfl⟩ : ∃ W, W = wr := ⟨_, rfl⟩
              have MK := Lib.hid hmg
              have MY := Lib.hid hbw
              have HZQ := Lib.hid (HYB.out.trans (hbw.mono HYB.out.size))
              have MB := Lib.hid (HBQ.out.trans (HZQ.out.mono HBQ.out.size))
              obtain ⟨q0, q1, q2, q3, q4⟩ := row5 (box_next hbw BY.out)
              have hml : m ≤ y.items.length := by omega
              clear hmg hbw
              by_cases hlt3 : m < y.items.length
              · obtain ⟨x, hx⟩ : ∃ x, y.items[m]? = some x := ⟨_, List.getElem?_eq_getElem hlt3⟩
                have hle := nodeK_le hx
                have HMU := Lib.hid (nodeK_succ hx)
                have ht2 : (str (nodeK y m)).size + (1 + (str (itemS x)).size) ≤ 8388608 := by
                  have h := HYL.out
                  simp only [str_size]
                  omega
                have hwx := HWI.out x (List.mem_of_getElem? hx)
                obtain ⟨U, hEU, hRU⟩ := HXE.out m x hx
                have HF := Lib.hid (rItemS_any HTB.out hRU hwx)
                obtain ⟨u0, u1, u2, u3, u4, u5, u6, u7, u8, u9, u10, u11, u12, u13, u14, rfl⟩ := ItemAt.shape hRU
                obtain ⟨b, rfl, hb, hba, e0, e1, e2, e3, e4, e5, e6⟩ := elem7 (hEU.under MB.out)
                clear hEU hRU hx hle hwx
                go_wp2_with (go_at_call 70; (with_reducible refine (HF.out _ MB.out).mono ?_); rintro e w1 ⟨rfl, hb1⟩)
                go_roundg (y.items.length - (m + 1))
                case measure => have := MK.out; omega
                case rel => exact ⟨m + 1, by omega, by go_num, by rw [HMU.out]; simp only [lit_str, str_append']; simp, MY.out.trans (hb1.mono MY.out.size)⟩
              · have hme : m = y.items.length := by omega
                have hend : str (nodeK y m) ++ ({ data := #[32, 101, 110, 100] } : ByteArray) = str (nodeS y) := by rw [nodeK_all, hme]; simp only [lit_str, str_append']
                have hzz : (str (nodeK y m)).size + 4 ≤ 8388608 := by
                  have h := HYL.out
                  rw [nodeK_all, ← hme, List.length_append] at h
                  rw [str_size]
                  simpa using h
                have HO3 := Lib.hid (HO.out.under HZQ.out)
                have hsw := HZQ.out.size
                clear hme
                go_wp2_with (at_builtin; refine append_str rfl _ _ rfl rfl rfl (heap_alloc_new wz _) (HO3.out.alloc _) HXL.out HAL.out ?_ ?_; (first | omega | (simp; omega)); (intro v' w2 hap; obtain ⟨v2, rfl⟩ : ∃ W, W = w2 := ⟨_, rfl⟩; have HAP := Lib.hid hap; clear hap))
                go_roundg (p.nodes.length - (j + 1))
                case measure => have := HK.out; omega
                case rel => exact ⟨j + 1, by omega, by go_num, by rw [HS.out]; exact HAP.out.1, (HQ1.out.trans (HZQ.out.mono (by omega))).trans (((Below.refl _ wz).alloc (by omega) _).trans HAP.out.2.1)⟩
          · have hpos : 0 < y.funs.length := List.length_pos_iff.2 hf0
            have HHD := Lib.hid (show headS y = ([110, 111, 100, 101, 32] ++ y.name) ++ ([32, 91, 32] ++ listL [44] y.funs ++ [32, 93]) by rw [headS, if_neg hf0])
            have hh : 5 + (str y.name).size + (3 + (str (listL [44] y.funs)).size + 2) + (1 + (str (namesS y.ins)).size + 3 + (str (namesS y.outs)).size + 6) ≤ 8388608 := by
              have h := HH.out
              rw [HHD.out] at h
              simp only [List.length_append, List.length_cons, List.length_nil] at h
              simp only [str_size]; omega
            have HLS := Lib.hid (rList44s (HFL.out.under HWY.out) (by rw [← str_size]; omega))
            clear hf0
            go_wp2_with (go_at_call 25; (with_reducible refine HLS.out.mono ?_); rintro e w7 ⟨rfl, rfl⟩)
            generalize wq.alloc (.cells #[.string (str y.name), .slice F1 y.funs.length fc, .slice I1 I2 I3, .slice O1 O2 O3, .slice X1 y.items.length xc] 47) = Y at *
            obtain ⟨q0, q1, q2, q3, q4⟩ := row5 BY.out
            go_quiet (first | (go_at_call 69; exact Calls.quiet_of_same (HIN.out _ HWY.out _)) | (go_at_call 69; exact Calls.quiet_of_same (HON.out _ HWY.out _)))
            clear p0 p1 d0 d1 d2 d3 d4 q0 q1 q2 q3 q4
            go_wp2_with fail
            go_loopg [7, 8] y.items.length (fun g s v wr => ∃ m : Nat, m + g = y.items.length ∧ v = .int .i64 m ∧ s = .string (str (nodeK y m)) ∧ Below Y.heap.size Y wr)
            case atStart => exact ⟨0, by omega, rfl, by rw [nodeK_zero, HHD.out]; simp only [lit_str, str_append'], below_drewN (Below.refl _ _) _⟩
            case round =>
              obtain ⟨m, hmg, rfl, rfl, hbw⟩ := hrel
              obtain ⟨wz, rfl⟩ : ∃ W, W = wr := ⟨_, rfl⟩
              have MK := Lib.hid hmg
              have MY := Lib.hid hbw
              have HZQ := Lib.hid (HYB.out.trans (hbw.mono HYB.out.size))
              have MB := Lib.hid (HBQ.out.trans (HZQ.out.mono HBQ.out.size))
              obtain ⟨q0, q1, q2, q3, q4⟩ := row5 (box_next hbw BY.out)
              have hml : m ≤ y.items.length := by omega
              clear hmg hbw
              by_cases hlt3 : m < y.items.length
              · obtain ⟨x, hx⟩ : ∃ x, y.items[m]? = some x := ⟨_, List.getElem?_eq_getElem hlt3⟩
                have hle := nodeK_le hx
                have HMU := Lib.hid (nodeK_succ hx)
                have ht2 : (str (nodeK y m)).size + (1 + (str (itemS x)).size) ≤ 8388608 := by
                  have h := HYL.out
                  simp only [str_size]
                  omega
                have hwx := HWI.out x (List.mem_of_getElem? hx)
                obtain ⟨U, hEU, hRU⟩ := HXE.out m x hx
                have HF := Lib.hid (rItemS_any HTB.out hRU hwx)
                obtain ⟨u0, u1, u2, u3, u4, u5, u6, u7, u8, u9, u10, u11, u12, u13, u14, rfl⟩ := ItemAt.shape hRU
                obtain ⟨b, rfl, hb, hba, e0, e1, e2, e3, e4, e5, e6⟩ := elem7 (hEU.under MB.out)
                clear hEU hRU hx hle hwx
                go_wp2_with (go_at_call 70; (with_reducible refine (HF.out _ MB.out).mono ?_); rintro e w1 ⟨rfl, hb1⟩)
                go_roundg (y.items.length - (m + 1))
                case measure => have := MK.out; omega
                case rel => exact ⟨m + 1, by omega, by go_num, by rw [HMU.out]; simp only [lit_str, str_append']; simp, MY.out.trans (hb1.mono MY.out.size)⟩
              · have hme : m = y.items.length := by omega
                have hend : str (nodeK y m) ++ ({ data := #[32, 101, 110, 100] } : ByteArray) = str (nodeS y) := by rw [nodeK_all, hme]; simp only [lit_str, str_append']
                have hzz : (str (nodeK y m)).size + 4 ≤ 8388608 := by
                  have h := HYL.out
                  rw [nodeK_all, ← hme, List.length_append] at h
                  rw [str_size]
                  simpa using h
                have HO3 := Lib.hid (HO.out.under HZQ.out)
                have hsw := HZQ.out.size
                clear hme
                go_wp2_with (at_builtin; refine append_str rfl _ _ rfl rfl rfl (heap_alloc_new wz _) (HO3.out.alloc _) HXL.out HAL.out ?_ ?_; (first | omega | (simp; omega)); (intro v' w2 hap; obtain ⟨v2, rfl⟩ : ∃ W, W = w2 := ⟨_, rfl⟩; have HAP := Lib.hid hap; clear hap))
                go_roundg (p.nodes.length - (j + 1))
                case measure => have := HK.out; omega
                case rel => exact ⟨j + 1, by omega, by go_num, by rw [HS.out]; exact HAP.out.1, (HQ1.out.trans (HZQ.out.mono (by omega))).trans (((Below.refl _ wz).alloc (by omega) _).trans HAP.out.2.1)⟩
        · have hke : j = p.nodes.length := by omega
          have HO2 := Lib.hid (nodes_all (p := p) hke HO.out)
          have hst := HO2.out.strs
          obtain ⟨A3, n3, c3, rfl, hn3⟩ := HO2.out.shape
          have hn4 : n3 ≤ 1048576 := by rw [hn3]; exact HLN.out
          have HN3 := Lib.hid hn3
          have HST := Lib.hid hst
          clear hke hn3 hst HO
          go_wp2_with fail
          clear p0 p1
          go_loopg [9, 10] n3 (fun g s v wr => wr = wq ∧ ∃ m : Nat, m + g = n3 ∧ v = .int .i64 m ∧ s = .string (str (joinK (progL p) m)))
          case atStart => exact ⟨rfl, 0, by omega, rfl, by rw [joinK_zero]; rfl⟩
          case round =>
            obtain ⟨rfl, m, hmg, rfl, rfl⟩ := hrel
            have MK := Lib.hid hmg
            have hml : m ≤ n3 := by omega
            clear hmg
            by_cases hlt3 : m < n3
            · obtain ⟨x, hx⟩ : ∃ x, (progL p)[m]? = some x := ⟨_, List.getElem?_eq_getElem (by rw [← HN3.out]; exact hlt3)⟩
              have HMU := Lib.hid (joinK_succ hx)
              have hle := Nat.le_trans (joinK_le (progL p) (m + 1)) HTOT.out
              rw [HMU.out] at hle
              obtain ⟨A9, c9, e9, _, _, he9⟩ := HST.out
              obtain ⟨L9, hE9, rfl, _⟩ := he9 m x hx
              injection e9 with e9 e10 e11
              clear e10 e11
              obtain ⟨a9, ea9, _, hzc, q9⟩ := elem1 hE9
              rw [ea9] at e9
              subst e9
              simp only [Nat.mul_one] at q9
              clear hx hE9 he9 ea9 hzc
              by_cases h0 : m = 0
              · subst h0
                have hb9 : (str (joinK (progL p) 0)).size + (str x).size ≤ 8388608 := by
                  rw [str_size, str_size]; simpa using hle
                rw [add_zero] at q9
                clear hle
                go_wp2_with fail
                go_roundg (n3 - 1)
                case measure => have := MK.out; omega
                case rel => exact ⟨rfl, 1, by omega, rfl, by rw [HMU.out]; simp only [str_append']; simp⟩
              · have hpos : 0 < m := by omega
                rw [if_neg h0] at hle
                have hb9 : (str (joinK (progL p) m)).size + 1 + (str x).size ≤ 8388608 := by
                  rw [str_size, str_size]; simp only [List.length_append, List.length_cons, List.length_nil] at hle; omega
                have H0 := Lib.hid h0
                clear hle h0
                go_wp2_with fail
                go_roundg (n3 - (m + 1))
                case measure => have := MK.out; omega
                case rel => exact ⟨rfl, m + 1, by omega, by go_num, by rw [HMU.out, if_neg H0.out]; simp only [lit_str, str_append']; simp⟩
            · have hme : m = n3 := by omega
              have HME := Lib.hid (show joinK (progL p) m = joinB (progL p) by rw [hme, HN3.out, joinK, List.take_length])
              clear hme
              go_wp2_with fail
              go_ret
              exact ⟨ret_str' HME.out, HQ.out⟩
end Go.Proofs.YtjelhdjckdcbaaaGreatDoor
