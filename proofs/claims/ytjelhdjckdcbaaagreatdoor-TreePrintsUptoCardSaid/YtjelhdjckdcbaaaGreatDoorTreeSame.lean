/-
  Contracts of SameExpr and Same: which expressions, which programs are the same.
-/
import Derived.Test.YtjelhdjckdcbaaaGreatDoorTreeEqS
namespace Go.Proofs.YtjelhdjckdcbaaaGreatDoor
open Go.RowKit

set_option maxHeartbeats 2000000 in
theorem sameExpr_any {w0 : World} : ∀ (x : Ex) (y : Ex) (L M : List Value), ExAt w0 L x → ExAt w0 M y → ∀ w, Below w0.heap.size w0 w → Calls Tryz.prog 13 #[.agg L.toArray, .agg M.toArray] w (BoolPost (sameX x y) w) := by
  intro x
  induction x using Ex.ind with
  | h op nm n cs ks ih =>
    rintro ⟨op', nm', n', cs', ks'⟩ L M hL hM w hw
    obtain ⟨cv, kv, rfl, _, _, _, hcs, hks⟩ := hL.open_
    obtain ⟨cv', kv', rfl, _, _, _, hcs', hks'⟩ := hM.open_
    have hE := Lib.hid (equalS_any hcs hcs')
    have hF := Lib.hid (eqF_Expr hks hks' (fun x hx y _ L M h1 h2 => ih x hx y L M h1 h2))
    obtain ⟨A1, n1, k1, rfl⟩ := SliceAt.shape hcs
    obtain ⟨A2, n2, k2, rfl⟩ := SliceAt.shape hks
    obtain ⟨B1, m1, j1, rfl⟩ := SliceAt.shape hcs'
    obtain ⟨B2, m2, j2, rfl⟩ := SliceAt.shape hks'
    have HW := Lib.hid hw
    have hsz := hw.size
    clear hw hcs hks hcs' hks' hL hM ih
    go_enter Tryz.func13, Tryz.ntmps13
    go_wp2_with (first | (go_at_call 26; (with_reducible refine (hE.out _ ?hB).mono ?_); (case hB => exact (HW.out.alloc (by omega) _).alloc (by simp; omega) _); rintro e w1 ⟨rfl, hb1⟩; have hs1 := hb1.size; simp at hs1; have HB1 := Lib.hid (((HW.out.alloc (by omega) _).alloc (by simp; omega) _).trans (hb1.mono (by simp; omega))); have HC1 := Lib.hid ((((Below.refl _ _).alloc (Nat.le_refl _) _).alloc (by simp) _).trans (hb1.mono (by simp; omega))); have ba1 := box_a hb1; have bb1 := box_b hb1; obtain ⟨x1_0, x1_1, x1_2, x1_3, x1_4⟩ := row5 ba1; obtain ⟨y1_0, y1_1, y1_2, y1_3, y1_4⟩ := row5 bb1; have BA1 := Lib.hid ba1; have BB1 := Lib.hid bb1; clear ba1 bb1; clear hb1) | (go_at_call 27; (with_reducible refine (hF.out _ ?hB).mono ?_); (case hB => exact HB1.out); rintro e w2 ⟨rfl, hb2⟩; have hs2 := hb2.size; have HB2 := Lib.hid ((HB1.out).trans (hb2.mono (by omega))); have HC2 := Lib.hid ((HC1.out).trans (hb2.mono (by omega))); clear hb2))
    all_goals go_ret
    all_goals refine ⟨ret_bool ?_, ?_⟩
    all_goals first | exact HC2.out | exact HC1.out | exact ((Below.refl _ _).alloc (Nat.le_refl _) _).alloc (by simp) _ | skip
    all_goals simp_all [sameX, str_toL, sameXs_by]

set_option maxHeartbeats 2000000 in
theorem sameEq_any {w0 : World} {x y : QEq} {L M : List Value} (hL : EqAt w0 L x) (hM : EqAt w0 M y) : ∀ w, Below w0.heap.size w0 w → Calls Tryz.prog 96 #[.agg L.toArray, .agg M.toArray] w (BoolPost (sameQEq x y) w) := by
    intro w hw
    obtain ⟨va, L', rfl, ha, hx⟩ := hL
    obtain ⟨vb, M', rfl, hb, hy⟩ := hM
    have hE := Lib.hid (equalS_any ha hb)
    have hF := Lib.hid (sameExpr_any _ _ _ _ hx hy)
    obtain ⟨A0, n0, k0, rfl⟩ := SliceAt.shape ha
    obtain ⟨B0, m0, j0, rfl⟩ := SliceAt.shape hb
    obtain ⟨po1, ps2, po3, pA4, pn4, pk4, pA5, pn5, pk5, rfl⟩ := hx.shape
    obtain ⟨qo1, qs2, qo3, qA4, qn4, qk4, qA5, qn5, qk5, rfl⟩ := hy.shape
    clear ha hb hx hy
    have HW := Lib.hid hw
    have hsz := hw.size
    clear hw
    go_enter Tryz.func96, Tryz.ntmps96
    go_wp2_with (first | (go_at_call 26; (with_reducible refine (hE.out _ ?hB).mono ?_); (case hB => exact (HW.out.alloc (by omega) _).alloc (by simp; omega) _); rintro e w1 ⟨rfl, hb1⟩; have hs1 := hb1.size; simp at hs1; have HB1 := Lib.hid (((HW.out.alloc (by omega) _).alloc (by simp; omega) _).trans (hb1.mono (by simp; omega))); have HC1 := Lib.hid ((((Below.refl _ _).alloc (Nat.le_refl _) _).alloc (by simp) _).trans (hb1.mono (by simp; omega))); have ba1 := box_a hb1; have bb1 := box_b hb1; obtain ⟨x1_0, x1_1, x1_2, x1_3, x1_4, x1_5⟩ := row6 ba1; obtain ⟨y1_0, y1_1, y1_2, y1_3, y1_4, y1_5⟩ := row6 bb1; have BA1 := Lib.hid ba1; have BB1 := Lib.hid bb1; clear ba1 bb1; clear hb1) | (go_at_call 13; (with_reducible refine (hF.out _ ?hB).mono ?_); (case hB => exact HB1.out); rintro e w2 ⟨rfl, hb2⟩; have hs2 := hb2.size; have HB2 := Lib.hid ((HB1.out).trans (hb2.mono (by omega))); have HC2 := Lib.hid ((HC1.out).trans (hb2.mono (by omega))); clear hb2))
    all_goals go_ret
    all_goals refine ⟨ret_bool ?_, ?_⟩
    all_goals first | exact HC2.out | exact HC1.out | exact ((Below.refl _ _).alloc (Nat.le_refl _) _).alloc (by simp) _ | skip
    all_goals simp_all [sameQEq]

set_option maxHeartbeats 2000000 in
theorem sameWay_any {w0 : World} {x y : QWay} {L M : List Value} (hL : WayAt w0 L x) (hM : WayAt w0 M y) : ∀ w, Below w0.heap.size w0 w → Calls Tryz.prog 118 #[.agg L.toArray, .agg M.toArray] w (BoolPost (sameQWay x y) w) := by
    intro w hw
    obtain ⟨L', rfl, hx, _⟩ := hL
    obtain ⟨M', rfl, hy, _⟩ := hM
    have hF := Lib.hid (sameExpr_any _ _ _ _ hx hy)
    obtain ⟨po1, ps2, po3, pA4, pn4, pk4, pA5, pn5, pk5, rfl⟩ := hx.shape
    obtain ⟨qo1, qs2, qo3, qA4, qn4, qk4, qA5, qn5, qk5, rfl⟩ := hy.shape
    simp only [List.cons_append, List.nil_append]
    clear hx hy
    have HW := Lib.hid hw
    have hsz := hw.size
    clear hw
    go_enter Tryz.func118, Tryz.ntmps118
    go_wp2_with (first | (go_at_call 13; (with_reducible refine (hF.out _ ?hB).mono ?_); (case hB => exact (HW.out.alloc (by omega) _).alloc (by simp; omega) _); rintro e w1 ⟨rfl, hb1⟩; have hs1 := hb1.size; simp at hs1; have HB1 := Lib.hid (((HW.out.alloc (by omega) _).alloc (by simp; omega) _).trans (hb1.mono (by simp; omega))); have HC1 := Lib.hid ((((Below.refl _ _).alloc (Nat.le_refl _) _).alloc (by simp) _).trans (hb1.mono (by simp; omega))); clear hb1))
    all_goals go_ret
    all_goals refine ⟨ret_bool ?_, ?_⟩
    all_goals first | exact HC1.out | exact ((Below.refl _ _).alloc (Nat.le_refl _) _).alloc (by simp) _ | skip
    all_goals simp_all [sameQWay, str_toL]

set_option maxHeartbeats 2000000 in
theorem sameState_any {w0 : World} {x y : QState} {L M : List Value} (hL : StateAt w0 L x) (hM : StateAt w0 M y) : ∀ w, Below w0.heap.size w0 w → Calls Tryz.prog 98 #[.agg L.toArray, .agg M.toArray] w (BoolPost (sameQState x y) w) := by
    intro w hw
    obtain ⟨va, vb, rfl, _, ha, hb⟩ := hL
    obtain ⟨vc, vd, rfl, _, hc, hd⟩ := hM
    have hE := Lib.hid (eqF_Eq ha hc fun _ _ _ _ _ _ h1 h2 => sameEq_any h1 h2)
    have hF := Lib.hid (eqF_Way hb hd fun _ _ _ _ _ _ h1 h2 => sameWay_any h1 h2)
    obtain ⟨A1, n1, k1, rfl⟩ := SliceAt.shape ha
    obtain ⟨A2, n2, k2, rfl⟩ := SliceAt.shape hb
    obtain ⟨B1, m1, j1, rfl⟩ := SliceAt.shape hc
    obtain ⟨B2, m2, j2, rfl⟩ := SliceAt.shape hd
    clear ha hb hc hd
    have HW := Lib.hid hw
    have hsz := hw.size
    clear hw
    go_enter Tryz.func98, Tryz.ntmps98
    go_wp2_with (first | (go_at_call 116; (with_reducible refine (hE.out _ ?hB).mono ?_); (case hB => exact (HW.out.alloc (by omega) _).alloc (by simp; omega) _); rintro e w1 ⟨rfl, hb1⟩; have hs1 := hb1.size; simp at hs1; have HB1 := Lib.hid (((HW.out.alloc (by omega) _).alloc (by simp; omega) _).trans (hb1.mono (by simp; omega))); have HC1 := Lib.hid ((((Below.refl _ _).alloc (Nat.le_refl _) _).alloc (by simp) _).trans (hb1.mono (by simp; omega))); have ba1 := box_a hb1; have bb1 := box_b hb1; obtain ⟨x1_0, x1_1, x1_2⟩ := row3 ba1; obtain ⟨y1_0, y1_1, y1_2⟩ := row3 bb1; have BA1 := Lib.hid ba1; have BB1 := Lib.hid bb1; clear ba1 bb1; clear hb1) | (go_at_call 117; (with_reducible refine (hF.out _ ?hB).mono ?_); (case hB => exact HB1.out); rintro e w2 ⟨rfl, hb2⟩; have hs2 := hb2.size; have HB2 := Lib.hid ((HB1.out).trans (hb2.mono (by omega))); have HC2 := Lib.hid ((HC1.out).trans (hb2.mono (by omega))); clear hb2))
    all_goals go_ret
    all_goals refine ⟨ret_bool ?_, ?_⟩
    all_goals first | exact HC2.out | exact HC1.out | exact ((Below.refl _ _).alloc (Nat.le_refl _) _).alloc (by simp) _ | skip
    all_goals simp_all [sameQState, str_toL]

set_option maxHeartbeats 2000000 in
theorem sameItem_any {w0 : World} {x y : QItem} {L M : List Value} (hL : ItemAt w0 L x) (hM : ItemAt w0 M y) : ∀ w, Below w0.heap.size w0 w → Calls Tryz.prog 72 #[.agg L.toArray, .agg M.toArray] w (BoolPost (sameQItem x y) w) := by
    intro w hw
    obtain ⟨L', va, rfl, hx, ha⟩ := hL
    obtain ⟨M', vb, rfl, hy, hb⟩ := hM
    have hE := Lib.hid (sameEq_any hx hy)
    have hF := Lib.hid (eqF_State ha hb fun _ _ _ _ _ _ h1 h2 => sameState_any h1 h2)
    obtain ⟨A1, n1, k1, rfl⟩ := SliceAt.shape ha
    obtain ⟨B1, m1, j1, rfl⟩ := SliceAt.shape hb
    obtain ⟨pA0, pn0, pk0, po1, ps2, po3, pA4, pn4, pk4, pA5, pn5, pk5, rfl⟩ := hx.shape
    obtain ⟨qA0, qn0, qk0, qo1, qs2, qo3, qA4, qn4, qk4, qA5, qn5, qk5, rfl⟩ := hy.shape
    simp only [List.cons_append, List.nil_append]
    clear hx hy ha hb
    have HW := Lib.hid hw
    have hsz := hw.size
    clear hw
    go_enter Tryz.func72, Tryz.ntmps72
    go_wp2_with (first | (go_at_call 96; (with_reducible refine (hE.out _ ?hB).mono ?_); (case hB => exact (HW.out.alloc (by omega) _).alloc (by simp; omega) _); rintro e w1 ⟨rfl, hb1⟩; have hs1 := hb1.size; simp at hs1; have HB1 := Lib.hid (((HW.out.alloc (by omega) _).alloc (by simp; omega) _).trans (hb1.mono (by simp; omega))); have HC1 := Lib.hid ((((Below.refl _ _).alloc (Nat.le_refl _) _).alloc (by simp) _).trans (hb1.mono (by simp; omega))); have ba1 := box_a hb1; have bb1 := box_b hb1; obtain ⟨x1_0, x1_1, x1_2, x1_3, x1_4, x1_5, x1_6⟩ := row7 ba1; obtain ⟨y1_0, y1_1, y1_2, y1_3, y1_4, y1_5, y1_6⟩ := row7 bb1; have BA1 := Lib.hid ba1; have BB1 := Lib.hid bb1; clear ba1 bb1; clear hb1) | (go_at_call 97; (with_reducible refine (hF.out _ ?hB).mono ?_); (case hB => exact HB1.out); rintro e w2 ⟨rfl, hb2⟩; have hs2 := hb2.size; have HB2 := Lib.hid ((HB1.out).trans (hb2.mono (by omega))); have HC2 := Lib.hid ((HC1.out).trans (hb2.mono (by omega))); clear hb2))
    all_goals go_ret
    all_goals refine ⟨ret_bool ?_, ?_⟩
    all_goals first | exact HC2.out | exact HC1.out | exact ((Below.refl _ _).alloc (Nat.le_refl _) _).alloc (by simp) _ | skip
    all_goals simp_all [sameQItem]

set_option maxHeartbeats 2000000 in
theorem sameEnum_any {w0 : World} {x y : QEnum} {L M : List Value} (hL : EnumAt w0 L x) (hM : EnumAt w0 M y) : ∀ w, Below w0.heap.size w0 w → Calls Tryz.prog 39 #[.agg L.toArray, .agg M.toArray] w (BoolPost (sameQEnum x y) w) := by
    intro w hw
    obtain ⟨va, rfl, _, ha⟩ := hL
    obtain ⟨vb, rfl, _, hb⟩ := hM
    have hE := Lib.hid (equalS_any ha hb)
    obtain ⟨A1, n1, k1, rfl⟩ := SliceAt.shape ha
    obtain ⟨B1, m1, j1, rfl⟩ := SliceAt.shape hb
    clear ha hb
    have HW := Lib.hid hw
    have hsz := hw.size
    clear hw
    go_enter Tryz.func39, Tryz.ntmps39
    go_wp2_with (first | (go_at_call 26; (with_reducible refine (hE.out _ ?hB).mono ?_); (case hB => exact (HW.out.alloc (by omega) _).alloc (by simp; omega) _); rintro e w1 ⟨rfl, hb1⟩; have hs1 := hb1.size; simp at hs1; have HB1 := Lib.hid (((HW.out.alloc (by omega) _).alloc (by simp; omega) _).trans (hb1.mono (by simp; omega))); have HC1 := Lib.hid ((((Below.refl _ _).alloc (Nat.le_refl _) _).alloc (by simp) _).trans (hb1.mono (by simp; omega))); clear hb1))
    all_goals go_ret
    all_goals refine ⟨ret_bool ?_, ?_⟩
    all_goals first | exact HC1.out | exact ((Below.refl _ _).alloc (Nat.le_refl _) _).alloc (by simp) _ | skip
    all_goals simp_all [sameQEnum, str_toL]

set_option maxHeartbeats 2000000 in
theorem sameNode_any {w0 : World} {x y : QNode} {L M : List Value} (hL : NodeAt w0 L x) (hM : NodeAt w0 M y) : ∀ w, Below w0.heap.size w0 w → Calls Tryz.prog 41 #[.agg L.toArray, .agg M.toArray] w (BoolPost (sameQNode x y) w) := by
    intro w hw
    obtain ⟨va1, va2, va3, va4, rfl, _, ha1, ha2, ha3, ha4⟩ := hL
    obtain ⟨vb1, vb2, vb3, vb4, rfl, _, hb1, hb2, hb3, hb4⟩ := hM
    have hE1 := Lib.hid (equalS_any ha1 hb1)
    have hE2 := Lib.hid (equalS_any ha2 hb2)
    have hE3 := Lib.hid (equalS_any ha3 hb3)
    have hF := Lib.hid (eqF_Item ha4 hb4 fun _ _ _ _ _ _ h1 h2 => sameItem_any h1 h2)
    obtain ⟨A1, n1, k1, rfl⟩ := SliceAt.shape ha1
    obtain ⟨A2, n2, k2, rfl⟩ := SliceAt.shape ha2
    obtain ⟨A3, n3, k3, rfl⟩ := SliceAt.shape ha3
    obtain ⟨A4, n4, k4, rfl⟩ := SliceAt.shape ha4
    obtain ⟨B1, m1, j1, rfl⟩ := SliceAt.shape hb1
    obtain ⟨B2, m2, j2, rfl⟩ := SliceAt.shape hb2
    obtain ⟨B3, m3, j3, rfl⟩ := SliceAt.shape hb3
    obtain ⟨B4, m4, j4, rfl⟩ := SliceAt.shape hb4
    clear ha1 ha2 ha3 ha4 hb1 hb2 hb3 hb4
    have HW := Lib.hid hw
    have hsz := hw.size
    clear hw
    go_enter Tryz.func41, Tryz.ntmps41
    go_wp2_with (first | (go_at_call 26; (with_reducible refine (hE1.out _ ?hB).mono ?_); (case hB => exact (HW.out.alloc (by omega) _).alloc (by simp; omega) _); rintro e w1 ⟨rfl, hb1⟩; have hs1 := hb1.size; simp at hs1; have HB1 := Lib.hid (((HW.out.alloc (by omega) _).alloc (by simp; omega) _).trans (hb1.mono (by simp; omega))); have HC1 := Lib.hid ((((Below.refl _ _).alloc (Nat.le_refl _) _).alloc (by simp) _).trans (hb1.mono (by simp; omega))); have ba1 := box_a hb1; have bb1 := box_b hb1; obtain ⟨x1_0, x1_1, x1_2, x1_3, x1_4⟩ := row5 ba1; obtain ⟨y1_0, y1_1, y1_2, y1_3, y1_4⟩ := row5 bb1; have BA1 := Lib.hid ba1; have BB1 := Lib.hid bb1; clear ba1 bb1; clear hb1) | (go_at_call 26; (with_reducible refine (hE2.out _ ?hB).mono ?_); (case hB => exact HB1.out); rintro e w2 ⟨rfl, hb2⟩; have hs2 := hb2.size; have HB2 := Lib.hid ((HB1.out).trans (hb2.mono (by omega))); have HC2 := Lib.hid ((HC1.out).trans (hb2.mono (by omega))); have ba2 := box_next hb2 BA1.out; have bb2 := box_next hb2 BB1.out; obtain ⟨x2_0, x2_1, x2_2, x2_3, x2_4⟩ := row5 ba2; obtain ⟨y2_0, y2_1, y2_2, y2_3, y2_4⟩ := row5 bb2; have BA2 := Lib.hid ba2; have BB2 := Lib.hid bb2; clear ba2 bb2; clear hb2) | (go_at_call 26; (with_reducible refine (hE3.out _ ?hB).mono ?_); (case hB => exact HB2.out); rintro e w3 ⟨rfl, hb3⟩; have hs3 := hb3.size; have HB3 := Lib.hid ((HB2.out).trans (hb3.mono (by omega))); have HC3 := Lib.hid ((HC2.out).trans (hb3.mono (by omega))); have ba3 := box_next hb3 BA2.out; have bb3 := box_next hb3 BB2.out; obtain ⟨x3_0, x3_1, x3_2, x3_3, x3_4⟩ := row5 ba3; obtain ⟨y3_0, y3_1, y3_2, y3_3, y3_4⟩ := row5 bb3; have BA3 := Lib.hid ba3; have BB3 := Lib.hid bb3; clear ba3 bb3; clear hb3) | (go_at_call 71; (with_reducible refine (hF.out _ ?hB).mono ?_); (case hB => exact HB3.out); rintro e w4 ⟨rfl, hb4⟩; have hs4 := hb4.size; have HB4 := Lib.hid ((HB3.out).trans (hb4.mono (by omega))); have HC4 := Lib.hid ((HC3.out).trans (hb4.mono (by omega))); clear hb4))
    all_goals go_ret
    all_goals refine ⟨ret_bool ?_, ?_⟩
    all_goals first | exact HC4.out | exact HC3.out | exact HC2.out | exact HC1.out | exact ((Below.refl _ _).alloc (Nat.le_refl _) _).alloc (by simp) _ | skip
    all_goals simp_all [sameQNode, str_toL]

set_option maxHeartbeats 2000000 in
theorem same_any {w0 : World} {x y : QProg} {L M : List Value} (hL : ProgAt w0 L x) (hM : ProgAt w0 M y) : ∀ w, Below w0.heap.size w0 w → Calls Tryz.prog 20 #[.agg L.toArray, .agg M.toArray] w (BoolPost (sameQProg x y) w) := by
    intro w hw
    obtain ⟨va, vb, rfl, ha, hb⟩ := hL
    obtain ⟨vc, vd, rfl, hc, hd⟩ := hM
    have hE := Lib.hid (eqF_Enum ha hc fun _ _ _ _ _ _ h1 h2 => sameEnum_any h1 h2)
    have hF := Lib.hid (eqF_Node hb hd fun _ _ _ _ _ _ h1 h2 => sameNode_any h1 h2)
    obtain ⟨A1, n1, k1, rfl⟩ := SliceAt.shape ha
    obtain ⟨A2, n2, k2, rfl⟩ := SliceAt.shape hb
    obtain ⟨B1, m1, j1, rfl⟩ := SliceAt.shape hc
    obtain ⟨B2, m2, j2, rfl⟩ := SliceAt.shape hd
    clear ha hb hc hd
    have HW := Lib.hid hw
    have hsz := hw.size
    clear hw
    go_enter Tryz.func20, Tryz.ntmps20
    go_wp2_with (first | (go_at_call 38; (with_reducible refine (hE.out _ ?hB).mono ?_); (case hB => exact (HW.out.alloc (by omega) _).alloc (by simp; omega) _); rintro e w1 ⟨rfl, hb1⟩; have hs1 := hb1.size; simp at hs1; have HB1 := Lib.hid (((HW.out.alloc (by omega) _).alloc (by simp; omega) _).trans (hb1.mono (by simp; omega))); have HC1 := Lib.hid ((((Below.refl _ _).alloc (Nat.le_refl _) _).alloc (by simp) _).trans (hb1.mono (by simp; omega))); have ba1 := box_a hb1; have bb1 := box_b hb1; obtain ⟨x1_0, x1_1⟩ := row2 ba1; obtain ⟨y1_0, y1_1⟩ := row2 bb1; have BA1 := Lib.hid ba1; have BB1 := Lib.hid bb1; clear ba1 bb1; clear hb1) | (go_at_call 40; (with_reducible refine (hF.out _ ?hB).mono ?_); (case hB => exact HB1.out); rintro e w2 ⟨rfl, hb2⟩; have hs2 := hb2.size; have HB2 := Lib.hid ((HB1.out).trans (hb2.mono (by omega))); have HC2 := Lib.hid ((HC1.out).trans (hb2.mono (by omega))); clear hb2))
    all_goals go_ret
    all_goals refine ⟨ret_bool ?_, ?_⟩
    all_goals first | exact HC2.out | exact HC1.out | exact ((Below.refl _ _).alloc (Nat.le_refl _) _).alloc (by simp) _ | skip
    all_goals simp_all [sameQProg]
end Go.Proofs.YtjelhdjckdcbaaaGreatDoor
