/-
  The rules' methods above expressions.
-/
import Derived.Test.YtbpbnebcbjacdaaGreatTreeRules
namespace Go.Proofs.YtbpbnebcbjacdaaGreat
open Go.RowKit

set_option maxHeartbeats 2000000 in
theorem equation_any {made : Bool} {rv : Value} {w0 : World} {x : QEq} {L : List Value} (hr : RulesAt w0 made rv) (hL : EqAt w0 L x) : ∀ w, Below w0.heap.size w0 w → Calls Tryz.prog 113 #[rv, .agg L.toArray] w (BoolPost (rightEq made x) w) := by
    intro w hw
    have hr0 := hr
    obtain ⟨nf, cf, rfl, ⟨gn, cn, rfl, egn, hfn⟩, ⟨gc, cc, rfl, egc, hfc⟩⟩ := hr
    have egn : ∀ (args : Array Value) (W : World), (callFunc gn args).run Tryz.prog W = .ok (.enter gn args) W := egn
    have egc : ∀ (args : Array Value) (W : World), (callFunc gc args).run Tryz.prog W = .ok (.enter gc args) W := egc
    obtain ⟨va, L', rfl, ha, hx⟩ := hL
    have hA := Lib.hid (fun w hw => bool_as (allM_eq _ 1 6 1 6 rfl rfl) (all_string (lo := 1) (hi := 6) (f := nameM made) ha egn (fun x _ hx w hw => hfn x hx w hw) w hw))
    have hF := Lib.hid (fun w hw => expr_any hr0 _ _ hx w hw)
    obtain ⟨A0, n0, k0, rfl⟩ := SliceAt.shape ha
    obtain ⟨po1, ps2, po3, pA4, pn4, pk4, pA5, pn5, pk5, rfl⟩ := hx.shape
    clear ha hx hr0 hfn hfc
    have HW := Lib.hid hw
    have hsz := hw.size
    clear hw
    go_enter Tryz.func113, Tryz.ntmps113
    go_wp2_with (first | (go_at_call 91; (with_reducible refine (hA.out _ ?hB).mono ?_); (case hB => exact (HW.out.alloc (by omega) _).alloc (by simp; omega) _); rintro e w1 ⟨rfl, hb1⟩; have hs1 := hb1.size; simp at hs1; have HB1 := Lib.hid (((HW.out.alloc (by omega) _).alloc (by simp; omega) _).trans (hb1.mono (by simp; omega))); have HC1 := Lib.hid ((((Below.refl _ _).alloc (Nat.le_refl _) _).alloc (by simp) _).trans (hb1.mono (by simp; omega))); have ba1 := box_a hb1; have bb1 := box_b hb1; obtain ⟨x1_0, x1_1, x1_2, x1_3⟩ := row4c ba1; obtain ⟨y1_0, y1_1, y1_2, y1_3, y1_4, y1_5⟩ := row6 bb1; have BA1 := Lib.hid ba1; have BB1 := Lib.hid bb1; clear ba1 bb1; clear hb1) | (go_at_call 127; (with_reducible refine (hF.out _ ?hB).mono ?_); (case hB => exact HB1.out); rintro e w2 ⟨rfl, hb2⟩; have hs2 := hb2.size; have HB2 := Lib.hid ((HB1.out).trans (hb2.mono (by omega))); have HC2 := Lib.hid ((HC1.out).trans (hb2.mono (by omega))); clear hb2))
    all_goals go_ret
    all_goals refine ⟨ret_bool ?_, ?_⟩
    all_goals first | exact HC2.out | exact HC1.out | exact ((Below.refl _ _).alloc (Nat.le_refl _) _).alloc (by simp) _ | skip
    all_goals simp_all [rightEq]

set_option maxHeartbeats 2000000 in
theorem way_any {made : Bool} {rv : Value} {w0 : World} {x : QWay} {L : List Value} (hr : RulesAt w0 made rv) (hL : WayAt w0 L x) : ∀ w, Below w0.heap.size w0 w → Calls Tryz.prog 132 #[rv, .agg L.toArray] w (BoolPost (rightWay made x) w) := by
    intro w hw
    have hr0 := hr
    obtain ⟨nf, cf, rfl, ⟨gn, cn, rfl, egn, hfn⟩, ⟨gc, cc, rfl, egc, hfc⟩⟩ := hr
    have egn : ∀ (args : Array Value) (W : World), (callFunc gn args).run Tryz.prog W = .ok (.enter gn args) W := egn
    have egc : ∀ (args : Array Value) (W : World), (callFunc gc args).run Tryz.prog W = .ok (.enter gc args) W := egc
    obtain ⟨L', rfl, hx, hto⟩ := hL
    have hA := Lib.hid (hfc _ hto)
    have hF := Lib.hid (fun w hw => expr_any hr0 _ _ hx w hw)
    obtain ⟨po1, ps2, po3, pA4, pn4, pk4, pA5, pn5, pk5, rfl⟩ := hx.shape
    simp only [List.cons_append, List.nil_append]
    clear hx hr0 hfn hfc
    have HW := Lib.hid hw
    have hsz := hw.size
    clear hw
    go_enter Tryz.func132, Tryz.ntmps132
    go_wp2_with (first | (go_at_fn gc; (refine (hA.out _ ?hB).mono ?_); (case hB => exact (HW.out.alloc (by omega) _).alloc (by simp; omega) _); rintro e w1 ⟨rfl, hb1⟩; have hs1 := hb1.size; simp at hs1; have HB1 := Lib.hid (((HW.out.alloc (by omega) _).alloc (by simp; omega) _).trans (hb1.mono (by simp; omega))); have HC1 := Lib.hid ((((Below.refl _ _).alloc (Nat.le_refl _) _).alloc (by simp) _).trans (hb1.mono (by simp; omega))); have ba1 := box_a hb1; have bb1 := box_b hb1; obtain ⟨x1_0, x1_1, x1_2, x1_3⟩ := row4c ba1; obtain ⟨y1_0, y1_1, y1_2, y1_3, y1_4, y1_5⟩ := row6 bb1; have BA1 := Lib.hid ba1; have BB1 := Lib.hid bb1; clear ba1 bb1; clear hb1) | (go_at_call 127; (with_reducible refine (hF.out _ ?hB).mono ?_); (case hB => exact HB1.out); rintro e w2 ⟨rfl, hb2⟩; have hs2 := hb2.size; have HB2 := Lib.hid ((HB1.out).trans (hb2.mono (by omega))); have HC2 := Lib.hid ((HC1.out).trans (hb2.mono (by omega))); clear hb2))
    all_goals go_ret
    all_goals refine ⟨ret_bool ?_, ?_⟩
    all_goals first | exact HC2.out | exact HC1.out | exact ((Below.refl _ _).alloc (Nat.le_refl _) _).alloc (by simp) _ | skip
    all_goals simp_all [rightWay]

set_option maxHeartbeats 2000000 in
theorem state_any {made : Bool} {rv : Value} {w0 : World} {x : QState} {L : List Value} (hr : RulesAt w0 made rv) (hL : StateAt w0 L x) : ∀ w, Below w0.heap.size w0 w → Calls Tryz.prog 116 #[rv, .agg L.toArray] w (BoolPost (rightState made x) w) := by
    intro w hw
    have hr0 := hr
    obtain ⟨nf, cf, rfl, ⟨gn, cn, rfl, egn, hfn⟩, ⟨gc, cc, rfl, egc, hfc⟩⟩ := hr
    have egn : ∀ (args : Array Value) (W : World), (callFunc gn args).run Tryz.prog W = .ok (.enter gn args) W := egn
    have egc : ∀ (args : Array Value) (W : World), (callFunc gc args).run Tryz.prog W = .ok (.enter gc args) W := egc
    obtain ⟨va, vb, rfl, hnm, ha, hb⟩ := hL
    have hA := Lib.hid (hfc _ hnm)
    have hE := Lib.hid (fun w hw => bool_as (allM_eq _ (0) (24) (0) (24) rfl rfl) (all_Eq (lo := 0) (hi := 24) (f := rightEq made) (rv := .agg #[.func (.func gn) #[] cn, .func (.func gc) #[] cc, .int .i64 (enumsM made : Nat), .int .i64 (itemsM made : Nat)]) ha (fun x _ L hx => equation_any hr0 hx) w hw))
    have hF := Lib.hid (fun w hw => bool_as (allM_eq _ (0) (4) (0) (4) rfl rfl) (all_Way (lo := 0) (hi := 4) (f := rightWay made) (rv := .agg #[.func (.func gn) #[] cn, .func (.func gc) #[] cc, .int .i64 (enumsM made : Nat), .int .i64 (itemsM made : Nat)]) hb (fun x _ L hx => way_any hr0 hx) w hw))
    obtain ⟨A1, n1, k1, rfl⟩ := SliceAt.shape ha
    obtain ⟨A2, n2, k2, rfl⟩ := SliceAt.shape hb
    clear ha hb hr0 hfn hfc
    have HW := Lib.hid hw
    have hsz := hw.size
    clear hw
    go_enter Tryz.func116, Tryz.ntmps116
    go_wp2_with (first | (go_at_fn gc; (refine (hA.out _ ?hB).mono ?_); (case hB => exact (HW.out.alloc (by omega) _).alloc (by simp; omega) _); rintro e w1 ⟨rfl, hb1⟩; have hs1 := hb1.size; simp at hs1; have HB1 := Lib.hid (((HW.out.alloc (by omega) _).alloc (by simp; omega) _).trans (hb1.mono (by simp; omega))); have HC1 := Lib.hid ((((Below.refl _ _).alloc (Nat.le_refl _) _).alloc (by simp) _).trans (hb1.mono (by simp; omega))); have ba1 := box_a hb1; have bb1 := box_b hb1; obtain ⟨x1_0, x1_1, x1_2, x1_3⟩ := row4c ba1; obtain ⟨y1_0, y1_1, y1_2⟩ := row3 bb1; have BA1 := Lib.hid ba1; have BB1 := Lib.hid bb1; clear ba1 bb1; clear hb1) | (go_at_call 130; (with_reducible refine (hE.out _ ?hB).mono ?_); (case hB => exact HB1.out); rintro e w2 ⟨rfl, hb2⟩; have hs2 := hb2.size; have HB2 := Lib.hid ((HB1.out).trans (hb2.mono (by omega))); have HC2 := Lib.hid ((HC1.out).trans (hb2.mono (by omega))); have ba2 := box_next hb2 BA1.out; have bb2 := box_next hb2 BB1.out; obtain ⟨x2_0, x2_1, x2_2, x2_3⟩ := row4c ba2; obtain ⟨y2_0, y2_1, y2_2⟩ := row3 bb2; have BA2 := Lib.hid ba2; have BB2 := Lib.hid bb2; clear ba2 bb2; clear hb2) | (go_at_call 131; (with_reducible refine (hF.out _ ?hB).mono ?_); (case hB => exact HB2.out); rintro e w3 ⟨rfl, hb3⟩; have hs3 := hb3.size; have HB3 := Lib.hid ((HB2.out).trans (hb3.mono (by omega))); have HC3 := Lib.hid ((HC2.out).trans (hb3.mono (by omega))); clear hb3))
    all_goals go_ret
    all_goals refine ⟨ret_bool ?_, ?_⟩
    all_goals first | exact HC3.out | exact HC2.out | exact HC1.out | exact ((Below.refl _ _).alloc (Nat.le_refl _) _).alloc (by simp) _ | skip
    all_goals simp_all [rightState]

theorem zero_at (w : World) : ExAt w [.int .i64 0, .string ⟨#[]⟩, .int .i64 0, .slice none 0 0, .slice none 0 0] noneX :=
  ExAt.mk (nm := []) (cs := []) (ks := []) (C := fun _ => []) ⟨by decide, by decide⟩ (by simp) ⟨by decide, by decide⟩ ⟨none, 0, rfl, Nat.le_refl _, by unfold maxLen; omega, fun i x h => by simp at h⟩ (Nat.le_refl _) (by unfold maxLen; omega) (fun i k h => by simp at h) (fun i k h => by simp at h)
set_option maxHeartbeats 2000000 in
theorem item_any {made : Bool} {rv : Value} {w0 : World} {x : QItem} {L : List Value} (hr : RulesAt w0 made rv) (hL : ItemAt w0 L x) : ∀ w, Below w0.heap.size w0 w → Calls Tryz.prog 93 #[rv, .agg L.toArray] w (BoolPost (rightItem made x) w) := by
    intro w hw
    have hr0 := hr
    obtain ⟨nf, cf, rfl, ⟨gn, cn, rfl, _⟩, ⟨gc, cc, rfl, _⟩⟩ := hr
    obtain ⟨⟨names, e⟩, states⟩ := x
    obtain ⟨L', sv, rfl, hx, hs⟩ := hL
    have hE := Lib.hid (equation_any hr0 hx)
    obtain ⟨nv, L'', rfl, hnv, hxx⟩ := hx
    have hSE := Lib.hid (fun w hw => sameExpr_any _ _ _ _ hxx (zero_at w0) w hw)
    have hAS := Lib.hid (fun w hw => bool_as (allM_eq _ (1) (8) (1) (8) rfl rfl) (all_State (lo := 1) (hi := 8) (f := rightState made) (rv := .agg #[.func (.func gn) #[] cn, .func (.func gc) #[] cc, .int .i64 (enumsM made : Nat), .int .i64 (itemsM made : Nat)]) hs (fun x _ L hx => state_any hr0 hx) w hw))
    obtain ⟨A0, c0, rfl, hc0, hm0, _⟩ := hnv
    obtain ⟨A6, c6, rfl, hc6, hm6, _⟩ := hs
    obtain ⟨po1, ps2, po3, pA4, pn4, pk4, pA5, pn5, pk5, rfl⟩ := hxx.shape
    simp only [List.cons_append, List.nil_append] at *
    generalize ((itemsM made : Nat) : Int) = NI at *
    generalize ((enumsM made : Nat) : Int) = NE at *
    have HW := Lib.hid hw
    have hsz := hw.size
    clear hw hxx hr0 hc0 hm0 hc6 hm6
    by_cases hst : states = []
    · subst hst
      simp only [List.length_nil] at *
      go_enter Tryz.func93, Tryz.ntmps93
      go_wp2_with (first | (go_at_call 113; (with_reducible refine (hE.out _ ?hB).mono ?_); (case hB => exact (HW.out.alloc (by omega) _).alloc (by simp; omega) _); rintro e w1 ⟨rfl, hb1⟩; have hs1 := hb1.size; simp at hs1; have HB1 := Lib.hid (((HW.out.alloc (by omega) _).alloc (by simp; omega) _).trans (hb1.mono (by simp; omega))); have HC1 := Lib.hid ((((Below.refl _ _).alloc (Nat.le_refl _) _).alloc (by simp) _).trans (hb1.mono (by simp; omega))); clear hb1))
      all_goals go_ret
      all_goals refine ⟨ret_bool ?_, ?_⟩
      all_goals first | exact HC1.out | exact ((Below.refl _ _).alloc (Nat.le_refl _) _).alloc (by simp) _ | skip
      all_goals simp_all [rightItem]

    · have hd : ((states.length : Int) == 0) = false := by cases states <;> simp_all <;> omega
      have HST := Lib.hid hst
      clear hst
      by_cases hnm : names = []
      · subst hnm
        simp only [List.length_nil] at *
        go_enter Tryz.func93, Tryz.ntmps93
        go_wp2_with (first | (go_at_call 114; (with_reducible refine (hSE.out _ ?hB).mono ?_); (case hB => exact (HW.out.alloc (by omega) _).alloc (by simp; omega) _); rintro e w1 ⟨rfl, hb1⟩; have hs1 := hb1.size; simp at hs1; have HB1 := Lib.hid (((HW.out.alloc (by omega) _).alloc (by simp; omega) _).trans (hb1.mono (by simp; omega))); have HC1 := Lib.hid ((((Below.refl _ _).alloc (Nat.le_refl _) _).alloc (by simp) _).trans (hb1.mono (by simp; omega))); have ba1 := box_a hb1; have bb1 := box_b hb1; obtain ⟨x1_0, x1_1, x1_2, x1_3⟩ := row4c ba1; obtain ⟨y1_0, y1_1, y1_2, y1_3, y1_4, y1_5, y1_6⟩ := row7 bb1; have BA1 := Lib.hid ba1; have BB1 := Lib.hid bb1; clear ba1 bb1; clear hb1) | (go_at_call 115; (with_reducible refine (hAS.out _ ?hB).mono ?_); (case hB => exact HB1.out); rintro e w2 ⟨rfl, hb2⟩; have hs2 := hb2.size; have HB2 := Lib.hid ((HB1.out).trans (hb2.mono (by omega))); have HC2 := Lib.hid ((HC1.out).trans (hb2.mono (by omega))); clear hb2))
        all_goals go_ret
        all_goals refine ⟨ret_bool ?_, ?_⟩
        all_goals first | exact HC2.out | exact HC1.out | exact ((Below.refl _ _).alloc (Nat.le_refl _) _).alloc (by simp) _ | skip
        all_goals simp_all [rightItem]

      · have hd2 : ((names.length : Int) == 0) = false := by cases names <;> simp_all <;> omega
        have HNM := Lib.hid hnm
        clear hnm
        go_enter Tryz.func93, Tryz.ntmps93
        go_wp2_with (first | (go_at_call 114; (with_reducible refine (hSE.out _ ?hB).mono ?_); (case hB => exact (HW.out.alloc (by omega) _).alloc (by simp; omega) _); rintro e w1 ⟨rfl, hb1⟩; have hs1 := hb1.size; simp at hs1; have HB1 := Lib.hid (((HW.out.alloc (by omega) _).alloc (by simp; omega) _).trans (hb1.mono (by simp; omega))); have HC1 := Lib.hid ((((Below.refl _ _).alloc (Nat.le_refl _) _).alloc (by simp) _).trans (hb1.mono (by simp; omega))); clear hb1))
        all_goals go_ret
        all_goals refine ⟨ret_bool ?_, ?_⟩
        all_goals first | exact HC1.out | exact ((Below.refl _ _).alloc (Nat.le_refl _) _).alloc (by simp) _ | skip
        all_goals simp_all [rightItem]


set_option maxHeartbeats 2000000 in
theorem enum_any {made : Bool} {rv : Value} {w0 : World} {x : QEnum} {L : List Value} (hr : RulesAt w0 made rv) (hL : EnumAt w0 L x) : ∀ w, Below w0.heap.size w0 w → Calls Tryz.prog 63 #[rv, .agg L.toArray] w (BoolPost (rightEnum made x) w) := by
    intro w hw
    obtain ⟨nf, cf, rfl, ⟨gn, cn, rfl, egn, hfn⟩, ⟨gc, cc, rfl, egc, hfc⟩⟩ := hr
    have egn : ∀ (args : Array Value) (W : World), (callFunc gn args).run Tryz.prog W = .ok (.enter gn args) W := egn
    have egc : ∀ (args : Array Value) (W : World), (callFunc gc args).run Tryz.prog W = .ok (.enter gc args) W := egc
    obtain ⟨va, rfl, hnm, ha⟩ := hL
    have hA := Lib.hid (hfn _ hnm)
    have hE := Lib.hid (fun w hw => bool_as (allM_eq _ 1 8 1 8 rfl rfl) (all_string (lo := 1) (hi := 8) (f := conM made) ha egc (fun x _ hx w hw => hfc x hx w hw) w hw))
    obtain ⟨A1, n1, k1, rfl⟩ := SliceAt.shape ha
    clear ha hfn hfc
    have HW := Lib.hid hw
    have hsz := hw.size
    clear hw
    go_enter Tryz.func63, Tryz.ntmps63
    go_wp2_with (first | (go_at_fn gn; (refine (hA.out _ ?hB).mono ?_); (case hB => exact (HW.out.alloc (by omega) _).alloc (by simp; omega) _); rintro e w1 ⟨rfl, hb1⟩; have hs1 := hb1.size; simp at hs1; have HB1 := Lib.hid (((HW.out.alloc (by omega) _).alloc (by simp; omega) _).trans (hb1.mono (by simp; omega))); have HC1 := Lib.hid ((((Below.refl _ _).alloc (Nat.le_refl _) _).alloc (by simp) _).trans (hb1.mono (by simp; omega))); have ba1 := box_a hb1; have bb1 := box_b hb1; obtain ⟨x1_0, x1_1, x1_2, x1_3⟩ := row4c ba1; obtain ⟨y1_0, y1_1⟩ := row2 bb1; have BA1 := Lib.hid ba1; have BB1 := Lib.hid bb1; clear ba1 bb1; clear hb1) | (go_at_call 91; (with_reducible refine (hE.out _ ?hB).mono ?_); (case hB => exact HB1.out); rintro e w2 ⟨rfl, hb2⟩; have hs2 := hb2.size; have HB2 := Lib.hid ((HB1.out).trans (hb2.mono (by omega))); have HC2 := Lib.hid ((HC1.out).trans (hb2.mono (by omega))); clear hb2))
    all_goals go_ret
    all_goals refine ⟨ret_bool ?_, ?_⟩
    all_goals first | exact HC2.out | exact HC1.out | exact ((Below.refl _ _).alloc (Nat.le_refl _) _).alloc (by simp) _ | skip
    all_goals simp_all [rightEnum]

set_option maxHeartbeats 2000000 in
theorem nodeR_any {made : Bool} {rv : Value} {w0 : World} {x : QNode} {L : List Value} (hr : RulesAt w0 made rv) (hL : NodeAt w0 L x) : ∀ w, Below w0.heap.size w0 w → Calls Tryz.prog 65 #[rv, .agg L.toArray] w (BoolPost (rightNode made x) w) := by
    intro w hw
    have hr0 := hr
    obtain ⟨nf, cf, rfl, ⟨gn, cn, rfl, egn, hfn⟩, ⟨gc, cc, rfl, egc, hfc⟩⟩ := hr
    have egn : ∀ (args : Array Value) (W : World), (callFunc gn args).run Tryz.prog W = .ok (.enter gn args) W := egn
    have egc : ∀ (args : Array Value) (W : World), (callFunc gc args).run Tryz.prog W = .ok (.enter gc args) W := egc
    obtain ⟨va1, va2, va3, va4, rfl, hnm, ha1, ha2, ha3, ha4⟩ := hL
    have hA := Lib.hid (hfn _ hnm)
    have hE1 := Lib.hid (fun w hw => bool_as (allM_eq _ 0 6 0 6 rfl rfl) (all_string (lo := 0) (hi := 6) (f := nameM made) ha1 egn (fun x _ hx w hw => hfn x hx w hw) w hw))
    have hE2 := Lib.hid (fun w hw => bool_as (allM_eq _ 1 6 1 6 rfl rfl) (all_string (lo := 1) (hi := 6) (f := nameM made) ha2 egn (fun x _ hx w hw => hfn x hx w hw) w hw))
    have hE3 := Lib.hid (fun w hw => bool_as (allM_eq _ 1 6 1 6 rfl rfl) (all_string (lo := 1) (hi := 6) (f := nameM made) ha3 egn (fun x _ hx w hw => hfn x hx w hw) w hw))
    have hF := Lib.hid (fun w hw => bool_as (allM_eq _ (0) (itemsM made) (0) ((itemsM made : Nat)) rfl rfl) (all_Item (lo := 0) (hi := (itemsM made : Nat)) (f := rightItem made) (rv := .agg #[.func (.func gn) #[] cn, .func (.func gc) #[] cc, .int .i64 (enumsM made : Nat), .int .i64 (itemsM made : Nat)]) ha4 (fun x _ L hx => item_any hr0 hx) w hw))
    obtain ⟨A1, n1, k1, rfl⟩ := SliceAt.shape ha1
    obtain ⟨A2, n2, k2, rfl⟩ := SliceAt.shape ha2
    obtain ⟨A3, n3, k3, rfl⟩ := SliceAt.shape ha3
    obtain ⟨A4, n4, k4, rfl⟩ := SliceAt.shape ha4
    generalize ((itemsM made : Nat) : Int) = NI at *
    generalize ((enumsM made : Nat) : Int) = NE at *
    clear ha1 ha2 ha3 ha4 hr0 hfn hfc
    have HW := Lib.hid hw
    have hsz := hw.size
    clear hw
    go_enter Tryz.func65, Tryz.ntmps65
    go_wp2_with (first | (go_at_fn gn; (refine (hA.out _ ?hB).mono ?_); (case hB => exact (HW.out.alloc (by omega) _).alloc (by simp; omega) _); rintro e w1 ⟨rfl, hb1⟩; have hs1 := hb1.size; simp at hs1; have HB1 := Lib.hid (((HW.out.alloc (by omega) _).alloc (by simp; omega) _).trans (hb1.mono (by simp; omega))); have HC1 := Lib.hid ((((Below.refl _ _).alloc (Nat.le_refl _) _).alloc (by simp) _).trans (hb1.mono (by simp; omega))); have ba1 := box_a hb1; have bb1 := box_b hb1; obtain ⟨x1_0, x1_1, x1_2, x1_3⟩ := row4c ba1; obtain ⟨y1_0, y1_1, y1_2, y1_3, y1_4⟩ := row5 bb1; have BA1 := Lib.hid ba1; have BB1 := Lib.hid bb1; clear ba1 bb1; clear hb1) | (go_at_call 91; (with_reducible refine (hE1.out _ ?hB).mono ?_); (case hB => exact HB1.out); rintro e w2 ⟨rfl, hb2⟩; have hs2 := hb2.size; have HB2 := Lib.hid ((HB1.out).trans (hb2.mono (by omega))); have HC2 := Lib.hid ((HC1.out).trans (hb2.mono (by omega))); have ba2 := box_next hb2 BA1.out; have bb2 := box_next hb2 BB1.out; obtain ⟨x2_0, x2_1, x2_2, x2_3⟩ := row4c ba2; obtain ⟨y2_0, y2_1, y2_2, y2_3, y2_4⟩ := row5 bb2; have BA2 := Lib.hid ba2; have BB2 := Lib.hid bb2; clear ba2 bb2; clear hb2) | (go_at_call 91; (with_reducible refine (hE2.out _ ?hB).mono ?_); (case hB => exact HB2.out); rintro e w3 ⟨rfl, hb3⟩; have hs3 := hb3.size; have HB3 := Lib.hid ((HB2.out).trans (hb3.mono (by omega))); have HC3 := Lib.hid ((HC2.out).trans (hb3.mono (by omega))); have ba3 := box_next hb3 BA2.out; have bb3 := box_next hb3 BB2.out; obtain ⟨x3_0, x3_1, x3_2, x3_3⟩ := row4c ba3; obtain ⟨y3_0, y3_1, y3_2, y3_3, y3_4⟩ := row5 bb3; have BA3 := Lib.hid ba3; have BB3 := Lib.hid bb3; clear ba3 bb3; clear hb3) | (go_at_call 91; (with_reducible refine (hE3.out _ ?hB).mono ?_); (case hB => exact HB3.out); rintro e w4 ⟨rfl, hb4⟩; have hs4 := hb4.size; have HB4 := Lib.hid ((HB3.out).trans (hb4.mono (by omega))); have HC4 := Lib.hid ((HC3.out).trans (hb4.mono (by omega))); have ba4 := box_next hb4 BA3.out; have bb4 := box_next hb4 BB3.out; obtain ⟨x4_0, x4_1, x4_2, x4_3⟩ := row4c ba4; obtain ⟨y4_0, y4_1, y4_2, y4_3, y4_4⟩ := row5 bb4; have BA4 := Lib.hid ba4; have BB4 := Lib.hid bb4; clear ba4 bb4; clear hb4) | (go_at_call 92; (with_reducible refine (hF.out _ ?hB).mono ?_); (case hB => exact HB4.out); rintro e w5 ⟨rfl, hb5⟩; have hs5 := hb5.size; have HB5 := Lib.hid ((HB4.out).trans (hb5.mono (by omega))); have HC5 := Lib.hid ((HC4.out).trans (hb5.mono (by omega))); clear hb5))
    all_goals go_ret
    all_goals refine ⟨ret_bool ?_, ?_⟩
    all_goals first | exact HC5.out | exact HC4.out | exact HC3.out | exact HC2.out | exact HC1.out | exact ((Below.refl _ _).alloc (Nat.le_refl _) _).alloc (by simp) _ | skip
    all_goals simp_all [rightNode]

set_option maxHeartbeats 2000000 in
theorem program_any {made : Bool} {rv : Value} {w0 : World} {x : QProg} {L : List Value} (hr : RulesAt w0 made rv) (hL : ProgAt w0 L x) : ∀ w, Below w0.heap.size w0 w → Calls Tryz.prog 39 #[rv, .agg L.toArray] w (BoolPost (rightP made x) w) := by
    intro w hw
    have hr0 := hr
    obtain ⟨nf, cf, rfl, ⟨gn, cn, rfl, egn, hfn⟩, ⟨gc, cc, rfl, egc, hfc⟩⟩ := hr
    have egn : ∀ (args : Array Value) (W : World), (callFunc gn args).run Tryz.prog W = .ok (.enter gn args) W := egn
    have egc : ∀ (args : Array Value) (W : World), (callFunc gc args).run Tryz.prog W = .ok (.enter gc args) W := egc
    obtain ⟨va, vb, rfl, ha, hb⟩ := hL
    have hE := Lib.hid (fun w hw => bool_as (allM_eq _ (0) (enumsM made) (0) ((enumsM made : Nat)) rfl rfl) (all_Enum (lo := 0) (hi := (enumsM made : Nat)) (f := rightEnum made) (rv := .agg #[.func (.func gn) #[] cn, .func (.func gc) #[] cc, .int .i64 (enumsM made : Nat), .int .i64 (itemsM made : Nat)]) ha (fun x _ L hx => enum_any hr0 hx) w hw))
    have hF := Lib.hid (fun w hw => bool_as (allM_eq _ (1) (16) (1) (16) rfl rfl) (all_Node (lo := 1) (hi := 16) (f := rightNode made) (rv := .agg #[.func (.func gn) #[] cn, .func (.func gc) #[] cc, .int .i64 (enumsM made : Nat), .int .i64 (itemsM made : Nat)]) hb (fun x _ L hx => nodeR_any hr0 hx) w hw))
    obtain ⟨A1, n1, k1, rfl⟩ := SliceAt.shape ha
    obtain ⟨A2, n2, k2, rfl⟩ := SliceAt.shape hb
    generalize ((itemsM made : Nat) : Int) = NI at *
    generalize ((enumsM made : Nat) : Int) = NE at *
    clear ha hb hr0 hfn hfc
    have HW := Lib.hid hw
    have hsz := hw.size
    clear hw
    go_enter Tryz.func39, Tryz.ntmps39
    go_wp2_with (first | (go_at_call 62; (with_reducible refine (hE.out _ ?hB).mono ?_); (case hB => exact (HW.out.alloc (by omega) _).alloc (by simp; omega) _); rintro e w1 ⟨rfl, hb1⟩; have hs1 := hb1.size; simp at hs1; have HB1 := Lib.hid (((HW.out.alloc (by omega) _).alloc (by simp; omega) _).trans (hb1.mono (by simp; omega))); have HC1 := Lib.hid ((((Below.refl _ _).alloc (Nat.le_refl _) _).alloc (by simp) _).trans (hb1.mono (by simp; omega))); have ba1 := box_a hb1; have bb1 := box_b hb1; obtain ⟨x1_0, x1_1, x1_2, x1_3⟩ := row4c ba1; obtain ⟨y1_0, y1_1⟩ := row2 bb1; have BA1 := Lib.hid ba1; have BB1 := Lib.hid bb1; clear ba1 bb1; clear hb1) | (go_at_call 64; (with_reducible refine (hF.out _ ?hB).mono ?_); (case hB => exact HB1.out); rintro e w2 ⟨rfl, hb2⟩; have hs2 := hb2.size; have HB2 := Lib.hid ((HB1.out).trans (hb2.mono (by omega))); have HC2 := Lib.hid ((HC1.out).trans (hb2.mono (by omega))); clear hb2))
    all_goals go_ret
    all_goals refine ⟨ret_bool ?_, ?_⟩
    all_goals first | exact HC2.out | exact HC1.out | exact ((Below.refl _ _).alloc (Nat.le_refl _) _).alloc (by simp) _ | skip
    all_goals simp_all [rightP]
end Go.Proofs.YtbpbnebcbjacdaaGreat
