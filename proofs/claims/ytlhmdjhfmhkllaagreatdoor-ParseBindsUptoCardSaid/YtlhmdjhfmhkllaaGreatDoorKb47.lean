/-
  Texts joined.
-/
import Derived.Test.YtlhmdjhfmhkllaaGreatDoorKb03
import Derived.Test.YtlhmdjhfmhkllaaGreatDoorKb13
import Derived.Test.YtlhmdjhfmhkllaaGreatDoorKb46
namespace Go.Proofs.YtlhmdjhfmhkllaaGreatDoor
open Go.RowKit
theorem wholeP_any (s : Tx) (w : World) (hm : s.length ≤ maxLen) (he : Errs w) :
    Calls Tryz.prog 18 #[.string (str s), .func (.func 19) #[] #[]] w (WAns RProgV noneProgV (wholeR s progO) w) := by
  cases hs : scanL s with
  | inr f => unfold wholeR; rw [hs]; exact wholeP_scan hs w hm he
  | inl ts =>
    obtain ⟨f, hf⟩ := progO_some (ended_scan hs).1; have h := wholeP_toks hs hf w hm he; have e : wholeR s progO = outR (progO ts) := (by unfold wholeR outR; rw [hs]); rw [e]; exact h
theorem wholeE_any (s : Tx) (w : World) (hm : s.length ≤ maxLen) (he : Errs w) :
    Calls Tryz.prog 30 #[.string (str s), .func (.func 31) #[] #[]] w (WAns REx noneExV (wholeR s exprO) w) := by
  cases hs : scanL s with
  | inr f => unfold wholeR; rw [hs]; exact wholeE_scan hs w hm he
  | inl ts =>
    obtain ⟨f, hf⟩ := exprO_some (ended_scan hs).1; have h := wholeE_toks hs hf w hm he; have e : wholeR s exprO = outR (exprO ts) := (by unfold wholeR outR; rw [hs]); rw [e]; exact h
theorem whole_got {s : Tx} {p : QProg} (h : wholeR s progO = .inl p) : GProg p ∧ (progT p).length ≤ 196611 := by
  unfold wholeR at h; split at h
  · cases h
  · rename_i ts hs; split at h
    · cases h
    · rename_i x r ho; cases h; exact prog_got hs ho
/-- what Parse answers -/
noncomputable def parseR (s : Tx) : QProg ⊕ Flt := match wholeR s progO with
  | .inr f => .inr f
  | .inl p => if rightL false p = 0 then .inl p else .inr (rightL false p, 0, 0)
noncomputable def exprR (s : Tx) : Ex ⊕ Flt := wholeR s exprO
theorem resPP_info : (Tryz.prog.info? 26).map (·.size) = some 2 := by kernel_rfl
theorem resEE_info : (Tryz.prog.info? 37).map (·.size) = some 5 := by kernel_rfl
set_option maxRecDepth 100000 in
theorem parse_results {tmps : Array Value} {w : World} {N M : Nat} {x0 x1 y0 y1 y2 : Value} (hp : tmps.getD 2 undef = .pointer (some ⟨N, 0, none⟩)) (hq : tmps.getD 3 undef = .pointer (some ⟨M, 0, none⟩)) (hg : w.heap[N]? = some (.cells #[x0, x1] 26 (0, 0))) (hh : w.heap[M]? = some (.cells #[y0, y1, y2] 29 (0, 0))) :
    (results Tryz.f7 tmps).run Tryz.prog w = .ok (.tuple #[.agg #[x0, x1], .agg #[y0, y1, y2]]) w := by
  have hl := run_loadVar_row (P := Tryz.prog) w N 26 26 #[x0, x1] (0, 0) _ hg Tryz.underlying26 rfl resPP_info; have hl2 := run_loadVar_row (P := Tryz.prog) w M 29 29 #[y0, y1, y2] (0, 0) _ hh Tryz.underlying29 rfl faultres_info; have hp' : tmps[2]?.getD undef = .pointer (some ⟨N, 0, none⟩) := (by simpa using hp); have hq' : tmps[3]?.getD undef = .pointer (some ⟨M, 0, none⟩) := (by simpa using hq); simp [results, Tryz.results7, hp', hq', asAddr, hl, hl2]
set_option maxRecDepth 100000 in
theorem pexprc_results {tmps : Array Value} {w : World} {N M : Nat} {x0 x1 x2 x3 x4 y0 y1 y2 : Value} (hp : tmps.getD 2 undef = .pointer (some ⟨N, 0, none⟩)) (hq : tmps.getD 3 undef = .pointer (some ⟨M, 0, none⟩)) (hg : w.heap[N]? = some (.cells #[x0, x1, x2, x3, x4] 37 (0, 0))) (hh : w.heap[M]? = some (.cells #[y0, y1, y2] 29 (0, 0))) :
    (results Tryz.f10 tmps).run Tryz.prog w = .ok (.tuple #[.agg #[x0, x1, x2, x3, x4], .agg #[y0, y1, y2]]) w := by
  have hl := run_loadVar_row (P := Tryz.prog) w N 37 37 #[x0, x1, x2, x3, x4] (0, 0) _ hg Tryz.underlying37 rfl resEE_info; have hl2 := run_loadVar_row (P := Tryz.prog) w M 29 29 #[y0, y1, y2] (0, 0) _ hh Tryz.underlying29 rfl faultres_info; have hp' : tmps[2]?.getD undef = .pointer (some ⟨N, 0, none⟩) := (by simpa using hp); have hq' : tmps[3]?.getD undef = .pointer (some ⟨M, 0, none⟩) := (by simpa using hq); simp [results, Tryz.results10, hp', hq', asAddr, hl, hl2]
theorem rex_sub (w w' : World) (v : Value) (x : Ex) (hs : Sub w w') (h : REx w v x) : REx w' v x := by
  obtain ⟨L, e, hL⟩ := h; exact ⟨L, e, hL.sub hs⟩
/-- an answer stays one where nothing of what came with it turned -/
theorem ans_lift {X : Type} {R : World → Value → X → Prop} (hsub : ∀ w w' v x, Sub w w' → R w v x → R w' v x) {z : Value} {r : X ⊕ Flt} {w V0 V w' : World} {e : Ending} (h : WAns R z r V0 e V) (hle : w.heap.size ≤ V0.heap.size) (hb : Below w.heap.size w w') (hs : Same V0.heap.size V w') : WAns R z r w e w' := by
  refine ⟨hb, ?_⟩; cases r with
  | inl x =>
    obtain ⟨_, v, e, h⟩ := h; exact ⟨v, e, hsub _ _ _ _ (new_mono hle _) (hsub _ _ _ _ hs.sub h)⟩
  | inr f => exact h.2
/-- an expression's value, or the value of none: five cells -/
theorem ansE_shape {r : Ex ⊕ Flt} {w w' : World} {e : Ending} (h : WAns REx noneExV r w e w') : ∃ o1 s1 m1 A1 n1 k1 A2 n2 k2 a b c, e = .returned (.tuple #[.agg #[.int .i64 o1, .string s1, .int .i64 m1, .slice A1 n1 k1, .slice A2 n2 k2], .agg #[.int .i64 a, .int .i64 b, .int .i64 c]]) := by
  obtain ⟨_, h⟩ := h; cases r with
  | inl x =>
    obtain ⟨v, e, L, rfl, hL⟩ := h; obtain ⟨_, _, _, _, _, _, _, _, _, rfl⟩ := hL.shape; exact ⟨_, _, _, _, _, _, _, _, _, _, _, _, e⟩
  | inr f => exact ⟨_, _, _, _, _, _, _, _, _, _, _, _, h⟩
set_option maxHeartbeats 1000000 in
set_option maxRecDepth 100000 in
/-- Expr hands on what whole answers -/
theorem expr_call (s : Tx) (w : World) (hm : s.length ≤ maxLen) (he : Errs w) : Calls Tryz.prog 10 #[.string (str s)] w (WAns REx noneExV (exprR s) w) := by
  have HER := Lib.hid he; have HM := Lib.hid hm; clear he hm; obtain ⟨bx4, bx5⟩ := two_alloc (w := w) (A := .cells #[.int .i64 0, .string ⟨#[]⟩, .int .i64 0, .slice none 0 0, .slice none 0 0] 37) (C := .cells #[.int .i64 0, .int .i64 0, .int .i64 0] 29); have B4 := Lib.hid bx4; have B5 := Lib.hid bx5; have HA := Lib.hid (((Below.refl w.heap.size w).alloc (Nat.le_refl _) (.cells #[.int .i64 0, .string ⟨#[]⟩, .int .i64 0, .slice none 0 0, .slice none 0 0] 37)).alloc (by simp) (.cells #[.int .i64 0, .int .i64 0, .int .i64 0] 29)); clear bx4 bx5; go_enter Tryz.func10, Tryz.ntmps10
  go_wp2_with (first
    | (go_at_call 30; (with_reducible refine (wholeE_any s _ HM.out (HER.out.under HA.out)).mono ?_); intro e w7 h7; obtain ⟨o1, s1, m1, A1, n1, k1, A2, n2, k2, a, b, c, rfl⟩ := ansE_shape h7; obtain ⟨V, rfl⟩ : ∃ W, W = w7 := ⟨_, rfl⟩; have H7 := Lib.hid h7; have C4 := Lib.hid (box_next h7.1 B4.out); have C5 := Lib.hid (box_next h7.1 B5.out); have HB := Lib.hid (HA.out.trans (h7.1.mono HA.out.size)); obtain ⟨p0, p1, p2, p3, p4⟩ := row5 C4.out; have g0 := row_frozen C4.out 0; have g1 := row_frozen C4.out 1; have g2 := row_frozen C4.out 2; have g3 := row_frozen C4.out 3; have g4 := row_frozen C4.out 4; obtain ⟨q0, q1, q2⟩ := row3 C5.out; have fz0 := row_frozen C5.out 0; have fz1 := row_frozen C5.out 1; have fz2 := row_frozen C5.out 2; clear h7))
  have N5 := set_row3 (.int .i64 a) (.int .i64 b) (.int .i64 c) (set5_other C5.out (K := w.heap.size) (by omega) (.int .i64 o1) (.string s1) (.int .i64 m1) (.slice A1 n1 k1) (.slice A2 n2 k2)); have N4 := set3_other (set_row5 (.int .i64 o1) (.string s1) (.int .i64 m1) (.slice A1 n1 k1) (.slice A2 n2 k2) C4.out) (K := w.heap.size + 1) (by omega) (.int .i64 a) (.int .i64 b) (.int .i64 c); have HB6 := below_set3 (below_set5 HB.out (Nat.le_refl _) (.int .i64 o1) (.string s1) (.int .i64 m1) (.slice A1 n1 k1) (.slice A2 n2 k2)) (Nat.le_succ _) (.int .i64 a) (.int .i64 b) (.int .i64 c); refine bodyPost_ret (v := .tuple #[.agg #[.int .i64 o1, .string s1, .int .i64 m1, .slice A1 n1 k1, .slice A2 n2 k2], .agg #[.int .i64 a, .int .i64 b, .int .i64 c]]) (pexprc_results rfl rfl N4 N5) rfl ?_; refine ans_lift rex_sub H7.out HA.out.size HB6 ?_; exact ((Same.refl _ V).set5 (K := w.heap.size) (.inl (by simp; omega)) _ _ _ _ _).set3 (K := w.heap.size + 1) (.inl (by simp)) _ _ _
theorem parseR_bad {s : Tx} {f : Flt} (h : wholeR s progO = .inr f) : parseR s = .inr f := by unfold parseR; rw [h]
theorem parseR_no {s : Tx} {p : QProg} (h : wholeR s progO = .inl p) (hr : rightL false p ≠ 0) : parseR s = .inr (rightL false p, 0, 0) := by unfold parseR; rw [h]; exact if_neg hr
theorem parseR_ok {s : Tx} {p : QProg} (h : wholeR s progO = .inl p) (hr : rightL false p = 0) : parseR s = .inl p := by unfold parseR; rw [h]; exact if_pos hr
theorem wholeP_flt {s : Tx} {f : Flt} (h : wholeR s progO = .inr f) : f.1 ≠ 0 := by
  unfold wholeR at h; split at h
  · rename_i hs; cases h; exact scanL_err hs
  · rename_i ts hs; split at h
    · rename_i ho; cases h; exact progO_err (ended_scan hs).1 ho
    · cases h
set_option maxHeartbeats 1000000 in
set_option maxRecDepth 100000 in
theorem parse_bad {s : Tx} {f : Flt} (hw : wholeR s progO = .inr f) (w : World) (hm : s.length ≤ maxLen) (he : Errs w) : Calls Tryz.prog 7 #[.string (str s)] w (WAns RProgV noneProgV (.inr f) w) := by
  have HER := Lib.hid he; have HM := Lib.hid hm; have HW := Lib.hid hw; have h0 := wholeP_flt hw; have h1 : (f.1 != 0) = true := (by simp [h0]); obtain ⟨a, b, c⟩ := f; clear he hm hw; obtain ⟨bx4, bx5⟩ := two_alloc (w := w) (A := .cells #[.slice none 0 0, .slice none 0 0] 26) (C := .cells #[.int .i64 0, .int .i64 0, .int .i64 0] 29); have B4 := Lib.hid bx4; have B5 := Lib.hid bx5; have HA := Lib.hid (((Below.refl w.heap.size w).alloc (Nat.le_refl _) (.cells #[.slice none 0 0, .slice none 0 0] 26)).alloc (by simp) (.cells #[.int .i64 0, .int .i64 0, .int .i64 0] 29)); clear bx4 bx5; go_enter Tryz.func7, Tryz.ntmps7
  go_wp2_with (first
    | (go_at_call 18; (with_reducible refine (wholeP_any s _ HM.out (HER.out.under HA.out)).mono ?_); intro e w7 h7; have h8 : e = .returned (.tuple #[.agg #[.slice none 0 0, .slice none 0 0], .agg #[.int .i64 a, .int .i64 b, .int .i64 c]]) := by
         have := h7.2; rw [HW.out] at this; exact this
       subst h8; obtain ⟨V, rfl⟩ : ∃ W, W = w7 := ⟨_, rfl⟩; obtain ⟨cx4, cx5⟩ := two_alloc (w := V) (A := .cells #[.slice none 0 0, .slice none 0 0] 26) (C := .cells #[.int .i64 a, .int .i64 b, .int .i64 c] 29); have D4 := Lib.hid cx4; have D5 := Lib.hid cx5; have C4 := Lib.hid (alloc_below (o := .cells #[.int .i64 a, .int .i64 b, .int .i64 c] 29) (alloc_below (o := .cells #[.slice none 0 0, .slice none 0 0] 26) (box_next h7.1 B4.out))); have C5 := Lib.hid (alloc_below (o := .cells #[.int .i64 a, .int .i64 b, .int .i64 c] 29) (alloc_below (o := .cells #[.slice none 0 0, .slice none 0 0] 26) (box_next h7.1 B5.out))); have HB := Lib.hid (((HA.out.trans (h7.1.mono HA.out.size)).alloc (HA.out.trans (h7.1.mono HA.out.size)).size (.cells #[.slice none 0 0, .slice none 0 0] 26)).alloc (Nat.le_trans (HA.out.trans (h7.1.mono HA.out.size)).size (by simp)) (.cells #[.int .i64 a, .int .i64 b, .int .i64 c] 29)); obtain ⟨r0, r1, r2⟩ := row3 D5.out; have hsV : w.heap.size + 2 ≤ V.heap.size := (by have := h7.1.size; simpa using this); clear h7 cx4 cx5))
  obtain ⟨W, hW⟩ : ∃ W, W = ((V.alloc (.cells #[.slice none 0 0, .slice none 0 0] 26)).alloc (.cells #[.int .i64 a, .int .i64 b, .int .i64 c] 29)) := ⟨_, rfl⟩; rw [← hW] at C4 C5 D4 D5 HB ⊢; clear hW r0 r1 r2; obtain ⟨p0, p1⟩ := row2 C4.out; have g0 := row_frozen C4.out 0; have g1 := row_frozen C4.out 1; obtain ⟨q0, q1, q2⟩ := row3 C5.out; have fz0 := row_frozen C5.out 0; have fz1 := row_frozen C5.out 1; have fz2 := row_frozen C5.out 2; obtain ⟨r0, r1, r2⟩ := row3 D5.out; have hn1 : ¬ w.heap.size = V.heap.size + 1 := (by omega); have hn2 : ¬ w.heap.size = V.heap.size := (by omega); have hn3 : ¬ V.heap.size + 1 = w.heap.size := (by omega); have hn4 : ¬ V.heap.size = w.heap.size := (by omega); go_region; go_wp2; exact bodyPost_ret (v := .tuple #[.agg #[.slice none 0 0, .slice none 0 0], .agg #[.int .i64 a, .int .i64 b, .int .i64 c]]) (parse_results rfl rfl (drew_row (set3_other (setr2 (.slice none 0 0) (.slice none 0 0) C4.out) (by omega) (.int .i64 a) (.int .i64 b) (.int .i64 c))) (drew_row (set_row3 (.int .i64 a) (.int .i64 b) (.int .i64 c) (set2_other C5.out (by omega) (.slice none 0 0) (.slice none 0 0))))) rfl ⟨(below_set3 (below_set2 HB.out (Nat.le_refl _) (.slice none 0 0) (.slice none 0 0)) (Nat.le_succ _) _ _ _).drew, rfl⟩
set_option maxHeartbeats 1000000 in
set_option maxRecDepth 100000 in
theorem parse_no {s : Tx} {p : QProg} (hw : wholeR s progO = .inl p) (hr : rightL false p ≠ 0) (w : World) (hm : s.length ≤ maxLen) (he : Errs w) : Calls Tryz.prog 7 #[.string (str s)] w (WAns RProgV noneProgV (.inr (rightL false p, 0, 0)) w) := by
  have HER := Lib.hid he; have HM := Lib.hid hm; have HW := Lib.hid hw; have HQ := Lib.hid (fun x (hx : x ∈ p.nodes) => (show (nodeX x).length ≤ 1048576 by have := gprog_few hx; have := (whole_got hw).2; omega)); obtain ⟨rr, hrr⟩ : ∃ r, r = rightL false p := ⟨_, rfl⟩; have hr1 : (rr != 0) = true := (by rw [hrr]; simp [hr]); have HRR := Lib.hid hrr; have HRO := Lib.hid hrr; clear he hm hw hr hrr; obtain ⟨bx4, bx5⟩ := two_alloc (w := w) (A := .cells #[.slice none 0 0, .slice none 0 0] 26) (C := .cells #[.int .i64 0, .int .i64 0, .int .i64 0] 29); have B4 := Lib.hid bx4; have B5 := Lib.hid bx5; have HA := Lib.hid (((Below.refl w.heap.size w).alloc (Nat.le_refl _) (.cells #[.slice none 0 0, .slice none 0 0] 26)).alloc (by simp) (.cells #[.int .i64 0, .int .i64 0, .int .i64 0] 29)); clear bx4 bx5; go_enter Tryz.func7, Tryz.ntmps7
  go_wp2_with (first
    | (go_at_call 18; (with_reducible refine (wholeP_any s _ HM.out (HER.out.under HA.out)).mono ?_); intro e w7 h7; have h8 : ∃ v, e = .returned (.tuple #[v, .agg #[.int .i64 0, .int .i64 0, .int .i64 0]]) ∧ RProgV (newW ((w.alloc (.cells #[.slice none 0 0, .slice none 0 0] 26)).alloc (.cells #[.int .i64 0, .int .i64 0, .int .i64 0] 29)).heap.size w7) v p := by
         have := h7.2; rw [HW.out] at this; exact this
       obtain ⟨v, rfl, L, rfl, hL⟩ := h8; obtain ⟨A1, n1, k1, A2, n2, k2, rfl⟩ := hL.shape; obtain ⟨V, rfl⟩ : ∃ W, W = w7 := ⟨_, rfl⟩; have HL := Lib.hid hL; obtain ⟨cx4, cx5⟩ := two_alloc (w := V) (A := .cells #[.slice A1 n1 k1, .slice A2 n2 k2] 26) (C := .cells #[.int .i64 0, .int .i64 0, .int .i64 0] 29); have D4 := Lib.hid cx4; have D5 := Lib.hid cx5; have C4 := Lib.hid (alloc_below (o := .cells #[.int .i64 0, .int .i64 0, .int .i64 0] 29) (alloc_below (o := .cells #[.slice A1 n1 k1, .slice A2 n2 k2] 26) (box_next h7.1 B4.out))); have C5 := Lib.hid (alloc_below (o := .cells #[.int .i64 0, .int .i64 0, .int .i64 0] 29) (alloc_below (o := .cells #[.slice A1 n1 k1, .slice A2 n2 k2] 26) (box_next h7.1 B5.out))); have HB := Lib.hid (((HA.out.trans (h7.1.mono HA.out.size)).alloc (HA.out.trans (h7.1.mono HA.out.size)).size (.cells #[.slice A1 n1 k1, .slice A2 n2 k2] 26)).alloc (Nat.le_trans (HA.out.trans (h7.1.mono HA.out.size)).size (by simp)) (.cells #[.int .i64 0, .int .i64 0, .int .i64 0] 29)); have HV := Lib.hid (((Below.refl V.heap.size V).alloc (Nat.le_refl _) (.cells #[.slice A1 n1 k1, .slice A2 n2 k2] 26)).alloc (by simp) (.cells #[.int .i64 0, .int .i64 0, .int .i64 0] 29)); obtain ⟨r0, r1, r2⟩ := row3 D5.out; obtain ⟨s0, s1⟩ := row2 D4.out; clear h7 cx4 cx5 hL)
    | (go_at_call 20; (with_reducible refine (right_any false (HL.out.sub (new_sub _ _)) HQ.out _ HV.out).mono ?_); rintro e w7 ⟨rfl, hb7⟩; obtain ⟨V2, rfl⟩ : ∃ W, W = w7 := ⟨_, rfl⟩; rw [← HRO.out]; have HS := Lib.hid (Same.trans (Same.below (B := ((w.alloc (.cells #[.slice none 0 0, .slice none 0 0] 26)).alloc (.cells #[.int .i64 0, .int .i64 0, .int .i64 0] 29)).heap.size) HV.out) (Same.below hb7)); replace HB := Lib.hid (HB.out.trans (hb7.mono HB.out.size)); replace C4 := Lib.hid (box_next hb7 C4.out); replace C5 := Lib.hid (box_next hb7 C5.out); replace D4 := Lib.hid (box_next hb7 D4.out); obtain ⟨p0, p1⟩ := row2 C4.out; have g0 := row_frozen C4.out 0; have g1 := row_frozen C4.out 1; obtain ⟨q0, q1, q2⟩ := row3 C5.out; have fz0 := row_frozen C5.out 0; have fz1 := row_frozen C5.out 1; have fz2 := row_frozen C5.out 2; obtain ⟨t0, t1⟩ := row2 D4.out; clear hb7))
  have N5 := set_row3 (.int .i64 rr) (.int .i64 0) (.int .i64 0) (set2_other C5.out (K := w.heap.size) (by omega) (.slice none 0 0) (.slice none 0 0)); have N4 := set3_other (setr2 (.slice none 0 0) (.slice none 0 0) C4.out) (K := w.heap.size + 1) (by omega) (.int .i64 rr) (.int .i64 0) (.int .i64 0); exact bodyPost_ret (v := .tuple #[.agg #[.slice none 0 0, .slice none 0 0], .agg #[.int .i64 rr, .int .i64 0, .int .i64 0]]) (parse_results rfl rfl N4 N5) rfl ⟨below_set3 (below_set2 HB.out (Nat.le_refl _) _ _) (Nat.le_succ _) _ _ _, by rw [HRR.out]; rfl⟩
set_option maxHeartbeats 1000000 in
set_option maxRecDepth 100000 in
theorem parse_ok {s : Tx} {p : QProg} (hw : wholeR s progO = .inl p) (hr : rightL false p = 0) (w : World) (hm : s.length ≤ maxLen) (he : Errs w) : Calls Tryz.prog 7 #[.string (str s)] w (WAns RProgV noneProgV (.inl p) w) := by
  have HER := Lib.hid he; have HM := Lib.hid hm; have HW := Lib.hid hw; have HQ := Lib.hid (fun x (hx : x ∈ p.nodes) => (show (nodeX x).length ≤ 1048576 by have := gprog_few hx; have := (whole_got hw).2; omega)); obtain ⟨rr, hrr⟩ : ∃ r, r = rightL false p := ⟨_, rfl⟩; have hr1 : (rr != 0) = false := (by rw [hrr]; simp [hr]); have HRR := Lib.hid (hrr.trans hr); have HRO := Lib.hid hrr; clear he hm hw hr hrr; obtain ⟨bx4, bx5⟩ := two_alloc (w := w) (A := .cells #[.slice none 0 0, .slice none 0 0] 26) (C := .cells #[.int .i64 0, .int .i64 0, .int .i64 0] 29); have B4 := Lib.hid bx4; have B5 := Lib.hid bx5; have HA := Lib.hid (((Below.refl w.heap.size w).alloc (Nat.le_refl _) (.cells #[.slice none 0 0, .slice none 0 0] 26)).alloc (by simp) (.cells #[.int .i64 0, .int .i64 0, .int .i64 0] 29)); clear bx4 bx5; go_enter Tryz.func7, Tryz.ntmps7
  go_wp2_with (first
    | (go_at_call 18; (with_reducible refine (wholeP_any s _ HM.out (HER.out.under HA.out)).mono ?_); intro e w7 h7; have h8 : ∃ v, e = .returned (.tuple #[v, .agg #[.int .i64 0, .int .i64 0, .int .i64 0]]) ∧ RProgV (newW ((w.alloc (.cells #[.slice none 0 0, .slice none 0 0] 26)).alloc (.cells #[.int .i64 0, .int .i64 0, .int .i64 0] 29)).heap.size w7) v p := by
         have := h7.2; rw [HW.out] at this; exact this
       obtain ⟨v, rfl, L, rfl, hL⟩ := h8; obtain ⟨A1, n1, k1, A2, n2, k2, rfl⟩ := hL.shape; obtain ⟨V, rfl⟩ : ∃ W, W = w7 := ⟨_, rfl⟩; have HL := Lib.hid hL; obtain ⟨cx4, cx5⟩ := two_alloc (w := V) (A := .cells #[.slice A1 n1 k1, .slice A2 n2 k2] 26) (C := .cells #[.int .i64 0, .int .i64 0, .int .i64 0] 29); have D4 := Lib.hid cx4; have D5 := Lib.hid cx5; have C4 := Lib.hid (alloc_below (o := .cells #[.int .i64 0, .int .i64 0, .int .i64 0] 29) (alloc_below (o := .cells #[.slice A1 n1 k1, .slice A2 n2 k2] 26) (box_next h7.1 B4.out))); have C5 := Lib.hid (alloc_below (o := .cells #[.int .i64 0, .int .i64 0, .int .i64 0] 29) (alloc_below (o := .cells #[.slice A1 n1 k1, .slice A2 n2 k2] 26) (box_next h7.1 B5.out))); have HB := Lib.hid (((HA.out.trans (h7.1.mono HA.out.size)).alloc (HA.out.trans (h7.1.mono HA.out.size)).size (.cells #[.slice A1 n1 k1, .slice A2 n2 k2] 26)).alloc (Nat.le_trans (HA.out.trans (h7.1.mono HA.out.size)).size (by simp)) (.cells #[.int .i64 0, .int .i64 0, .int .i64 0] 29)); have HV := Lib.hid (((Below.refl V.heap.size V).alloc (Nat.le_refl _) (.cells #[.slice A1 n1 k1, .slice A2 n2 k2] 26)).alloc (by simp) (.cells #[.int .i64 0, .int .i64 0, .int .i64 0] 29)); obtain ⟨r0, r1, r2⟩ := row3 D5.out; obtain ⟨s0, s1⟩ := row2 D4.out; clear h7 cx4 cx5 hL)
    | (go_at_call 20; (with_reducible refine (right_any false (HL.out.sub (new_sub _ _)) HQ.out _ HV.out).mono ?_); rintro e w7 ⟨rfl, hb7⟩; obtain ⟨V2, rfl⟩ : ∃ W, W = w7 := ⟨_, rfl⟩; rw [← HRO.out]; have HS := Lib.hid (Same.trans (Same.below (B := ((w.alloc (.cells #[.slice none 0 0, .slice none 0 0] 26)).alloc (.cells #[.int .i64 0, .int .i64 0, .int .i64 0] 29)).heap.size) HV.out) (Same.below hb7)); replace HB := Lib.hid (HB.out.trans (hb7.mono HB.out.size)); replace C4 := Lib.hid (box_next hb7 C4.out); replace C5 := Lib.hid (box_next hb7 C5.out); replace D4 := Lib.hid (box_next hb7 D4.out); obtain ⟨p0, p1⟩ := row2 C4.out; have g0 := row_frozen C4.out 0; have g1 := row_frozen C4.out 1; obtain ⟨q0, q1, q2⟩ := row3 C5.out; have fz0 := row_frozen C5.out 0; have fz1 := row_frozen C5.out 1; have fz2 := row_frozen C5.out 2; obtain ⟨t0, t1⟩ := row2 D4.out; clear hb7))
  have N5 := set_row3 (.int .i64 0) (.int .i64 0) (.int .i64 0) (set2_other C5.out (K := w.heap.size) (by omega) (.slice A1 n1 k1) (.slice A2 n2 k2)); have N4 := set3_other (setr2 (.slice A1 n1 k1) (.slice A2 n2 k2) C4.out) (K := w.heap.size + 1) (by omega) (.int .i64 0) (.int .i64 0) (.int .i64 0); have HS2 := (HS.out.set2 (K := w.heap.size) (.inl (by simp; omega)) (.slice A1 n1 k1) (.slice A2 n2 k2)).set3 (K := w.heap.size + 1) (.inl (by simp)) (.int .i64 0) (.int .i64 0) (.int .i64 0); exact bodyPost_ret (v := .tuple #[.agg #[.slice A1 n1 k1, .slice A2 n2 k2], .agg #[.int .i64 0, .int .i64 0, .int .i64 0]]) (parse_results rfl rfl N4 N5) rfl ⟨below_set3 (below_set2 HB.out (Nat.le_refl _) _ _) (Nat.le_succ _) _ _ _, _, rfl, _, rfl, (HL.out.sub HS2.sub).sub (new_mono HA.out.size _)⟩
/-- what Parse answers of any text -/
theorem parse_call (s : Tx) (w : World) (hm : s.length ≤ maxLen) (he : Errs w) : Calls Tryz.prog 7 #[.string (str s)] w (WAns RProgV noneProgV (parseR s) w) := by
  cases hw : wholeR s progO with
  | inr f => rw [parseR_bad hw]; exact parse_bad hw w hm he
  | inl p =>
    by_cases hr : rightL false p = 0
    · rw [parseR_ok hw hr]; exact parse_ok hw hr w hm he
    · rw [parseR_no hw hr]; exact parse_no hw hr w hm he
end Go.Proofs.YtlhmdjhfmhkllaaGreatDoor
