/-
  Texts joined.
-/
import Derived.Laws.StructEq
import Derived.Test.YtlhmdjhfmhkllaaGreatDoorKb47
namespace Go.Proofs.YtlhmdjhfmhkllaaGreatDoor
open Go.RowKit
theorem eq_flt (a b c : Int) (w : World) : (binOp .eql 29 (.agg #[.int .i64 a, .int .i64 b, .int .i64 c]) (.agg #[.int .i64 a, .int .i64 b, .int .i64 c])).run Tryz.prog w = .ok (.bool true) w := by
  rw [run_eql_struct, run_equalIn_agg w _ _ _ _ (by kernel_rfl) (by kernel_rfl)]; simp [Program.fieldsOf, Tryz.underlying29, Op.eqFields, part, go_sem, Tryz.underlying3, Tryz.underlying27]
/-- what comes of a run by some fuel -/
theorem exprR_run {s : Tx} {x : Ex} (f : Nat) (h : (match scanL s with | .inl ts => (match exprF f ts with | some (.ok y _) => some y | _ => none) | .inr _ => none) = some x) : exprR s = .inl x := by
  unfold exprR wholeR; cases hs : scanL s with
  | inr g => rw [hs] at h; cases h
  | inl ts =>
    rw [hs] at h; replace h : (match exprF f ts with | some (.ok y _) => some y | _ => none) = some x := h; cases ho : exprF f ts with
    | none => rw [ho] at h; cases h
    | some o =>
      rw [ho] at h; cases o with
      | bad g => cases h
      | ok y r => cases h; simp only [exprO_eq ho]
theorem wholeR_run {s : Tx} {x : QProg} (f : Nat) (h : (match scanL s with | .inl ts => (match progF f ts with | some (.ok y _) => some y | _ => none) | .inr _ => none) = some x) : wholeR s progO = .inl x := by
  unfold wholeR; cases hs : scanL s with
  | inr g => rw [hs] at h; cases h
  | inl ts =>
    rw [hs] at h; replace h : (match progF f ts with | some (.ok y _) => some y | _ => none) = some x := h; cases ho : progF f ts with
    | none => rw [ho] at h; cases h
    | some o =>
      rw [ho] at h; cases o with
      | bad g => cases h
      | ok y r => cases h; simp only [progO_eq ho]
def livA : Tx := [97, 32, 45, 62, 32, 98, 32, 102, 98, 121, 32, 99, 32, 43, 32, 49]
def livX : Ex := .mk 10 [] 0 [] [.mk 4 [97] 0 [] [], .mk 8 [] 0 [] [.mk 4 [98] 0 [] [], .mk 6 [43] 0 [] [.mk 4 [99] 0 [] [], .mk 1 [] 1 [] []]]]
def livB : Tx := [110, 111, 100, 101, 32, 102, 40, 120, 41, 32, 61, 32, 40, 121, 41, 32, 119, 104, 101, 114, 101, 32, 121, 32, 61, 32, 120, 59, 32, 101, 110, 100]
def livP : QProg := ⟨[], [⟨[102], [], [[120]], [[121]], [⟨⟨[[121]], .mk 4 [120] 0 [] []⟩, []⟩]⟩]⟩
theorem livA_expr : exprR livA = .inl livX := exprR_run 40 (by kernel_rfl)
theorem livB_prog : parseR livB = .inl livP := parseR_ok (wholeR_run 40 (by kernel_rfl)) (by kernel_rfl)
theorem livX_show : str (spellL (toksX livX)) = ⟨#[40, 32, 97, 32, 45, 62, 32, 40, 32, 98, 32, 102, 98, 121, 32, 40, 32, 99, 32, 43, 32, 49, 32, 41, 32, 41, 32, 41]⟩ := by kernel_rfl
theorem livX_size : SizeOk (toksX livX) := show (putL false (toksX livX)).length ≤ 140737488355328 from of_decide_eq_true (by kernel_rfl)
/-- the look's program in memory: a node, an item -/
theorem livP_at {w : World} {L : List Value} (h : ProgAt w L livP) : ∃ A1 n1 k1 a k2 A k, L = [.slice A1 n1 k1, .slice (some a) 1 k2] ∧ w.cell? (a.add (0 * 5)) = w.cell? (a.add (0 * 5)) ∧ w.cell? { block := (a.add (0 * 5)).block, off := (a.add (0 * 5)).off + 4 } = some (.slice A 1 k) ∧ w.cell? { block := a.block, off := a.off + 4 } = some (.slice A 1 k) := by
  obtain ⟨ev, nv, rfl, h1, h2⟩ := h; obtain ⟨A1, n1, k1, rfl⟩ := SliceAt.shape h1; obtain ⟨A2, k2, rfl, _, _, h3⟩ := h2; obtain ⟨L, hE, hN⟩ := h3 0 _ rfl; obtain ⟨fv, iv, ov, xv, rfl, _, _, _, _, A4, k4, rfl, _⟩ := hN; obtain ⟨a, rfl, _, _, _, _, _, _, d4⟩ := elem5 hE; refine ⟨A1, n1, k1, a, k2, A4, k4, rfl, rfl, d4, ?_⟩; simpa [Addr.add] using d4
def OkE (x : Ex) (w : World) (e : Ending) (w' : World) : Prop := Below w.heap.size w w' ∧ ∃ v, e = .returned (.tuple #[v, .agg #[.int .i64 0, .int .i64 0, .int .i64 0]]) ∧ REx (newW w.heap.size w') v x
def OkP (p : QProg) (w : World) (e : Ending) (w' : World) : Prop := Below w.heap.size w w' ∧ ∃ v, e = .returned (.tuple #[v, .agg #[.int .i64 0, .int .i64 0, .int .i64 0]]) ∧ RProgV (newW w.heap.size w') v p
theorem expr_okc {s : Tx} {x : Ex} (hx : exprR s = .inl x) (w : World) (hm : s.length ≤ maxLen) (he : Errs w) : Calls Tryz.prog 10 #[.string (str s)] w (OkE x w) := by
  have h := expr_call s w hm he; rw [hx] at h; exact h
theorem parse_okc {s : Tx} {p : QProg} (hp : parseR s = .inl p) (w : World) (hm : s.length ≤ maxLen) (he : Errs w) : Calls Tryz.prog 7 #[.string (str s)] w (OkP p w) := by
  have h := parse_call s w hm he; rw [hp] at h; exact h
theorem call_livA (w : World) (he : Errs w) : Calls Tryz.prog 10 #[.string ⟨#[97, 32, 45, 62, 32, 98, 32, 102, 98, 121, 32, 99, 32, 43, 32, 49]⟩] w (OkE livX w) := expr_okc livA_expr w (len_small (by decide)) he
theorem call_livB (w : World) (he : Errs w) : Calls Tryz.prog 7 #[.string ⟨#[110, 111, 100, 101, 32, 102, 40, 120, 41, 32, 61, 32, 40, 121, 41, 32, 119, 104, 101, 114, 101, 32, 121, 32, 61, 32, 120, 59, 32, 101, 110, 100]⟩] w (OkP livP w) := parse_okc livB_prog w (len_small (by decide)) he
def Lived (w : World) (e : Ending) (w' : World) : Prop := e = .returned (.bool true) ∧ Below w.heap.size w w'
set_option maxHeartbeats 2000000 in
set_option maxRecDepth 100000 in
theorem liv_any (w : World) (htab : Tab w) (herr : Errs w) : Calls Tryz.prog 6 #[] w (Lived w) := by
  have HTB := Lib.hid htab; have HER := Lib.hid herr; have heq0 := eq_flt 0 0 0; clear htab herr; go_enter Tryz.func6, Tryz.ntmps6
  go_wp2_with (first
    | (go_at_call 10; (with_reducible refine (call_livA _ HER.out).mono ?_); intro e w1 h1; obtain ⟨v, h8, L, h9, hL⟩ := h1.2; subst h8; subst h9; obtain ⟨o1, s1, m1, A1, n1, k1, A2, n2, k2, rfl⟩ := hL.shape; obtain ⟨V1, rfl⟩ : ∃ W, W = w1 := ⟨_, rfl⟩; have HE := Lib.hid (hL.sub (new_sub _ _)); obtain ⟨b1, b2⟩ := two_alloc (w := V1) (A := .cells #[.int .i64 o1, .string s1, .int .i64 m1, .slice A1 n1 k1, .slice A2 n2 k2] 37) (C := .cells #[.int .i64 0, .int .i64 0, .int .i64 0] 29); have B1 := Lib.hid b1; have B2 := Lib.hid b2; have HV1 := Lib.hid (((Below.refl V1.heap.size V1).alloc (Nat.le_refl _) (.cells #[.int .i64 o1, .string s1, .int .i64 m1, .slice A1 n1 k1, .slice A2 n2 k2] 37)).alloc (by simp) (.cells #[.int .i64 0, .int .i64 0, .int .i64 0] 29)); have HB1 := Lib.hid (h1.1.trans (HV1.out.mono h1.1.size)); have HT1 := Lib.hid (HTB.out.under h1.1); clear h1 hL b1 b2)
    | (go_at_call 7; (with_reducible refine (call_livB _ (HER.out.under HB1.out)).mono ?_); intro e w2 h2; obtain ⟨v, h8, L, h9, hL0⟩ := h2.2; subst h8; subst h9; have hL := hL0.sub (new_sub _ _); clear hL0; obtain ⟨P1, j1, l1, a, l2, C4, l4, rfl, _, hc4, hc5⟩ := livP_at hL; obtain ⟨V2, rfl⟩ : ∃ W, W = w2 := ⟨_, rfl⟩; obtain ⟨d1, d2⟩ := two_alloc (w := V2) (A := .cells #[.slice P1 j1 l1, .slice (some a) 1 l2] 26) (C := .cells #[.int .i64 0, .int .i64 0, .int .i64 0] 29); have HV2 := Lib.hid (((Below.refl V2.heap.size V2).alloc (Nat.le_refl _) (.cells #[.slice P1 j1 l1, .slice (some a) 1 l2] 26)).alloc (by simp) (.cells #[.int .i64 0, .int .i64 0, .int .i64 0] 29)); have HV3 := Lib.hid (HV1.out.trans ((h2.1.trans (HV2.out.mono h2.1.size)).mono HV1.out.size)); have HB2 := Lib.hid (HB1.out.trans ((h2.1.trans (HV2.out.mono h2.1.size)).mono HB1.out.size)); have c1 := box_next HV2.out (box_next h2.1 B1.out); have c2 := box_next HV2.out (box_next h2.1 B2.out); obtain ⟨x0, x1, x2, x3, x4⟩ := row5 c1; obtain ⟨y0, y1, y2⟩ := row3 c2; obtain ⟨z0, z1, z2⟩ := row3 d2; have D1 := Lib.hid d1; have HC4 := Lib.hid hc4; have HC5 := Lib.hid hc5; clear h2 hL d1 d2 c1 c2 hc4 hc5)
    | (go_at_call 16; (with_reducible refine (show_any HT1.out HE.out livX_size HV3.out).mono ?_); rintro e w3 ⟨rfl, hb3⟩; obtain ⟨V3, rfl⟩ : ∃ W, W = w3 := ⟨_, rfl⟩; rw [livX_show]; have e1 := box_next hb3 D1.out; obtain ⟨u0, u1⟩ := row2 e1; have hlc := World.block_lt_of_cell? V2 _ HC5.out; have f5 := (hb3.cell (p := { block := a.block, off := a.off + 4 }) (Nat.lt_of_lt_of_le hlc HV2.out.size)).trans ((HV2.out.cell (p := { block := a.block, off := a.off + 4 }) hlc).trans HC5.out); have HB3 := Lib.hid (HB2.out.trans (hb3.mono HB2.out.size)); clear hb3))
  go_ret; exact ⟨rfl, HB3.out⟩
end Go.Proofs.YtlhmdjhfmhkllaaGreatDoor

namespace Go.Proofs.YtlhmdjhfmhkllaaGreatDoor
open Go.RowKit
def BadE (f : Flt) (w : World) (e : Ending) (w' : World) : Prop := Below w.heap.size w w' ∧ e = .returned (.tuple #[.agg #[.int .i64 0, .string ⟨#[]⟩, .int .i64 0, .slice none 0 0, .slice none 0 0], .agg #[.int .i64 f.1, .int .i64 f.2.1, .int .i64 f.2.2]])
theorem expr_badc {s : Tx} {f : Flt} (hp : exprR s = .inr f) (w : World) (hm : s.length ≤ maxLen) (he : Errs w) : Calls Tryz.prog 10 #[.string (str s)] w (BadE f w) := by
  have h := expr_call s w hm he; rw [hp] at h; exact h
end Go.Proofs.YtlhmdjhfmhkllaaGreatDoor
