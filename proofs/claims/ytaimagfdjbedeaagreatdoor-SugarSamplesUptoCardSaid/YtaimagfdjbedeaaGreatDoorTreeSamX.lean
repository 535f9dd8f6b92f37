/-
  Contracts of SameExpr and Same: which expressions, which programs are the same.
-/
import Derived.Test.YtaimagfdjbedeaaGreatDoorTreeEqS
namespace Go.Proofs.YtaimagfdjbedeaaGreatDoor
open Go.RowKit

set_option maxHeartbeats 2000000 in
theorem sameExpr_any {w0 : World} : ∀ (x : Ex) (y : Ex) (L M : List Value), ExAt w0 L x → ExAt w0 M y → ∀ w, Below w0.heap.size w0 w → Calls Tryz.prog 157 #[.agg L.toArray, .agg M.toArray] w (BoolPost (sameX x y) w) := by
  intro x
  induction x using Ex.ind with
  | h op nm n cs ks ih =>
    rintro ⟨op', nm', n', cs', ks'⟩ L M hL hM w hw
    obtain ⟨cv, kv, rfl, _, _, _, hcs, hks⟩ := hL.open_
    obtain ⟨cv', kv', rfl, _, _, _, hcs', hks'⟩ := hM.open_
    have hE := Lib.hid (equalS_any hcs hcs')
    have hF := Lib.hid (eqF_Expr hks hks' (fun x hx y _ L M h1 h2 => ih x hx y L M h1 h2))
    obtain ⟨A1, n1, k1, rfl⟩ := SliceAt.shape hcs
    obtain ⟨A2, n2, k2, rfl⟩ := SliceAt.shape hks
    obtain ⟨B1, m1, j1, rfl⟩ := SliceAt.shape hcs'
    obtain ⟨B2, m2, j2, rfl⟩ := SliceAt.shape hks'
    have HW := Lib.hid hw
    have hsz := hw.size
    clear hw hcs hks hcs' hks' hL hM ih
    go_enter Tryz.func157, Tryz.ntmps157
    go_wp2_with (first | (go_at_call 184; (with_reducible refine (hE.out _ ?hB).mono ?_); (case hB => exact (HW.out.alloc (by omega) _).alloc (by simp; omega) _); rintro e w1 ⟨rfl, hb1⟩; have hs1 := hb1.size; simp at hs1; have HB1 := Lib.hid (((HW.out.alloc (by omega) _).alloc (by simp; omega) _).trans (hb1.mono (by simp; omega))); have HC1 := Lib.hid ((((Below.refl _ _).alloc (Nat.le_refl _) _).alloc (by simp) _).trans (hb1.mono (by simp; omega))); have ba1 := box_a hb1; have bb1 := box_b hb1; obtain ⟨x1_0, x1_1, x1_2, x1_3, x1_4⟩ := row5 ba1; obtain ⟨y1_0, y1_1, y1_2, y1_3, y1_4⟩ := row5 bb1; have BA1 := Lib.hid ba1; have BB1 := Lib.hid bb1; clear ba1 bb1; clear hb1) | (go_at_call 185; (with_reducible refine (hF.out _ ?hB).mono ?_); (case hB => exact HB1.out); rintro e w2 ⟨rfl, hb2⟩; have hs2 := hb2.size; have HB2 := Lib.hid ((HB1.out).trans (hb2.mono (by omega))); have HC2 := Lib.hid ((HC1.out).trans (hb2.mono (by omega))); clear hb2))
    all_goals go_ret
    all_goals refine ⟨ret_bool ?_, ?_⟩
    all_goals first | exact HC2.out | exact HC1.out | exact ((Below.refl _ _).alloc (Nat.le_refl _) _).alloc (by simp) _ | skip
    all_goals simp_all [sameX, str_toL, sameXs_by]
end Go.Proofs.YtaimagfdjbedeaaGreatDoor
