/-
  What Show answers of an expression.
-/
import Derived.Test.YtaimagfdjbedeaaGreatDoorTreeExpr
import Derived.Test.YtaimagfdjbedeaaGreatDoorTreeRead
namespace Go.Proofs.YtaimagfdjbedeaaGreatDoor
open Go.RowKit

def ShowPost (x : Ex) (w : World) (e : Ending) (w' : World) : Prop := e = .returned (.string (str (spellL (toksX x)))) ∧ Below w.heap.size w w'
set_option maxHeartbeats 1000000 in
set_option maxRecDepth 100000 in
theorem show_any {w0 : World} (htab : Tab w0) {x : Ex} {L : List Value} (hL : ExAt w0 L x) (hs : SizeOk (toksX x)) {w : World} (hb : Below w0.heap.size w0 w) :
    Calls Tryz.prog 12 #[.agg L.toArray] w (ShowPost x w) := by
  have hsz := hb.size
  have HI := Lib.hid (exprT_any (B := w.heap.size + 1) (b := w.heap.size + 1) (by omega) htab hL)
  have HS := Lib.hid hs
  obtain ⟨o1, s1, n1, A1, m1, k1, A2, m2, k2, rfl⟩ := hL.shape
  have ht0 := text_fresh (w.alloc (.cells #[.int .i64 o1, .string s1, .int .i64 n1, .slice A1 m1 k1, .slice A2 m2 k2] 25))
  rw [World.size_alloc] at ht0
  have HT0 := Lib.hid (show TextW (w.heap.size + 1) (w.heap.size + 1) [] _ from ⟨ht0, by simp⟩)
  have HB := Lib.hid (hb.alloc hsz (.cells #[.int .i64 o1, .string s1, .int .i64 n1, .slice A1 m1 k1, .slice A2 m2 k2] 25))
  clear ht0
  clear hb hs htab hL
  go_enter Tryz.func12, Tryz.ntmps12
  go_wp2_with (first
    | (go_at_call 22
       refine (HI.out _ [] HT0.out (HB.out.alloc (by simp; omega) _) HS.out).mono ?_
       rintro e w1 ⟨rfl, ht1, hk1⟩)
    | (go_at_call 23
       refine (tRead_any _ _ _ _ _ ht1.1 ht1.2).mono ?_
       rintro e w2 ⟨rfl, hb2⟩))
  go_ret
  exact ⟨by rw [← putL_false]; rfl, ((((Below.refl _ w).alloc (Nat.le_refl _) _).alloc (by simp) _).trans ((hk1.below.trans hb2).mono (by simp)))⟩
end Go.Proofs.YtaimagfdjbedeaaGreatDoor
