/-
  The place of a kid.
-/
import Derived.Test.YtbpbnebcbjacdaaGreatScopeCall
namespace Go.Proofs.YtbpbnebcbjacdaaGreat
open Go.RowKit

def kidR (op r i : Int) : Int := if op = 15 ∧ i = 0 then r else 1
def KidPost (op r i : Int) (u : Bool) (w : World) (e : Ending) (w' : World) : Prop := e = .returned (.agg #[.int .i64 (kidR op r i), .bool (u || op == 13)]) ∧ Below w.heap.size w w'
theorem place_size : (Tryz.prog.info? 116).map (·.size) = some 2 := by kernel_rfl
set_option maxRecDepth 100000 in
theorem kid_results {tmps : Array Value} {w : World} {N : Nat} {x0 x1 : Value} (hp : tmps.getD 6 undef = .pointer (some ⟨N, 0, none⟩)) (hg : w.heap[N]? = some (.cells #[x0, x1] 116 (0, 0))) :
    (results Tryz.f102 tmps).run Tryz.prog w = .ok (.agg #[x0, x1]) w :=
  results_cell_row Tryz.results102 tmps w N 116 _ (0, 0) _ hp hg Tryz.underlying116 rfl place_size
set_option maxHeartbeats 2000000 in
set_option maxRecDepth 100000 in
theorem kid_any (op r i n : Int) (u : Bool) (s0 : ByteArray) (A B : Option Addr) (m1 j1 m2 j2 : Nat) (w : World) : Calls Tryz.prog 102 #[.agg #[.int .i64 r, .bool u], .agg #[.int .i64 op, .string s0, .int .i64 n, .slice A m1 j1, .slice B m2 j2], .int .i64 i] w (KidPost op r i u w) := by
  cases u
  · by_cases h15 : op = 15
    · subst h15
      by_cases hi : i = 0
      · subst hi
        have HR := Lib.hid (show kidR 15 r 0 = r by simp [kidR])
        go_enter Tryz.func102, Tryz.ntmps102
        go_wp2_with fail
        exact bodyPost_ret (kid_results rfl (alloc_below (alloc_at (by simp)))) rfl ⟨by rw [HR.out]; rfl, (((((Below.refl _ w).alloc (Nat.le_refl _) _).alloc (by simp) _).alloc (by simp; omega) _).alloc (by simp; omega) _)⟩
      · have hb : (i == 0) = false := by simp [hi]
        have HR := Lib.hid (show kidR 15 r i = 1 by simp [kidR, hi])
        clear hi
        go_enter Tryz.func102, Tryz.ntmps102
        go_wp2_with fail
        exact bodyPost_ret (kid_results rfl (alloc_below (alloc_at (by simp)))) rfl ⟨by rw [HR.out]; rfl, (((((Below.refl _ w).alloc (Nat.le_refl _) _).alloc (by simp) _).alloc (by simp; omega) _).alloc (by simp; omega) _)⟩
    · have hb : (op == 15) = false := by simp [h15]
      have HR := Lib.hid (show kidR op r i = 1 by simp [kidR, h15])
      clear h15
      go_enter Tryz.func102, Tryz.ntmps102
      go_wp2_with fail
      exact bodyPost_ret (kid_results rfl (alloc_below (alloc_at (by simp)))) rfl ⟨by rw [HR.out]; simp, (((((Below.refl _ w).alloc (Nat.le_refl _) _).alloc (by simp) _).alloc (by simp; omega) _).alloc (by simp; omega) _)⟩
  · by_cases h15 : op = 15
    · subst h15
      by_cases hi : i = 0
      · subst hi
        have HR := Lib.hid (show kidR 15 r 0 = r by simp [kidR])
        go_enter Tryz.func102, Tryz.ntmps102
        go_wp2_with fail
        exact bodyPost_ret (kid_results rfl (alloc_below (alloc_at (by simp)))) rfl ⟨by rw [HR.out]; simp, (((((Below.refl _ w).alloc (Nat.le_refl _) _).alloc (by simp) _).alloc (by simp; omega) _).alloc (by simp; omega) _)⟩
      · have hb : (i == 0) = false := by simp [hi]
        have HR := Lib.hid (show kidR 15 r i = 1 by simp [kidR, hi])
        clear hi
        go_enter Tryz.func102, Tryz.ntmps102
        go_wp2_with fail
        exact bodyPost_ret (kid_results rfl (alloc_below (alloc_at (by simp)))) rfl ⟨by rw [HR.out]; simp, (((((Below.refl _ w).alloc (Nat.le_refl _) _).alloc (by simp) _).alloc (by simp; omega) _).alloc (by simp; omega) _)⟩
    · have hb : (op == 15) = false := by simp [h15]
      have HR := Lib.hid (show kidR op r i = 1 by simp [kidR, h15])
      clear h15
      go_enter Tryz.func102, Tryz.ntmps102
      go_wp2_with fail
      exact bodyPost_ret (kid_results rfl (alloc_below (alloc_at (by simp)))) rfl ⟨by rw [HR.out]; simp, (((((Below.refl _ w).alloc (Nat.le_refl _) _).alloc (by simp) _).alloc (by simp; omega) _).alloc (by simp; omega) _)⟩
end Go.Proofs.YtbpbnebcbjacdaaGreat
