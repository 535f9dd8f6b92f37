/-
  sugar.rebuilt: a copy of an expression in which a closure's answers have taken the place of what it replaces.
-/
import Derived.Test.YtaimagfdjbedeaaGreatDoorSugClone
import Derived.Test.YtaimagfdjbedeaaGreatDoorHeld
namespace Go.Proofs.YtaimagfdjbedeaaGreatDoor
open Go.RowKit

mutual
/-- no list in the tree is long -/
def Slim : Ex → Prop
  | .mk _ _ _ cs ks => cs.length ≤ 2097152 ∧ ks.length ≤ 2097152 ∧ SlimL ks
def SlimL : List Ex → Prop
  | [] => True
  | k :: l => Slim k ∧ SlimL l
end
theorem slimL_mem : ∀ {l : List Ex}, SlimL l → ∀ (i : Nat) k, l[i]? = some k → Slim k
  | [], _, i, k, h => by simp at h
  | x :: l, h, i, k, hk => by
    rw [SlimL] at h
    cases i with
    | zero => simp at hk; subst hk; exact h.1
    | succ i => exact slimL_mem h.2 i k (by simpa using hk)
theorem set_rowX {w : World} {N : Nat} {T0 : TypeId} {a b c d e : Value} (x y z u v : Value) (h : w.heap[N]? = some (.cells #[a, b, c, d, e] T0 (0, 0))) : (((((w.setCell ⟨N, 0, none⟩ x).setCell ⟨N, 1, none⟩ y).setCell ⟨N, 2, none⟩ z).setCell ⟨N, 3, none⟩ u).setCell ⟨N, 4, none⟩ v).heap[N]? = some (.cells #[x, y, z, u, v] T0 (0, 0)) := by
  have h1 := heap_setCell_same w N 0 _ _ x h
  have h2 := heap_setCell_same _ N 1 _ _ y h1
  have h3 := heap_setCell_same _ N 2 _ _ z h2
  have h4 := heap_setCell_same _ N 3 _ _ u h3
  have h5 := heap_setCell_same _ N 4 _ _ v h4
  simpa using h5
theorem row_frz {w : World} {N : Nat} {cs : Array Value} {T0 : TypeId} (h : w.heap[N]? = some (.cells cs T0 (0, 0))) (j : Nat) : w.frozen? ⟨N, j, none⟩ = false := by simp [World.frozen?, h]
theorem below_setX {B N : Nat} {a w : World} (h : Below B a w) (hN : B ≤ N) (x y z u v : Value) : Below B a (((((w.setCell ⟨N, 0, none⟩ x).setCell ⟨N, 1, none⟩ y).setCell ⟨N, 2, none⟩ z).setCell ⟨N, 3, none⟩ u).setCell ⟨N, 4, none⟩ v) :=
  ((((h.setCell hN x).setCell hN y).setCell hN z).setCell hN u).setCell hN v
theorem same_setX {B N : Nat} {a w : World} (h : Same B a w) (hN : N < B ∨ a.heap.size ≤ N) (x y z u v : Value) : Same B a (((((w.setCell ⟨N, 0, none⟩ x).setCell ⟨N, 1, none⟩ y).setCell ⟨N, 2, none⟩ z).setCell ⟨N, 3, none⟩ u).setCell ⟨N, 4, none⟩ v) :=
  ((((h.set hN x).set hN y).set hN z).set hN u).set hN v
def zeroX : List Value := [.int .i64 0, .string ⟨#[]⟩, .int .i64 0, .slice none 0 0, .slice none 0 0]
/-- what the closure answers -/
def RepPost (o : Option Ex) (w : World) (e : Ending) (w' : World) : Prop :=
  Below w.heap.size w w' ∧ match o with
    | some z => ∃ M, e = .returned (.tuple #[.agg M.toArray, .bool true]) ∧ ExAt (newW w.heap.size w') M z
    | none => e = .returned (.tuple #[.agg zeroX.toArray, .bool false])
def RebPost (y : Ex) (w : World) (e : Ending) (w' : World) : Prop := Below w.heap.size w w' ∧ ∃ M, e = .returned (.agg M.toArray) ∧ ExAt (newW w.heap.size w') M y
def RepOk (w0 : World) (g : FuncId) (cap : Array Value) (r : Ex → Option Ex) : Prop :=
  (∀ (args : Array Value) (W : World), (callFunc g args).run Tryz.prog W = .ok (.enter g args) W) ∧ ∀ y L, ExAt w0 L y → Slim y → ∀ w, Below w0.heap.size w0 w → Calls Tryz.prog g (#[.agg L.toArray] ++ cap) w (RepPost (r y) w)
theorem exp_size : (Tryz.prog.info? 25).map (·.size) = some 5 := by kernel_rfl
set_option maxRecDepth 100000 in
theorem rebuilt_results {tmps : Array Value} {w : World} {N : Nat} {x0 x1 x2 x3 x4 : Value} (hp : tmps.getD 4 undef = .pointer (some ⟨N, 0, none⟩)) (hg : w.heap[N]? = some (.cells #[x0, x1, x2, x3, x4] 25 (0, 0))) :
    (results Tryz.f13 tmps).run Tryz.prog w = .ok (.agg #[x0, x1, x2, x3, x4]) w :=
  results_cell_row Tryz.results13 tmps w N 25 _ (0, 0) _ hp hg Tryz.underlying25 rfl exp_size
set_option maxRecDepth 100000 in
set_option maxHeartbeats 4000000 in
theorem rebuilt_yes {w0 : World} {g : FuncId} {cap : Array Value} {r : Ex → Option Ex} (H : RepOk w0 g cap r) {L : List Value} {x z : Ex} (h : ExAt w0 L x) (hs : Slim x) (hr : r x = some z) (w : World) (hb : Below w0.heap.size w0 w) :
    Calls Tryz.prog 13 #[.agg L.toArray, .func (.func g) #[] cap] w (RebPost z w) := by
  obtain ⟨eg, hf⟩ := H
  have HF := Lib.hid (hf x L h hs)
  rw [hr] at HF
  obtain ⟨o0, s0, n0, A0, m0, k0, B0, j0, l0, rfl⟩ := h.shape
  have HB := Lib.hid hb
  have hb1 := Lib.hid (((Below.refl w.heap.size w).alloc (Nat.le_refl _) (.cells #[.int .i64 o0, .string s0, .int .i64 n0, .slice A0 m0 k0, .slice B0 j0 l0] 25)).alloc (by simp) (.cells #[.int .i64 0, .string ⟨#[]⟩, .int .i64 0, .slice none 0 0, .slice none 0 0] 25))
  have hsz0 := hb.size
  have E0 := Lib.hid (alloc_below (o := .cells #[.int .i64 0, .string ⟨#[]⟩, .int .i64 0, .slice none 0 0, .slice none 0 0] 25) (heap_alloc_new w (.cells #[.int .i64 o0, .string s0, .int .i64 n0, .slice A0 m0 k0, .slice B0 j0 l0] 25)))
  have R0 := Lib.hid (alloc_at (w := w.alloc (.cells #[.int .i64 o0, .string s0, .int .i64 n0, .slice A0 m0 k0, .slice B0 j0 l0] 25)) (o := .cells #[.int .i64 0, .string ⟨#[]⟩, .int .i64 0, .slice none 0 0, .slice none 0 0] 25) (n := w.heap.size + 1) (by simp))
  clear hf h hs hr hb
  go_enter Tryz.func13, Tryz.ntmps13
  go_wp2_with (go_at_fn g; refine (HF.out _ (HB.out.trans (hb1.out.mono hsz0))).mono ?_; rintro e w1 ⟨hb2, M, rfl, hM⟩; obtain ⟨o1, s1, n1, A1, m1, k1, B1, j1, l1, rfl⟩ := hM.shape; have HM := Lib.hid hM; have HB2 := Lib.hid hb2; have hz2 := hb2.size; simp at hz2; have R1 := Lib.hid (alloc_below (o := .cells #[.int .i64 o1, .string s1, .int .i64 n1, .slice A1 m1 k1, .slice B1 j1 l1] 25) (box_next hb2 R0.out)); obtain ⟨r0, r1, r2, r3, r4⟩ := row5 R1.out; have f0 := row_frz R1.out 0; have f1 := row_frz R1.out 1; have f2 := row_frz R1.out 2; have f3 := row_frz R1.out 3; have f4 := row_frz R1.out 4; clear hb2 hM)
  refine bodyPost_ret (rebuilt_results rfl (set_rowX _ _ _ _ _ R1.out)) rfl ⟨?_, [.int .i64 o1, .string s1, .int .i64 n1, .slice A1 m1 k1, .slice B1 j1 l1], rfl, ?_⟩
  · have h1 := hb1.out.trans (HB2.out.mono hb1.out.size)
    exact below_setX ((h1.alloc h1.size _)) (show w.heap.size ≤ w.heap.size + 1 by omega) _ _ _ _ _
  · refine HM.out.sub (Sub.trans (Same.sub (same_setX ((Same.refl _ w1).alloc _) (.inl ?_) _ _ _ _ _)) (new_mono ?_ _))
    · simp
    · simp; omega
end Go.Proofs.YtaimagfdjbedeaaGreatDoor
