/-
  clocks: what is known of the clocks in one node, where each clock begins with the base clock.
-/
import Derived.Test.YtmceablhndldiaaGreatDoorClkMem
namespace Go.Proofs.YtmceablhndldiaaGreatDoor
open Go.RowKit

/-- the one root, which is the base clock -/
structure TimAt (w : World) (T m R : Nat) : Prop where
  box : w.heap[T]? = some (.cells #[.map (some m), .slice (some ⟨R, 0, none⟩) 1 1] 73 (0, 0))
  root : w.heap[R]? = some (.cells #[.int .i64 0, .slice none 0 0] 68 (0, 0))
theorem TimAt.keep {w w' : World} {T m R : Nat} (h : TimAt w T m R) (hb : Below w.heap.size w w') : TimAt w' T m R := ⟨box_next hb h.box, box_next hb h.root⟩
theorem row2c {w : World} {N : Nat} {T : TypeId} {v0 v1 : Value} (h : w.heap[N]? = some (.cells #[v0, v1] T (0, 0))) : w.cell? ⟨N, 0, none⟩ = some v0 ∧ w.cell? ⟨N, 1, none⟩ = some v1 := by
  rw [cell_of_row _ _ _ _ _ _ h, cell_of_row _ _ _ _ _ _ h]
  exact ⟨rfl, rfl⟩
theorem clk_size : (Tryz.prog.info? 68).map (·.size) = some 2 := by kernel_rfl
theorem load_clk {w : World} {N : Nat} {x0 x1 : Value} (hg : w.heap[N]? = some (.cells #[x0, x1] 68 (0, 0))) : (loadVar 68 ⟨N, 0, none⟩).run Tryz.prog w = .ok (.agg #[x0, x1]) w :=
  run_loadVar_row w N 68 68 _ (0, 0) _ hg Tryz.underlying68 rfl clk_size
theorem clk_results {fn : Func} {p : Tmp} (h : fn.results = #[.cell p 68]) {tmps : Array Value} {w : World} {N : Nat} {x0 x1 : Value} (hp : tmps.getD p undef = .pointer (some ⟨N, 0, none⟩)) (hg : w.heap[N]? = some (.cells #[x0, x1] 68 (0, 0))) :
    (results fn tmps).run Tryz.prog w = .ok (.agg #[x0, x1]) w :=
  results_cell_row h tmps w N 68 _ (0, 0) _ hp hg Tryz.underlying68 rfl clk_size
set_option maxRecDepth 100000 in
set_option maxHeartbeats 2000000 in
theorem whole_any {w : World} {T m R : Nat} (h : TimAt w T m R) (A : Option Addr) (n c : Nat) : Calls Tryz.prog 69 #[.pointer (some ⟨T, 0, none⟩), .agg #[.int .i64 0, .slice A n c]] w (fun e w' => e = .returned (.agg #[.int .i64 0, .slice A n c]) ∧ Below w.heap.size w w') := by
  have b2 := ((Below.refl w.heap.size w).alloc (Nat.le_refl _) (.cells #[.int .i64 0, .slice A n c] 68)).alloc (by simp) (.cells #[.int .i64 0, .slice none 0 0] 68)
  have HB2 := Lib.hid b2
  have h2 := h.keep b2
  obtain ⟨t0, t1⟩ := row2c h2.box
  obtain ⟨r0, r1⟩ := row2c h2.root
  have e0 := alloc_below (o := .cells #[.int .i64 0, .slice none 0 0] 68) (heap_alloc_new w (.cells #[.int .i64 0, .slice A n c] 68))
  obtain ⟨p0, p1⟩ := row2c e0
  have q0 := Lib.hid (heap_alloc_keep (o := .cells #[.int .i64 0, .slice none 0 0] 68) e0)
  have z0 := Lib.hid (heap_alloc_keep (o := .cells #[.int .i64 0, .slice none 0 0] 68) (alloc_at (w := w.alloc (.cells #[.int .i64 0, .slice A n c] 68)) (o := .cells #[.int .i64 0, .slice none 0 0] 68) (n := w.heap.size + 1) (by simp)))
  have y0 := Lib.hid (alloc_at (w := (w.alloc (.cells #[.int .i64 0, .slice A n c] 68)).alloc (.cells #[.int .i64 0, .slice none 0 0] 68)) (o := .cells #[.int .i64 0, .slice none 0 0] 68) (n := w.heap.size + 1 + 1) (by simp))
  clear b2 h h2 e0
  go_enter Tryz.func69, Tryz.ntmps69
  go_wp2_with fail
  refine wp_region_held_drew (S := (fun W => W.cell? ⟨T, 1, none⟩ = some (.slice (some ⟨R, 0, none⟩) 1 1) ∧ W.cell? ⟨w.heap.size, 0, none⟩ = some (.int .i64 0) ∧ W.cell? ⟨R, 0, none⟩ = some (.int .i64 0) ∧ W.cell? ⟨R, 1, none⟩ = some (.slice none 0 0))) (by kernel_rfl) ?_ (fun hHeld => ?_)
  · (try dsimp only); go_keep
  refine take_now 0 rfl ?_
  try simp only [Act.put, setA, setZ, setS]
  refine take_now 1 rfl ?_
  try simp only [Act.put, setA, setZ, setS]
  refine take_now 2 rfl ?_
  try simp only [Act.put, setA, setZ, setS]
  refine take_now 3 rfl ?_
  try simp only [Act.put, setA, setZ, setS]
  refine take_now 4 rfl ?_
  try simp only [Act.put, setA, setZ, setS]
  refine take_now 5 rfl ?_
  try simp only [Act.put, setA, setZ, setS]
  refine take_now 6 rfl ?_
  try simp only [Act.put, setA, setZ, setS]
  refine take_now 7 rfl ?_
  try simp only [Act.put, setA, setZ, setS]
  refine only_at 8 (by kernel_rfl) rfl (fun K hK => ?_)
  go_simp
  refine hK.out _ _ ?_ (fun hHeld => ?_)
  · (try dsimp only); go_keep
  clear hK K
  try simp only [Act.put, setA, setZ, setS]
  refine only_at 9 (by kernel_rfl) rfl (fun K hK => ?_)
  go_simp
  refine hK.out _ _ ?_ (fun hHeld => ?_)
  · (try dsimp only); go_keep
  clear hK K
  try simp only [Act.put, setA, setZ, setS]
  refine wpAnyH_done (by kernel_rfl) ?_ _
  obtain ⟨q1, q2⟩ := row2c q0.out
  obtain ⟨z1, z2⟩ := row2c z0.out
  obtain ⟨y1, y2⟩ := row2c y0.out
  have f1 := row_frz z0.out 0
  have f2 := row_frz z0.out 1
  go_wp2_with fail
  exact bodyPost_ret (clk_results Tryz.results69 rfl (heap_alloc_keep (alloc_at (w := w.alloc (.cells #[.int .i64 0, .slice A n c] 68)) (n := w.heap.size + 1) (by simp)))) rfl ⟨rfl, ((((Below.refl w.heap.size w).alloc (Nat.le_refl _) _).alloc (by simp) _).alloc (by simp; omega) _).drew⟩
set_option maxRecDepth 100000 in
set_option maxHeartbeats 2000000 in
theorem stands_any {w : World} (p : Value) (A B : Option Addr) (n c m d : Nat) : Calls Tryz.prog 71 #[p, .agg #[.int .i64 0, .slice A n c], .agg #[.int .i64 0, .slice B m d]] w (BoolPost (decide (n = 0 ∧ m = 0)) w) := by
  have b2 := ((Below.refl w.heap.size w).alloc (Nat.le_refl _) (.cells #[.int .i64 0, .slice A n c] 68)).alloc (by simp) (.cells #[.int .i64 0, .slice B m d] 68)
  have HB2 := Lib.hid b2
  clear b2
  by_cases h0 : n = 0
  · subst h0
    go_enter Tryz.func71, Tryz.ntmps71
    go_wp2_with fail
    go_ret
    exact ⟨ret_bool (by by_cases hm : m = 0 <;> simp [hm]), HB2.out⟩
  · have hn : 0 < n := by omega
    have hq : decide (n = 0 ∧ m = 0) = false := by simp [h0]
    rw [hq]
    clear hq h0
    go_enter Tryz.func71, Tryz.ntmps71
    go_wp2_with fail
    go_ret
    exact ⟨rfl, HB2.out⟩
end Go.Proofs.YtmceablhndldiaaGreatDoor
