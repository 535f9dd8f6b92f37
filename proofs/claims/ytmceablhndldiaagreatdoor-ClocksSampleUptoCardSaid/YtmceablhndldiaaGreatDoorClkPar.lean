/-
  clocks: parted, same: two clocks that begin with the base clock are one just if they have one path.
-/
import Derived.Test.YtmceablhndldiaaGreatDoorClkTim
import Derived.Laws.StructEq
namespace Go.Proofs.YtmceablhndldiaaGreatDoor
open Go.RowKit

theorem neq_smp (s r : Tx × Tx) (w : World) : (binOp .neq 40 (.agg #[.string (str s.1), .string (str s.2)]) (.agg #[.string (str r.1), .string (str r.2)])).run Tryz.prog w = .ok (.bool (!decide (s = r))) w := by
  rw [run_neq_struct, run_equalIn_agg w _ _ _ _ (by kernel_rfl) (by kernel_rfl)]
  simp [Program.fieldsOf, Tryz.underlying40, Op.eqFields, part, go_sem, Tryz.underlying9]
  obtain ⟨a, b⟩ := s
  obtain ⟨c, d⟩ := r
  by_cases h1 : a = c <;> by_cases h2 : b = d <;> simp [h1, h2, str_toL]
theorem smp_size : (Tryz.prog.info? 40).map (·.size) = some 2 := by kernel_rfl
theorem load_smp {w : World} {N : Nat} {x0 x1 : Value} (hg : w.heap[N]? = some (.cells #[x0, x1] 40 (0, 0))) : (loadVar 40 ⟨N, 0, none⟩).run Tryz.prog w = .ok (.agg #[x0, x1]) w :=
  run_loadVar_row w N 40 40 _ (0, 0) _ hg Tryz.underlying40 rfl smp_size
theorem results_cell_cell {fn : Func} {p u : Tmp} {t1 t2 : TypeId} (h : fn.results = #[.cell p t1, .cell u t2]) (tmps : Array Value) (w : World) (g1 g2 : Nat) {c1 c2 : Value}
    (hp : tmps.getD p undef = .pointer (some ⟨g1, 0, none⟩)) (hu : tmps.getD u undef = .pointer (some ⟨g2, 0, none⟩)) (h1 : (loadVar t1 ⟨g1, 0, none⟩).run Tryz.prog w = .ok c1 w) (h2 : (loadVar t2 ⟨g2, 0, none⟩).run Tryz.prog w = .ok c2 w) :
    (results fn tmps).run Tryz.prog w = .ok (.tuple #[c1, c2]) w := by
  have hp' : tmps[p]?.getD undef = .pointer (some ⟨g1, 0, none⟩) := by simpa using hp
  have hu' : tmps[u]?.getD undef = .pointer (some ⟨g2, 0, none⟩) := by simpa using hu
  simp [results, h, hp', hu', asAddr, h1, h2, Result.andThen]
set_option maxRecDepth 100000 in
set_option maxHeartbeats 4000000 in
theorem parted_any {w0 w : World} {A : Option Addr} {n c : Nat} {l : Clk} {s : Tx × Tx} (h : ClkAt w0 (.slice A n c) (l ++ [s])) (hb : Below w0.heap.size w0 w) :
    Calls Tryz.prog 70 #[.agg #[.int .i64 0, .slice A n c]] w (fun e w' => e = .returned (.tuple #[.agg #[.int .i64 0, .slice A l.length c], .agg #[.string (str s.1), .string (str s.2)]]) ∧ ClkAt w0 (.slice A l.length c) l ∧ Below w.heap.size w w') := by
  obtain ⟨A', c', e, hl, hc, he⟩ := h
  cases e
  obtain ⟨L, hE, rfl, hs1, hs2⟩ := he l.length s (by simp)
  have hcl : ClkAt w0 (.slice A l.length c) l := by
    refine ⟨A, c, rfl, by simp at hl; omega, hc, fun i x hx => he i x ?_⟩
    rw [List.getElem?_append_left (List.getElem?_eq_some_iff.1 hx).1]
    exact hx
  have HCL := Lib.hid hcl
  have hlen : (l ++ [s]).length = l.length + 1 := by simp
  rw [hlen] at hl ⊢
  have b3 := (((Below.refl w.heap.size w).alloc (Nat.le_refl _) (.cells #[.int .i64 0, .slice A (l.length + 1) c] 68)).alloc (by simp) (.cells #[.int .i64 0, .slice none 0 0] 68)).alloc (by simp; omega) (.cells #[.string ⟨#[]⟩, .string ⟨#[]⟩] 40)
  have HB3 := Lib.hid b3
  obtain ⟨a, rfl, _, _, d0, d1⟩ := elem2 (hE.under (hb.trans (b3.mono hb.size)))
  have key : ∀ o1 o2 o3 : Obj, (((w.alloc o1).alloc o2).alloc o3).cell? (a.add (l.length * 2)) = some (.string (str s.1)) ∧ (((w.alloc o1).alloc o2).alloc o3).cell? { block := (a.add (l.length * 2)).block, off := (a.add (l.length * 2)).off + 1 } = some (.string (str s.2)) := fun o1 o2 o3 => by
    obtain ⟨a', e, _, _, g0, g1⟩ := elem2 (hE.under (hb.trans ((((Below.refl w.heap.size w).alloc (Nat.le_refl _) o1).alloc (by simp) o2).alloc (by simp; omega) o3 |>.mono hb.size)))
    cases e
    exact ⟨g0, g1⟩
  have hlm : l.length + 1 ≤ 9223372036854775807 := by unfold maxLen at hc; omega
  have n0 := Lib.hid (heap_alloc_keep (o := .cells #[.string ⟨#[]⟩, .string ⟨#[]⟩] 40) (heap_alloc_keep (o := .cells #[.int .i64 0, .slice none 0 0] 68) (heap_alloc_new w (.cells #[.int .i64 0, .slice (some a) (l.length + 1) c] 68))))
  have z0 := Lib.hid (heap_alloc_keep (o := .cells #[.string ⟨#[]⟩, .string ⟨#[]⟩] 40) (alloc_at (w := w.alloc (.cells #[.int .i64 0, .slice (some a) (l.length + 1) c] 68)) (o := .cells #[.int .i64 0, .slice none 0 0] 68) (n := w.heap.size + 1) (by simp)))
  have y0 := Lib.hid (alloc_at (w := (w.alloc (.cells #[.int .i64 0, .slice (some a) (l.length + 1) c] 68)).alloc (.cells #[.int .i64 0, .slice none 0 0] 68)) (o := .cells #[.string ⟨#[]⟩, .string ⟨#[]⟩] 40) (n := w.heap.size + 1 + 1) (by simp))
  obtain ⟨p0, p1⟩ := row2c n0.out
  obtain ⟨z1, z2⟩ := row2c z0.out
  obtain ⟨y1, y2⟩ := row2c y0.out
  have f1 := row_frz z0.out 0
  have f2 := row_frz z0.out 1
  have g1 := row_frz y0.out 0
  have g2 := row_frz y0.out 1
  clear he hE hcl b3 hlen hs1 hs2
  go_enter Tryz.func70, Tryz.ntmps70
  go_wp2_with fail
  refine wp_region_held_drew (S := (fun W => W.cell? ⟨w.heap.size, 0, none⟩ = some (.int .i64 0) ∧ W.cell? ⟨w.heap.size, 1, none⟩ = some (.slice (some a) (l.length + 1) c) ∧ W.cell? (a.add (l.length * 2)) = some (.string (str s.1)) ∧ W.cell? { block := (a.add (l.length * 2)).block, off := (a.add (l.length * 2)).off + 1 } = some (.string (str s.2)))) (by kernel_rfl) ?_ (fun hHeld => ?_)
  · (try dsimp only); go_keep
  refine take_now 0 rfl ?_
  try simp only [Act.put, setA, setZ, setS]
  refine take_now 1 rfl ?_
  try simp only [Act.put, setA, setZ, setS]
  refine take_now 2 rfl ?_
  try simp only [Act.put, setA, setZ, setS]
  refine take_now 3 rfl ?_
  try simp only [Act.put, setA, setZ, setS]
  refine take_now 4 rfl ?_
  try simp only [Act.put, setA, setZ, setS]
  refine take_now 5 rfl ?_
  try simp only [Act.put, setA, setZ, setS]
  refine take_now 6 rfl ?_
  try simp only [Act.put, setA, setZ, setS]
  refine take_now 7 rfl ?_
  try simp only [Act.put, setA, setZ, setS]
  refine take_now 8 rfl ?_
  try simp only [Act.put, setA, setZ, setS]
  refine take_now 9 rfl ?_
  try simp only [Act.put, setA, setZ, setS]
  refine take_now 10 rfl ?_
  try simp only [Act.put, setA, setZ, setS]
  refine take_now 11 rfl ?_
  try simp only [Act.put, setA, setZ, setS]
  refine only_at 12 (by kernel_rfl) rfl (fun K hK => ?_)
  go_simp
  refine hK.out _ _ ?_ (fun hHeld => ?_)
  · (try dsimp only)
    go_keep
  clear hK K
  try simp only [Act.put, setA, setZ, setS]
  refine only_at 13 (by kernel_rfl) rfl (fun K hK => ?_)
  go_simp
  refine hK.out _ _ ?_ (fun hHeld => ?_)
  · (try dsimp only)
    go_keep
  clear hK K
  try simp only [Act.put, setA, setZ, setS]
  refine wpAnyH_done (by kernel_rfl) ?_ _
  go_wp2_with fail
  exact bodyPost_ret (results_cell_cell Tryz.results70 _ _ _ _ rfl rfl (load_clk (heap_alloc_keep (alloc_at (w := w.alloc (.cells #[.int .i64 0, .slice (some a) (l.length + 1) c] 68)) (n := w.heap.size + 1) (by simp)))) (load_smp (alloc_at (w := (w.alloc (.cells #[.int .i64 0, .slice (some a) (l.length + 1) c] 68)).alloc (.cells #[.int .i64 0, .slice (some a) l.length c] 68)) (n := w.heap.size + 1 + 1) (by simp)))) rfl
    ⟨rfl, HCL.out, ((((Below.refl w.heap.size w).alloc (Nat.le_refl _) _).alloc (by simp) _).alloc (by simp; omega) _).drew⟩
end Go.Proofs.YtmceablhndldiaaGreatDoor
