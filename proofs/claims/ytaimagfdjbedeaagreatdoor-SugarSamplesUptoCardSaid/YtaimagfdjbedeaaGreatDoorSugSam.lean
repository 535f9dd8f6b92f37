/-
  sugar.copied and sugar.Sample: a tree of its own; one that is sampled.
-/
import Derived.Test.YtaimagfdjbedeaaGreatDoorSugRe2
import Derived.Laws.ResultCell
namespace Go.Proofs.YtaimagfdjbedeaaGreatDoor
open Go.RowKit

theorem results_row_tmp {fn : Func} {p u : Tmp} {ty : TypeId} (h : fn.results = #[.cell p ty, .tmp u]) (tmps : Array Value) (w : World) (g : Nat) {cs b : Value}
    (hp : tmps.getD p undef = .pointer (some ⟨g, 0, none⟩)) (hb : tmps.getD u undef = b) (hl : (loadVar ty ⟨g, 0, none⟩).run Tryz.prog w = .ok cs w) :
    (results fn tmps).run Tryz.prog w = .ok (.tuple #[cs, b]) w := by
  rw [results_cell_tmp h, hp, hb]
  simp [asAddr, hl, Result.andThen]
theorem load_ex {w : World} {N : Nat} {x0 x1 x2 x3 x4 : Value} (hg : w.heap[N]? = some (.cells #[x0, x1, x2, x3, x4] 25 (0, 0))) : (loadVar 25 ⟨N, 0, none⟩).run Tryz.prog w = .ok (.agg #[x0, x1, x2, x3, x4]) w :=
  run_loadVar_row w N 25 25 _ (0, 0) _ hg Tryz.underlying25 rfl exp_size
theorem copied1_ok (w0 : World) : RepOk w0 26 #[] (fun _ => none) := by
  refine ⟨fun args W => by kernel_rfl, fun y L h hs w hb => ?_⟩
  obtain ⟨o0, s0, n0, A0, m0, k0, B0, j0, l0, rfl⟩ := h.shape
  have R0 := Lib.hid (alloc_at (w := w.alloc (.cells #[.int .i64 o0, .string s0, .int .i64 n0, .slice A0 m0 k0, .slice B0 j0 l0] 25)) (o := .cells #[.int .i64 0, .string ⟨#[]⟩, .int .i64 0, .slice none 0 0, .slice none 0 0] 25) (n := w.heap.size + 1) (by simp))
  obtain ⟨r0, r1, r2, r3, r4⟩ := row5 R0.out
  have f0 := row_frz R0.out 0
  have f1 := row_frz R0.out 1
  have f2 := row_frz R0.out 2
  have f3 := row_frz R0.out 3
  have f4 := row_frz R0.out 4
  clear h hs hb
  go_enter Tryz.func26, Tryz.ntmps26
  go_wp2_with fail
  exact bodyPost_ret (results_row_tmp Tryz.results26 _ _ _ rfl rfl (load_ex R0.out)) rfl ⟨((Below.refl _ _).alloc (Nat.le_refl _) _).alloc (by simp) _, rfl⟩
theorem copied_results {tmps : Array Value} {w : World} {N : Nat} {x0 x1 x2 x3 x4 : Value} (hp : tmps.getD 2 undef = .pointer (some ⟨N, 0, none⟩)) (hg : w.heap[N]? = some (.cells #[x0, x1, x2, x3, x4] 25 (0, 0))) :
    (results Tryz.f15 tmps).run Tryz.prog w = .ok (.agg #[x0, x1, x2, x3, x4]) w :=
  results_cell_row Tryz.results15 tmps w N 25 _ (0, 0) _ hp hg Tryz.underlying25 rfl exp_size
set_option maxRecDepth 100000 in
set_option maxHeartbeats 4000000 in
theorem copied_any {w0 : World} {L : List Value} {x : Ex} (h : ExAt w0 L x) (hs : Slim x) (w : World) (hb : Below w0.heap.size w0 w) : Calls Tryz.prog 15 #[.agg L.toArray] w (RebPost x w) := by
  have HR := Lib.hid (rebuilt_any (copied1_ok w0) h hs)
  rw [reb_copy] at HR
  obtain ⟨o0, s0, n0, A0, m0, k0, B0, j0, l0, rfl⟩ := h.shape
  have HB := Lib.hid hb
  have hsz0 := hb.size
  have b2 := ((Below.refl w.heap.size w).alloc (Nat.le_refl _) (.cells #[.int .i64 o0, .string s0, .int .i64 n0, .slice A0 m0 k0, .slice B0 j0 l0] 25)).alloc (by simp) (.cells #[.int .i64 0, .string ⟨#[]⟩, .int .i64 0, .slice none 0 0, .slice none 0 0] 25)
  have HB2 := Lib.hid b2
  have R0 := Lib.hid (alloc_at (w := w.alloc (.cells #[.int .i64 o0, .string s0, .int .i64 n0, .slice A0 m0 k0, .slice B0 j0 l0] 25)) (o := .cells #[.int .i64 0, .string ⟨#[]⟩, .int .i64 0, .slice none 0 0, .slice none 0 0] 25) (n := w.heap.size + 1) (by simp))
  clear h hs hb b2
  go_enter Tryz.func15, Tryz.ntmps15
  go_wp2_with (first
    | (go_at_call 13
       (with_reducible refine (HR.out _ (HB.out.trans (HB2.out.mono hsz0))).mono ?_)
       rintro e w1 ⟨hb1, M, rfl, hM⟩
       obtain ⟨V1, rfl⟩ : ∃ W, W = w1 := ⟨_, rfl⟩
       have hz1 := hb1.size
       simp at hz1
       obtain ⟨o1, s1, n1, A1, m1, k1, B1, j1, l1, rfl⟩ := hM.shape
       have HM := Lib.hid hM
       have HB1 := Lib.hid hb1
       have R1 := Lib.hid (box_next hb1 R0.out)
       obtain ⟨r0, r1, r2, r3, r4⟩ := row5 R1.out
       have f0 := row_frz R1.out 0
       have f1 := row_frz R1.out 1
       have f2 := row_frz R1.out 2
       have f3 := row_frz R1.out 3
       have f4 := row_frz R1.out 4
       clear hb1 hM))
  refine bodyPost_ret (copied_results rfl (set_rowX _ _ _ _ _ R1.out)) rfl ⟨below_setX (HB2.out.trans (HB1.out.mono HB2.out.size)) (by omega) _ _ _ _ _, [.int .i64 o1, .string s1, .int .i64 n1, .slice A1 m1 k1, .slice B1 j1 l1], rfl, ?_⟩
  exact HM.out.sub (Sub.trans (Same.sub (same_setX (Same.refl _ V1) (.inl (by simp)) _ _ _ _ _)) (new_mono (by simp; omega) _))
theorem cell_setX {w : World} {K : Nat} {a : Addr} (h : a.block ≠ K) (x y z u v : Value) : (((((w.setCell ⟨K, 0, none⟩ x).setCell ⟨K, 1, none⟩ y).setCell ⟨K, 2, none⟩ z).setCell ⟨K, 3, none⟩ u).setCell ⟨K, 4, none⟩ v).cell? a = w.cell? a := by
  have h1 : ∀ (b : Addr) (w : World) (x : Value), b.block = K → (w.setCell b x).cell? a = w.cell? a := fun b w x hb => World.cell?_of_block (Below.heap_setCell _ _ _ _ (by rw [hb]; exact h))
  rw [h1 _ _ _ rfl, h1 _ _ _ rfl, h1 _ _ _ rfl, h1 _ _ _ rfl, h1 _ _ _ rfl]
theorem heap_setX {w : World} {K M : Nat} (h : M ≠ K) (x y z u v : Value) : (((((w.setCell ⟨K, 0, none⟩ x).setCell ⟨K, 1, none⟩ y).setCell ⟨K, 2, none⟩ z).setCell ⟨K, 3, none⟩ u).setCell ⟨K, 4, none⟩ v).heap[M]? = w.heap[M]? := by
  rw [Below.heap_setCell _ _ _ _ h, Below.heap_setCell _ _ _ _ h, Below.heap_setCell _ _ _ _ h, Below.heap_setCell _ _ _ _ h, Below.heap_setCell _ _ _ _ h]
/-- what is made for a variable -/
theorem sampled_at {W : World} {B C2 C5 : Nat} {x con : Tx} {y : Ex} {M : List Value} (hx : x.length ≤ maxLen) (hcon : con.length ≤ maxLen) (hM : ExAt (newW (B + 2) W) M y) (h2 : W.heap[C2]? = some (.cells #[.string (str con)] 9 (0, 0))) (h5 : W.heap[C5]? = some (.cells M.toArray 25 (0, 0)))
    (g2 : B + 2 ≤ C2) (g5 : B + 2 ≤ C5) (a b c d e : Value) : ExAt (newW B (((((W.setCell ⟨B + 1, 0, none⟩ a).setCell ⟨B + 1, 1, none⟩ b).setCell ⟨B + 1, 2, none⟩ c).setCell ⟨B + 1, 3, none⟩ d).setCell ⟨B + 1, 4, none⟩ e)) [.int .i64 11, .string (str x), .int .i64 0, .slice (some ⟨C2, 0, none⟩) 1 1, .slice (some ⟨C5, 0, none⟩) 1 1] (.mk 11 x 0 [con] [y]) :=
  ex_node (i64_small (by omega)) (i64_small (by omega)) hx (made1 ((new_get (by omega)).trans ((heap_setX (by omega) _ _ _ _ _).trans h2)) ⟨rfl, hcon⟩ rfl)
    (made1 ((new_get (by omega)).trans ((heap_setX (by omega) _ _ _ _ _).trans h5)) (hM.sub (Sub.trans (Same.sub (same_setX (Same.refl _ W) (.inl (by omega)) _ _ _ _ _)) (new_mono (by omega) _))) (by simp))
theorem heap_alloc_keep {w : World} {n : Nat} {o x : Obj} (h : w.heap[n]? = some x) : (w.alloc o).heap[n]? = some x := alloc_below h
theorem row1c {w : World} {N : Nat} {T : TypeId} {v0 : Value} (h : w.heap[N]? = some (.cells #[v0] T (0, 0))) : w.cell? ⟨N, 0, none⟩ = some v0 := by
  rw [cell_of_row _ _ _ _ _ _ h]; rfl
set_option maxRecDepth 100000 in
set_option maxHeartbeats 8000000 in
theorem sample1_yes {w0 : World} {K1 K2 : Nat} {x con : Tx} (hx : x.length ≤ maxLen) (hcon : con.length ≤ maxLen) (h1 : w0.heap[K1]? = some (.cells #[.string (str x)] 9 (0, 0))) (h2 : w0.heap[K2]? = some (.cells #[.string (str con)] 9 (0, 0)))
    {y : Ex} {L : List Value} (h : ExAt w0 L y) (hs : Slim y) (hy : ∃ s n cs ks, y = .mk 4 s n cs ks) (w : World) (hb : Below w0.heap.size w0 w) :
    Calls Tryz.prog 14 #[.agg L.toArray, .pointer (some ⟨K1, 0, none⟩), .pointer (some ⟨K2, 0, none⟩)] w (RepPost (some (.mk 11 x 0 [con] [y])) w) := by
  have HC := Lib.hid (copied_any h hs)
  have hop : ∃ s0 n0 A0 m0 k0 B0 j0 l0, L = [.int .i64 4, .string s0, .int .i64 n0, .slice A0 m0 k0, .slice B0 j0 l0] := by
    obtain ⟨s, n, cs, ks, rfl⟩ := hy
    cases h with
    | mk _ _ _ hcs _ _ _ _ =>
      obtain ⟨A, c, rfl, _⟩ := hcs
      exact ⟨_, _, _, _, _, _, _, _, rfl⟩
  obtain ⟨s0, n0, A0, m0, k0, B0, j0, l0, rfl⟩ := hop
  have HB := Lib.hid hb
  have hsz0 := hb.size
  have X1 := Lib.hid (box_next hb h1)
  have X2 := Lib.hid (box_next hb h2)
  have b2 := ((Below.refl w.heap.size w).alloc (Nat.le_refl _) (.cells #[.int .i64 4, .string s0, .int .i64 n0, .slice A0 m0 k0, .slice B0 j0 l0] 25)).alloc (by simp) (.cells #[.int .i64 0, .string ⟨#[]⟩, .int .i64 0, .slice none 0 0, .slice none 0 0] 25)
  have HB2 := Lib.hid b2
  have E0 := Lib.hid (alloc_below (o := .cells #[.int .i64 0, .string ⟨#[]⟩, .int .i64 0, .slice none 0 0, .slice none 0 0] 25) (heap_alloc_new w (.cells #[.int .i64 4, .string s0, .int .i64 n0, .slice A0 m0 k0, .slice B0 j0 l0] 25)))
  have R0 := Lib.hid (alloc_at (w := w.alloc (.cells #[.int .i64 4, .string s0, .int .i64 n0, .slice A0 m0 k0, .slice B0 j0 l0] 25)) (o := .cells #[.int .i64 0, .string ⟨#[]⟩, .int .i64 0, .slice none 0 0, .slice none 0 0] 25) (n := w.heap.size + 1) (by simp))
  have x1 := row1c (heap_alloc_keep (o := .cells #[.int .i64 0, .string ⟨#[]⟩, .int .i64 0, .slice none 0 0, .slice none 0 0] 25) (heap_alloc_keep (o := .cells #[.int .i64 4, .string s0, .int .i64 n0, .slice A0 m0 k0, .slice B0 j0 l0] 25) X1.out))
  have x2 := row1c (heap_alloc_keep (o := .cells #[.int .i64 0, .string ⟨#[]⟩, .int .i64 0, .slice none 0 0, .slice none 0 0] 25) (heap_alloc_keep (o := .cells #[.int .i64 4, .string s0, .int .i64 n0, .slice A0 m0 k0, .slice B0 j0 l0] 25) X2.out))
  obtain ⟨p0, p1, p2, p3, p4⟩ := row5 E0.out
  have q1 := lt_of_heap X1.out
  have q2 := lt_of_heap X2.out
  have e1 : K1 ≠ w.heap.size + 1 := by omega
  have e2 : K2 ≠ w.heap.size + 1 := by omega
  have e3 : w.heap.size ≠ w.heap.size + 1 := by omega
  clear h hs hy hb b2 h1 h2
  go_enter Tryz.func14, Tryz.ntmps14
  go_wp2_with fail
  refine wp_region_held_drew (S := (fun W => W.cell? ⟨K1, 0, none⟩ = some (.string (str x)) ∧ W.cell? ⟨K2, 0, none⟩ = some (.string (str con)) ∧ W.cell? ⟨w.heap.size, 0, none⟩ = some (.int .i64 4) ∧ W.cell? ⟨w.heap.size, 1, none⟩ = some (.string s0) ∧ W.cell? ⟨w.heap.size, 2, none⟩ = some (.int .i64 n0) ∧ W.cell? ⟨w.heap.size, 3, none⟩ = some (.slice A0 m0 k0) ∧ W.cell? ⟨w.heap.size, 4, none⟩ = some (.slice B0 j0 l0))) (by kernel_rfl) ?_ (fun hHeld => ?_)
  · (try dsimp only); go_keep
  refine take_now 0 ?_
  refine take_now 1 ?_
  refine take_now 3 ?_
  refine wpAnyH_ready (rs := [2, 4]) (by kernel_rfl) (by simp) (cons_at 2 rfl (fun K hK => ?_) (cons_at 4 rfl (fun K hK => ?_) AllReadyH.nil))
  · go_simp
    refine hK.out _ _ ?_ (fun hHeld => ?_)
    · (try dsimp only); go_keep
    clear hK K
    try simp only [Act.put, setA, setZ, setS]
    refine only_at 4 (by kernel_rfl) rfl (fun K hK => ?_)
    go_simp
    (go_at_call 15
     (with_reducible refine (HC.out _ (HB.out.trans ((((HB2.out.alloc HB2.out.size _).drew).mono hsz0)))).mono ?_)
     rintro e w1 ⟨hb1, M, rfl, hM⟩
     obtain ⟨V1, rfl⟩ : ∃ W, W = w1 := ⟨_, rfl⟩
     have hz1 := hb1.size
     simp [World.drew] at hz1
     obtain ⟨o1, s1, n1, A1, m1, k1, A2, m2, k2, rfl⟩ := hM.shape
     have HM := Lib.hid hM
     have HB1 := Lib.hid hb1
     have Y1 := Lib.hid (box_next hb1 (heap_alloc_keep (o := .cells #[.string (str con)] 9) (heap_alloc_keep (o := .cells #[.int .i64 0, .string ⟨#[]⟩, .int .i64 0, .slice none 0 0, .slice none 0 0] 25) (heap_alloc_keep (o := .cells #[.int .i64 4, .string s0, .int .i64 n0, .slice A0 m0 k0, .slice B0 j0 l0] 25) X1.out))))
     have Y2 := Lib.hid (box_next hb1 (heap_alloc_keep (o := .cells #[.string (str con)] 9) (heap_alloc_keep (o := .cells #[.int .i64 0, .string ⟨#[]⟩, .int .i64 0, .slice none 0 0, .slice none 0 0] 25) (heap_alloc_keep (o := .cells #[.int .i64 4, .string s0, .int .i64 n0, .slice A0 m0 k0, .slice B0 j0 l0] 25) X2.out))))
     have YE := Lib.hid (box_next hb1 (heap_alloc_keep (o := .cells #[.string (str con)] 9) E0.out))
     have YR := Lib.hid (box_next hb1 (heap_alloc_keep (o := .cells #[.string (str con)] 9) R0.out))
     have y1 := row1c Y1.out
     have y2 := row1c Y2.out
     obtain ⟨u0, u1, u2, u3, u4⟩ := row5 YE.out
     clear hb1 hM)
    refine hK.out _ _ ?_ (fun hHeld => ?_)
    · (try dsimp only); go_keep
    clear hK K
    try simp only [Act.put, setA, setZ, setS]
    refine only_at 5 (by kernel_rfl) rfl (fun K hK => ?_)
    go_simp
    refine hK.out _ _ ?_ (fun hHeld => ?_)
    · (try dsimp only); go_keep
    clear hK K
    try simp only [Act.put, setA, setZ, setS]
    have FB := Lib.hid ((((HB2.out.alloc HB2.out.size (.cells #[.string (str con)] 9)).drew).trans (HB1.out.mono (by simp [World.drew]; omega))).alloc (by omega) (.cells #[.int .i64 o1, .string s1, .int .i64 n1, .slice A1 m1 k1, .slice A2 m2 k2] 25))
    have F1 := Lib.hid (heap_alloc_keep (o := .cells #[.int .i64 o1, .string s1, .int .i64 n1, .slice A1 m1 k1, .slice A2 m2 k2] 25) (box_next HB1.out (show (((w.alloc (.cells #[.int .i64 4, .string s0, .int .i64 n0, .slice A0 m0 k0, .slice B0 j0 l0] 25)).alloc (.cells #[.int .i64 0, .string ⟨#[]⟩, .int .i64 0, .slice none 0 0, .slice none 0 0] 25)).alloc (.cells #[.string (str con)] 9)).drew.heap[w.heap.size + 1 + 1]? = _ from alloc_at (by simp))))
    have F2 := Lib.hid (heap_alloc_new V1 (.cells #[.int .i64 o1, .string s1, .int .i64 n1, .slice A1 m1 k1, .slice A2 m2 k2] 25))
    have F3 := Lib.hid (heap_alloc_keep (o := .cells #[.int .i64 o1, .string s1, .int .i64 n1, .slice A1 m1 k1, .slice A2 m2 k2] 25) YR.out)
    have FM := Lib.hid (HM.out.sub (Sub.trans (new_mono (B' := w.heap.size + 2) (by simp [World.drew]) V1) (Same.sub ((Same.refl _ V1).alloc (.cells #[.int .i64 o1, .string s1, .int .i64 n1, .slice A1 m1 k1, .slice A2 m2 k2] 25)))))
    have g2 : w.heap.size + 2 ≤ w.heap.size + 1 + 1 := by omega
    have g5 : w.heap.size + 2 ≤ V1.heap.size := by omega
    obtain ⟨r0, r1, r2, r3, r4⟩ := row5 F3.out
    have f0 := row_frz F3.out 0
    have f1 := row_frz F3.out 1
    have f2 := row_frz F3.out 2
    have f3 := row_frz F3.out 3
    have f4 := row_frz F3.out 4
    refine take_now 6 ?_
    refine only_at 7 (by kernel_rfl) rfl (fun K hK => ?_)
    go_simp
    refine hK.out _ _ ⟨(cell_setX e1 _ _ _ _ _).trans hHeld.1, (cell_setX e2 _ _ _ _ _).trans hHeld.2.1, (cell_setX e3 _ _ _ _ _).trans hHeld.2.2.1, (cell_setX e3 _ _ _ _ _).trans hHeld.2.2.2.1, (cell_setX e3 _ _ _ _ _).trans hHeld.2.2.2.2.1, (cell_setX e3 _ _ _ _ _).trans hHeld.2.2.2.2.2.1, (cell_setX e3 _ _ _ _ _).trans hHeld.2.2.2.2.2.2⟩ (fun hHeld => ?_)
    clear hK K
    try simp only [Act.put, setA, setZ, setS]
    refine take_now 8 ?_
    refine wpAnyH_done (by kernel_rfl) ?_ _
    go_wp2_with fail
    refine bodyPost_ret (results_row_tmp Tryz.results14 _ _ _ rfl rfl (load_ex (set_rowX _ _ _ _ _ F3.out))) rfl ⟨below_setX FB.out (by omega) _ _ _ _ _, [.int .i64 11, .string (str x), .int .i64 0, _, _], rfl, ?_⟩
    exact sampled_at hx hcon FM.out F1.out F2.out g2 g5 _ _ _ _ _
  · go_simp
    (go_at_call 15
     (with_reducible refine (HC.out _ (HB.out.trans ((((HB2.out).drew).mono hsz0)))).mono ?_)
     rintro e w1 ⟨hb1, M, rfl, hM⟩
     obtain ⟨V1, rfl⟩ : ∃ W, W = w1 := ⟨_, rfl⟩
     have hz1 := hb1.size
     simp [World.drew] at hz1
     obtain ⟨o1, s1, n1, A1, m1, k1, A2, m2, k2, rfl⟩ := hM.shape
     have HM := Lib.hid hM
     have HB1 := Lib.hid hb1
     have Y1 := Lib.hid (box_next hb1 (heap_alloc_keep (o := .cells #[.int .i64 0, .string ⟨#[]⟩, .int .i64 0, .slice none 0 0, .slice none 0 0] 25) (heap_alloc_keep (o := .cells #[.int .i64 4, .string s0, .int .i64 n0, .slice A0 m0 k0, .slice B0 j0 l0] 25) X1.out)))
     have Y2 := Lib.hid (box_next hb1 (heap_alloc_keep (o := .cells #[.int .i64 0, .string ⟨#[]⟩, .int .i64 0, .slice none 0 0, .slice none 0 0] 25) (heap_alloc_keep (o := .cells #[.int .i64 4, .string s0, .int .i64 n0, .slice A0 m0 k0, .slice B0 j0 l0] 25) X2.out)))
     have YE := Lib.hid (box_next hb1 E0.out)
     have YR := Lib.hid (box_next hb1 R0.out)
     have y1 := row1c Y1.out
     have y2 := row1c Y2.out
     obtain ⟨u0, u1, u2, u3, u4⟩ := row5 YE.out
     clear hb1 hM)
    refine hK.out _ _ ?_ (fun hHeld => ?_)
    · (try dsimp only); go_keep
    clear hK K
    try simp only [Act.put, setA, setZ, setS]
    refine wpAnyH_ready (rs := [2, 5]) (by kernel_rfl) (by simp) (cons_at 2 rfl (fun K hK => ?_) (cons_at 5 rfl (fun K hK => ?_) AllReadyH.nil))
    · go_simp
      refine hK.out _ _ ?_ (fun hHeld => ?_)
      · (try dsimp only); go_keep
      clear hK K
      try simp only [Act.put, setA, setZ, setS]
      refine only_at 5 (by kernel_rfl) rfl (fun K hK => ?_)
      go_simp
      refine hK.out _ _ ?_ (fun hHeld => ?_)
      · (try dsimp only); go_keep
      clear hK K
      try simp only [Act.put, setA, setZ, setS]
      have FB := Lib.hid (((((HB2.out.drew).trans (HB1.out.mono (by simp [World.drew]; omega)))).alloc (by omega) (.cells #[.string (str con)] 9)).alloc (by simp; omega) (.cells #[.int .i64 o1, .string s1, .int .i64 n1, .slice A1 m1 k1, .slice A2 m2 k2] 25))
      have F1 := Lib.hid (heap_alloc_keep (o := .cells #[.int .i64 o1, .string s1, .int .i64 n1, .slice A1 m1 k1, .slice A2 m2 k2] 25) (heap_alloc_new V1 (.cells #[.string (str con)] 9)))
      have F2 := Lib.hid (alloc_at (w := V1.alloc (.cells #[.string (str con)] 9)) (o := .cells #[.int .i64 o1, .string s1, .int .i64 n1, .slice A1 m1 k1, .slice A2 m2 k2] 25) (n := V1.heap.size + 1) (by simp))
      have F3 := Lib.hid (heap_alloc_keep (o := .cells #[.int .i64 o1, .string s1, .int .i64 n1, .slice A1 m1 k1, .slice A2 m2 k2] 25) (heap_alloc_keep (o := .cells #[.string (str con)] 9) YR.out))
      have FM := Lib.hid (HM.out.sub (Sub.trans (new_mono (B' := w.heap.size + 2) (by simp [World.drew]) V1) (Same.sub (((Same.refl _ V1).alloc (.cells #[.string (str con)] 9)).alloc (.cells #[.int .i64 o1, .string s1, .int .i64 n1, .slice A1 m1 k1, .slice A2 m2 k2] 25)))))
      have g2 : w.heap.size + 2 ≤ V1.heap.size := by omega
      have g5 : w.heap.size + 2 ≤ V1.heap.size + 1 := by omega
      obtain ⟨r0, r1, r2, r3, r4⟩ := row5 F3.out
      have f0 := row_frz F3.out 0
      have f1 := row_frz F3.out 1
      have f2 := row_frz F3.out 2
      have f3 := row_frz F3.out 3
      have f4 := row_frz F3.out 4
      refine take_now 6 ?_
      refine only_at 7 (by kernel_rfl) rfl (fun K hK => ?_)
      go_simp
      refine hK.out _ _ ⟨(cell_setX e1 _ _ _ _ _).trans hHeld.1, (cell_setX e2 _ _ _ _ _).trans hHeld.2.1, (cell_setX e3 _ _ _ _ _).trans hHeld.2.2.1, (cell_setX e3 _ _ _ _ _).trans hHeld.2.2.2.1, (cell_setX e3 _ _ _ _ _).trans hHeld.2.2.2.2.1, (cell_setX e3 _ _ _ _ _).trans hHeld.2.2.2.2.2.1, (cell_setX e3 _ _ _ _ _).trans hHeld.2.2.2.2.2.2⟩ (fun hHeld => ?_)
      clear hK K
      try simp only [Act.put, setA, setZ, setS]
      refine take_now 8 ?_
      refine wpAnyH_done (by kernel_rfl) ?_ _
      go_wp2_with fail
      refine bodyPost_ret (results_row_tmp Tryz.results14 _ _ _ rfl rfl (load_ex (set_rowX _ _ _ _ _ F3.out))) rfl ⟨below_setX FB.out (by omega) _ _ _ _ _, [.int .i64 11, .string (str x), .int .i64 0, _, _], rfl, ?_⟩
      exact sampled_at hx hcon FM.out F1.out F2.out g2 g5 _ _ _ _ _
    · go_simp
      refine hK.out _ _ ?_ (fun hHeld => ?_)
      · (try dsimp only); go_keep
      clear hK K
      try simp only [Act.put, setA, setZ, setS]
      refine only_at 2 (by kernel_rfl) rfl (fun K hK => ?_)
      go_simp
      refine hK.out _ _ ?_ (fun hHeld => ?_)
      · (try dsimp only); go_keep
      clear hK K
      try simp only [Act.put, setA, setZ, setS]
      have FB := Lib.hid (((((HB2.out.drew).trans (HB1.out.mono (by simp [World.drew]; omega)))).alloc (by omega) (.cells #[.int .i64 o1, .string s1, .int .i64 n1, .slice A1 m1 k1, .slice A2 m2 k2] 25)).alloc (by simp; omega) (.cells #[.string (str con)] 9))
      have F1 := Lib.hid (alloc_at (w := V1.alloc (.cells #[.int .i64 o1, .string s1, .int .i64 n1, .slice A1 m1 k1, .slice A2 m2 k2] 25)) (o := .cells #[.string (str con)] 9) (n := V1.heap.size + 1) (by simp))
      have F2 := Lib.hid (heap_alloc_keep (o := .cells #[.string (str con)] 9) (heap_alloc_new V1 (.cells #[.int .i64 o1, .string s1, .int .i64 n1, .slice A1 m1 k1, .slice A2 m2 k2] 25)))
      have F3 := Lib.hid (heap_alloc_keep (o := .cells #[.string (str con)] 9) (heap_alloc_keep (o := .cells #[.int .i64 o1, .string s1, .int .i64 n1, .slice A1 m1 k1, .slice A2 m2 k2] 25) YR.out))
      have FM := Lib.hid (HM.out.sub (Sub.trans (new_mono (B' := w.heap.size + 2) (by simp [World.drew]) V1) (Same.sub (((Same.refl _ V1).alloc (.cells #[.int .i64 o1, .string s1, .int .i64 n1, .slice A1 m1 k1, .slice A2 m2 k2] 25)).alloc (.cells #[.string (str con)] 9)))))
      have g2 : w.heap.size + 2 ≤ V1.heap.size + 1 := by omega
      have g5 : w.heap.size + 2 ≤ V1.heap.size := by omega
      obtain ⟨r0, r1, r2, r3, r4⟩ := row5 F3.out
      have f0 := row_frz F3.out 0
      have f1 := row_frz F3.out 1
      have f2 := row_frz F3.out 2
      have f3 := row_frz F3.out 3
      have f4 := row_frz F3.out 4
      refine take_now 6 ?_
      refine only_at 7 (by kernel_rfl) rfl (fun K hK => ?_)
      go_simp
      refine hK.out _ _ ⟨(cell_setX e1 _ _ _ _ _).trans hHeld.1, (cell_setX e2 _ _ _ _ _).trans hHeld.2.1, (cell_setX e3 _ _ _ _ _).trans hHeld.2.2.1, (cell_setX e3 _ _ _ _ _).trans hHeld.2.2.2.1, (cell_setX e3 _ _ _ _ _).trans hHeld.2.2.2.2.1, (cell_setX e3 _ _ _ _ _).trans hHeld.2.2.2.2.2.1, (cell_setX e3 _ _ _ _ _).trans hHeld.2.2.2.2.2.2⟩ (fun hHeld => ?_)
      clear hK K
      try simp only [Act.put, setA, setZ, setS]
      refine take_now 8 ?_
      refine wpAnyH_done (by kernel_rfl) ?_ _
      go_wp2_with fail
      refine bodyPost_ret (results_row_tmp Tryz.results14 _ _ _ rfl rfl (load_ex (set_rowX _ _ _ _ _ F3.out))) rfl ⟨below_setX FB.out (by omega) _ _ _ _ _, [.int .i64 11, .string (str x), .int .i64 0, _, _], rfl, ?_⟩
      exact sampled_at hx hcon FM.out F1.out F2.out g2 g5 _ _ _ _ _
end Go.Proofs.YtaimagfdjbedeaaGreatDoor
