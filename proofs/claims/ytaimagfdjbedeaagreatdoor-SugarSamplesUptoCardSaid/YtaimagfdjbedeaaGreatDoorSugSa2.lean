/-
  sugar.Sample, whatever the tree.
-/
import Derived.Test.YtaimagfdjbedeaaGreatDoorSugSam
namespace Go.Proofs.YtaimagfdjbedeaaGreatDoor
open Go.RowKit

set_option maxRecDepth 100000 in
set_option maxHeartbeats 400000 in
theorem sample1_no {w0 : World} {p q : Value} {o0 : Int} {y : Ex} {L : List Value} (h : ExAt w0 L y) (hy : ∃ s n cs ks, y = .mk o0 s n cs ks) (ho : ¬ o0 = 4) (w : World) :
    Calls Tryz.prog 14 #[.agg L.toArray, p, q] w (RepPost none w) := by
  have hop : ∃ s0 n0 A0 m0 k0 B0 j0 l0, L = [.int .i64 o0, .string s0, .int .i64 n0, .slice A0 m0 k0, .slice B0 j0 l0] := by
    obtain ⟨s, n, cs, ks, rfl⟩ := hy
    cases h with
    | mk _ _ _ hcs _ _ _ _ =>
      obtain ⟨A, c, rfl, _⟩ := hcs
      exact ⟨_, _, _, _, _, _, _, _, rfl⟩
  obtain ⟨s0, n0, A0, m0, k0, B0, j0, l0, rfl⟩ := hop
  have R0 := Lib.hid (alloc_at (w := w.alloc (.cells #[.int .i64 o0, .string s0, .int .i64 n0, .slice A0 m0 k0, .slice B0 j0 l0] 25)) (o := .cells #[.int .i64 0, .string ⟨#[]⟩, .int .i64 0, .slice none 0 0, .slice none 0 0] 25) (n := w.heap.size + 1) (by simp))
  obtain ⟨r0, r1, r2, r3, r4⟩ := row5 R0.out
  have f0 := row_frz R0.out 0
  have f1 := row_frz R0.out 1
  have f2 := row_frz R0.out 2
  have f3 := row_frz R0.out 3
  have f4 := row_frz R0.out 4
  have hd : decide (o0 = 4) = false := by simpa using ho
  clear h hy
  go_enter Tryz.func14, Tryz.ntmps14
  go_wp2_with fail
  refine bodyPost_ret (results_row_tmp Tryz.results14 _ _ _ rfl rfl (load_ex R0.out)) rfl ⟨((Below.refl _ _).alloc (Nat.le_refl _) _).alloc (by simp) _, rfl⟩
theorem sample1_ok {w0 : World} {K1 K2 : Nat} {x con : Tx} (hx : x.length ≤ maxLen) (hcon : con.length ≤ maxLen) (h1 : w0.heap[K1]? = some (.cells #[.string (str x)] 9 (0, 0))) (h2 : w0.heap[K2]? = some (.cells #[.string (str con)] 9 (0, 0))) :
    RepOk w0 14 #[.pointer (some ⟨K1, 0, none⟩), .pointer (some ⟨K2, 0, none⟩)] (sampR x con) := by
  refine ⟨fun args W => by kernel_rfl, fun y L h hs w hb => ?_⟩
  obtain ⟨op, s, n, cs, ks⟩ := y
  by_cases ho : op = 4
  · subst ho
    have : sampR x con (.mk 4 s n cs ks) = some (.mk 11 x 0 [con] [.mk 4 s n cs ks]) := by simp [sampR]
    rw [this]
    exact sample1_yes hx hcon h1 h2 h hs ⟨s, n, cs, ks, rfl⟩ w hb
  · have : sampR x con (.mk op s n cs ks) = none := by simp [sampR, ho]
    rw [this]
    exact sample1_no h ⟨s, n, cs, ks, rfl⟩ ho w
theorem sample_results {tmps : Array Value} {w : World} {N : Nat} {x0 x1 x2 x3 x4 : Value} (hp : tmps.getD 6 undef = .pointer (some ⟨N, 0, none⟩)) (hg : w.heap[N]? = some (.cells #[x0, x1, x2, x3, x4] 25 (0, 0))) :
    (results Tryz.f5 tmps).run Tryz.prog w = .ok (.agg #[x0, x1, x2, x3, x4]) w :=
  results_cell_row Tryz.results5 tmps w N 25 _ (0, 0) _ hp hg Tryz.underlying25 rfl exp_size
set_option maxRecDepth 100000 in
set_option maxHeartbeats 4000000 in
theorem sample_any {w0 : World} {L : List Value} {y : Ex} {x con : Tx} (hx : x.length ≤ maxLen) (hcon : con.length ≤ maxLen) (h : ExAt w0 L y) (hs : Slim y) (w : World) (hb : Below w0.heap.size w0 w) :
    Calls Tryz.prog 5 #[.agg L.toArray, .string (str x), .string (str con)] w (RebPost (sampQ x con y) w) := by
  have h' := h.under hb
  obtain ⟨o0, s0, n0, A0, m0, k0, B0, j0, l0, rfl⟩ := h.shape
  have b4 := ((((Below.refl w.heap.size w).alloc (Nat.le_refl _) (.cells #[.int .i64 o0, .string s0, .int .i64 n0, .slice A0 m0 k0, .slice B0 j0 l0] 25)).alloc (by simp) (.cells #[.string (str x)] 9)).alloc (by simp; omega) (.cells #[.string (str con)] 9)).alloc (by simp; omega) (.cells #[.int .i64 0, .string ⟨#[]⟩, .int .i64 0, .slice none 0 0, .slice none 0 0] 25)
  have HB4 := Lib.hid b4
  have X1 := Lib.hid (heap_alloc_keep (o := .cells #[.int .i64 0, .string ⟨#[]⟩, .int .i64 0, .slice none 0 0, .slice none 0 0] 25) (heap_alloc_keep (o := .cells #[.string (str con)] 9) (alloc_at (w := w.alloc (.cells #[.int .i64 o0, .string s0, .int .i64 n0, .slice A0 m0 k0, .slice B0 j0 l0] 25)) (o := .cells #[.string (str x)] 9) (n := w.heap.size + 1) (by simp))))
  have X2 := Lib.hid (heap_alloc_keep (o := .cells #[.int .i64 0, .string ⟨#[]⟩, .int .i64 0, .slice none 0 0, .slice none 0 0] 25) (alloc_at (w := (w.alloc (.cells #[.int .i64 o0, .string s0, .int .i64 n0, .slice A0 m0 k0, .slice B0 j0 l0] 25)).alloc (.cells #[.string (str x)] 9)) (o := .cells #[.string (str con)] 9) (n := w.heap.size + 1 + 1) (by simp)))
  have R0 := Lib.hid (alloc_at (w := ((w.alloc (.cells #[.int .i64 o0, .string s0, .int .i64 n0, .slice A0 m0 k0, .slice B0 j0 l0] 25)).alloc (.cells #[.string (str x)] 9)).alloc (.cells #[.string (str con)] 9)) (o := .cells #[.int .i64 0, .string ⟨#[]⟩, .int .i64 0, .slice none 0 0, .slice none 0 0] 25) (n := w.heap.size + 1 + 1 + 1) (by simp))
  have HR := Lib.hid (rebuilt_any (sample1_ok hx hcon X1.out X2.out) (h'.under b4) hs)
  have HQ := Lib.hid (show rebQ (sampR x con) y = sampQ x con y from rfl)
  clear h hs hb b4 h'
  go_enter Tryz.func5, Tryz.ntmps5
  go_wp2_with (first
    | (go_at_call 13
       (with_reducible refine (HR.out _ (Below.refl _ _)).mono ?_)
       rintro e w1 ⟨hb1, M, rfl, hM⟩
       obtain ⟨V1, rfl⟩ : ∃ W, W = w1 := ⟨_, rfl⟩
       have hz1 := hb1.size
       simp at hz1
       obtain ⟨o1, s1, n1, A1, m1, k1, B1, j1, l1, rfl⟩ := hM.shape
       have HM := Lib.hid hM
       have HB1 := Lib.hid hb1
       have R1 := Lib.hid (box_next hb1 R0.out)
       obtain ⟨r0, r1, r2, r3, r4⟩ := row5 R1.out
       have f0 := row_frz R1.out 0
       have f1 := row_frz R1.out 1
       have f2 := row_frz R1.out 2
       have f3 := row_frz R1.out 3
       have f4 := row_frz R1.out 4
       clear hb1 hM))
  refine bodyPost_ret (sample_results rfl (set_rowX _ _ _ _ _ R1.out)) rfl ⟨below_setX (HB4.out.trans (HB1.out.mono HB4.out.size)) (by omega) _ _ _ _ _, [.int .i64 o1, .string s1, .int .i64 n1, .slice A1 m1 k1, .slice B1 j1 l1], rfl, ?_⟩
  exact HM.out.sub (Sub.trans (Same.sub (same_setX (Same.refl _ V1) (.inl (by simp)) _ _ _ _ _)) (new_mono (by simp; omega) _))
end Go.Proofs.YtaimagfdjbedeaaGreatDoor
