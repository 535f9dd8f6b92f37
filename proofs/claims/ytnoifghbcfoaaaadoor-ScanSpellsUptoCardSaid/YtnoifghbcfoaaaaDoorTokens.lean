/-
  ScanTokens: the walk.
-/
import Derived.Test.YtnoifghbcfoaaaaDoorRScan
import Derived.Test.YtnoifghbcfoaaaaDoorPlaces
namespace Go.Proofs.YtnoifghbcfoaaaaDoor
open Go.RowKit

def CellsAt (w : World) (g : Nat) (ts : List Tok) : Prop := ∀ j u, (ts.flatMap Tok.cells)[j]? = some u → w.cell? ⟨g, j, none⟩ = some u
theorem CellsAt.tok {w : World} {g : Nat} {ts : List Tok} (h : CellsAt w g ts) {k : Nat} {t : Tok} (ht : ts[k]? = some t) :
    w.cell? ⟨g, k * 5, none⟩ = some (.int .i64 t.sort) ∧ w.cell? ⟨g, k * 5 + 1, none⟩ = some (.string (str t.text)) ∧ w.cell? ⟨g, k * 5 + 2, none⟩ = some (.int .i64 t.num) ∧ w.cell? ⟨g, k * 5 + 3, none⟩ = some (.int .i64 t.line) ∧ w.cell? ⟨g, k * 5 + 4, none⟩ = some (.int .i64 t.col) :=
  ⟨h _ _ (flat_at ts k t ht 0 (by omega)), h _ _ (flat_at ts k t ht 1 (by omega)), h _ _ (flat_at ts k t ht 2 (by omega)), h _ _ (flat_at ts k t ht 3 (by omega)), h _ _ (flat_at ts k t ht 4 (by omega))⟩

theorem rSame_nil (w : World) : Calls Tryd.prog 12 #[.slice none 0 0, .slice none 0 0] w fun e w' => e = .returned (.bool true) ∧ ∃ nq, w' = w.drewN nq := by
  go_enter Tryd.func12, Tryd.ntmps12
  go_wp2_with fail
  go_loop [5] (fun v => v = .int .i64 0) (fun _ => 0)
  case atStart => rfl
  case round =>
    subst hrel
    go_wp2_with fail
    go_ret
    exact ⟨rfl, 0, rfl⟩

set_option maxHeartbeats 1000000 in
theorem rSame_any (g1 c1 g2 c2 : Nat) (ts : List Tok) (w : World) (hn : ts.length ≤ 65537) (h1 : CellsAt w g1 ts) (h2 : CellsAt w g2 ts) :
    Calls Tryd.prog 12 #[.slice (some ⟨g1, 0, none⟩) ts.length c1, .slice (some ⟨g2, 0, none⟩) ts.length c2] w fun e w' => e = .returned (.bool true) ∧ ∃ nq, w' = w.drewN nq := by
  have H1 := Lib.hid h1
  have H2 := Lib.hid h2
  clear h1 h2
  go_enter Tryd.func12, Tryd.ntmps12
  go_wp2_with fail
  go_loopg [5] ts.length (fun g v wr => ∃ (k nq : Nat), k + g = ts.length ∧ v = .int .i64 k ∧ wr = w.drewN nq)
  case atStart => exact ⟨0, 0, by omega, rfl, rfl⟩
  case round =>
    obtain ⟨k, nq, hk, rfl, rfl⟩ := hrel
    have HK := Lib.hid hk
    have hkl : k ≤ ts.length := by omega
    clear hk
    by_cases hkn : k < ts.length
    · obtain ⟨t, ht⟩ : ∃ t, ts[k]? = some t := ⟨_, List.getElem?_eq_getElem hkn⟩
      have A : CellsAt (w.drewN nq) g1 ts := H1.out
      have B : CellsAt (w.drewN nq) g2 ts := H2.out
      obtain ⟨a0, a1, a2, a3, a4⟩ := A.tok ht
      obtain ⟨b0, b1, b2, b3, b4⟩ := B.tok ht
      have HT := Lib.hid ht
      clear A B ht
      generalize hwr : w.drewN nq = wr at a0 a1 a2 a3 a4 b0 b1 b2 b3 b4
      have HWR := Lib.hid hwr
      clear hwr
      go_wp2_with fail
      go_quiet (fail)
      go_wp2_with fail
      go_roundg (ts.length - (k + 1))
      case measure => have := HK.out; omega
      case rel => exact ⟨k + 1, _, by omega, by go_num, by rw [← HWR.out, World.drewN_drewN]⟩
    · go_wp2_with fail
      go_ret
      exact ⟨rfl, _, rfl⟩

theorem rscan_big (s : ByteArray) (w : World) (hs : 65536 < s.size) (hm : s.size ≤ maxLen) :
    Calls Tryd.prog 11 #[.string s] w (FailAt 9 0 0 w) := by
  unfold maxLen at hm
  go_enter Tryd.func11, Tryd.ntmps11
  go_wp2_with fail
  exact bodyPost_ret (v := .tuple #[.slice none 0 0, .agg #[.int .i64 9, .int .i64 0, .int .i64 0]]) (rscan_results rfl rfl (heap_alloc_new w _)) rfl ⟨rfl, (Below.refl _ _).alloc (Nat.le_refl _) _⟩

theorem fault_kept {w2 w3 : World} {x0 x1 x2 : Value} (hb : Below (w2.alloc (.cells #[x0, x1, x2] 26)).heap.size (w2.alloc (.cells #[x0, x1, x2] 26)) w3) :
    w2.heap.size < w3.heap.size ∧ w3.cell? ⟨w2.heap.size, 0, none⟩ = some x0 ∧ w3.cell? ⟨w2.heap.size, 1, none⟩ = some x1 ∧ w3.cell? ⟨w2.heap.size, 2, none⟩ = some x2 := by
  have h := hb.block w2.heap.size (by simp)
  rw [heap_alloc_new] at h
  obtain ⟨h0, h1, h2, _⟩ := fault_cells h
  exact ⟨by have := hb.size; simp at this; omega, h0, h1, h2⟩

set_option maxRecDepth 100000 in
set_option maxHeartbeats 1000000 in
theorem tokens_fail (x a b : Int) (s : ByteArray) (w : World) (he : Errs w) (h1 : ∀ w, Errs w → Calls Tryd.prog 10 #[.string s] w (FailAt x a b w)) (h2 : ∀ w, Calls Tryd.prog 11 #[.string s] w (FailAt x a b w)) :
    Calls Tryd.prog 3 #[.string s] w (Lived w) := by
  have HE := Lib.hid he
  have H1 := Lib.hid h1
  have H2 := Lib.hid h2
  clear he h1 h2
  go_enter Tryd.func3, Tryd.ntmps3
  go_wp2_with (first | (go_at_call 9; refine (lives_any _ HE.out).mono ?_; rintro e w1 ⟨rfl, hb1⟩; have HE1 := Lib.hid (HE.out.under hb1)) | (go_at_call 10; refine (H1.out _ HE1.out).mono ?_; rintro e w2 ⟨rfl, hb2⟩) | (go_at_call 11; refine (H2.out _).mono ?_; rintro e w3 ⟨rfl, hb3⟩; obtain ⟨hl3, z0, z1, z2⟩ := fault_kept hb3) | (go_at_call 12; refine (rSame_nil _).mono ?_; rintro e w4 ⟨rfl, nq, rfl⟩))
  go_ret
  exact ⟨rfl, below_drewN (((((hb1.trans (hb2.mono hb1.size)).alloc (Nat.le_trans hb1.size hb2.size) _).trans (hb3.mono (by have := hb1.size; have := hb2.size; simp; omega)))).alloc (by have := hb1.size; have := hb2.size; omega) _) _⟩

theorem CellsAt.under {w w' : World} {B g : Nat} {ts : List Tok} (h : CellsAt w g ts) (hb : Below B w w') (hg : g < B) : CellsAt w' g ts := fun j u hu => (hb.cell hg).trans (h j u hu)
theorem CellsAt.alloc {w : World} {g : Nat} {ts : List Tok} (h : CellsAt w g ts) (hg : g < w.heap.size) (o : Obj) : CellsAt (w.alloc o) g ts := fun j u hu => by
  rw [World.cell?_of_block (Below.heap_alloc _ _ _ hg)]
  exact h j u hu

set_option maxRecDepth 100000 in
set_option maxHeartbeats 1000000 in
theorem tokens_ok (ts : List Tok) (hn : ts.length ≤ 65537) (s : ByteArray) (w : World) (he : Errs w) (h1 : ∀ w, Errs w → Calls Tryd.prog 10 #[.string s] w (OkPost ts w)) (h2 : ∀ w, Calls Tryd.prog 11 #[.string s] w (OkPost ts w)) :
    Calls Tryd.prog 3 #[.string s] w (Lived w) := by
  have HE := Lib.hid he
  have H1 := Lib.hid h1
  have H2 := Lib.hid h2
  clear he h1 h2
  go_enter Tryd.func3, Tryd.ntmps3
  go_wp2_with (first | (go_at_call 9; refine (lives_any _ HE.out).mono ?_; rintro e w1 ⟨rfl, hb1⟩; have HE1 := Lib.hid (HE.out.under hb1)) | (go_at_call 10; refine (H1.out _ HE1.out).mono ?_; rintro e w2 ⟨g1, c1, rfl, hg1, hg1', hc1, hm1, hb2, hcells1⟩; have HC1 := Lib.hid (show CellsAt w2 g1 ts from hcells1); clear hcells1) | (go_at_call 11; refine (H2.out _).mono ?_; rintro e w3 ⟨g2, c2, rfl, hg2, hg2', hc2, hm2, hb3, hcells2⟩; have HC2 := Lib.hid (show CellsAt w3 g2 ts from hcells2); clear hcells2; obtain ⟨hl3, z0, z1, z2⟩ := fault_kept hb3; have HC3 := Lib.hid ((HC1.out.alloc hg1' _).under hb3 (by simp; omega))) | (go_at_call 12; refine (rSame_any _ _ _ _ ts _ hn (HC3.out.alloc (by omega) _) (HC2.out.alloc hg2' _)).mono ?_; rintro e w4 ⟨rfl, nq, rfl⟩))
  go_ret
  exact ⟨rfl, below_drewN (((((hb1.trans (hb2.mono hb1.size)).alloc (Nat.le_trans hb1.size hb2.size) _).trans (hb3.mono (by have := hb1.size; have := hb2.size; simp; omega)))).alloc (by have := hb1.size; have := hb2.size; omega) _) _⟩

theorem rscan_ok (s : ByteArray) (hs : s.size ≤ 65536) (h : (scanAll s.data.toList).2 = none) (w : World) : Calls Tryd.prog 11 #[.string s] w (OkPost (scanAll s.data.toList).1 w) := by
  refine (rscan_any s w hs).mono fun e w' ⟨hb, hd⟩ => ?_
  rcases hd with ⟨q, h2, _⟩ | ⟨_, v, rfl, hown⟩
  · rw [h] at h2; cases h2
  · obtain ⟨g, cap, rfl, h1, h2, h3, h4, hc⟩ := own_slice hown (scanF_ne h)
    exact ⟨g, cap, rfl, h1, h2, h3, h4, hb, hc⟩
theorem tokens_any (s : ByteArray) (w : World) (hm : s.size ≤ maxLen) (he : Errs w) : Calls Tryd.prog 3 #[.string s] w (Lived w) := by
  by_cases hs : s.size ≤ 65536
  · cases h2 : (scanAll s.data.toList).2 with
    | some q =>
      refine tokens_fail 2 q.1 q.2 s w he (fun w he => (scan_any s w hs he).mono fun e w' ⟨hb, h⟩ => ?_) (fun w => (rscan_any s w hs).mono fun e w' ⟨hb, h⟩ => ?_)
      all_goals rcases h with ⟨q', h3, rfl⟩ | ⟨h, _⟩
      · rw [h2] at h3
        obtain rfl := Option.some.inj h3
        exact ⟨rfl, hb⟩
      · rw [h2] at h; cases h
      · rw [h2] at h3
        obtain rfl := Option.some.inj h3
        exact ⟨rfl, hb⟩
      · rw [h2] at h; cases h
    | none => exact tokens_ok _ (by have := scan_ok_len s; omega) s w he (scan_ok s hs h2) (rscan_ok s hs h2)
  · exact tokens_fail 9 0 0 s w he (fun w _ => scan_big s w (by omega) hm) (fun w => rscan_big s w (by omega) hm)
end Go.Proofs.YtnoifghbcfoaaaaDoor
