import Derived.Test.YtiholfmmphcbeaaGreatDoorKm47
set_option maxHeartbeats 4000000
set_option maxRecDepth 100000
namespace Go.Proofs.YtiholfmmphcbeaaGreatDoor
open _root_.Go.Proofs.Tryz
open Go.RowKit
theorem vQ {con : Tx -> Int} (ns : List aA) : ∀ (k : Int) (l : List (Tx × bz)), (b9 con k l ns).2.1 = 0 -> (b9 con k l ns).2 = (0, 0, 0) /\ (b9 con k l ns).1.length = l.length + ns.length /\ ∀ j, b9 con k l (ns.take j) = ((b9 con k l ns).1.take (l.length + j), (0, 0, 0)) := by
 induction ns with
 | nil =>
   intro k l _; refine ⟨rfl, ?_, λ j => ?_⟩
   . rw [b9, List.length_map]; rfl
   . rw [List.take_nil, b9, List.take_of_length_le (by rw [List.length_map]; omega)]
 | cons n r ih =>
   intro k l h; rw [b9] at h ⊢; split at h
   . simp at h
   . rename_i t ht; have := ih _ _ h; rw [List.length_append, List.length_cons, List.length_nil] at this; obtain ⟨h1, h2, h3⟩ := this; refine ⟨h1, by rw [h2, List.length_cons]; omega, λ j => ?_⟩; cases j with
     | zero =>
       rw [List.take_zero, b9]; have h4 := h3 0; rw [List.take_zero, b9] at h4; have h5 := congrArg (λ x => x.1.take l.length) h4; simp only [List.map_append, List.map_cons, List.map_nil, List.take_take] at h5; rw [List.take_append_of_le_length (by rw [List.length_map]; exact Nat.le_refl _), List.take_of_length_le (by rw [List.length_map]; exact Nat.le_refl _), Nat.min_eq_left zO] at h5; rw [h5, Nat.add_zero]
     | succ j =>
       rw [List.take_succ_cons, b9]; rw [ht]; simp only; rw [h3 j]; rw [show l.length + (0 + 1) + j = l.length + (j + 1) by omega]
theorem DH {con : Tx -> Int} {p : cg} (h : (dR con p).2.1 = 0) : (dR con p).2 = (0, 0, 0) /\ (dR con p).1.length = p.nodes.length /\ (cO true p).1 = 0 /\ ∀ k, 1 <= k -> dR con ⟨p.enums, p.nodes.take k⟩ = ((dR con p).1.take k, (0, 0, 0)) := by
 unfold dR at h ⊢; by_cases hc : cO true p = (0, 0, 0)
 . rw [if_pos hc] at h ⊢; by_cases hs : p.nodes.any f7 = true
   . rw [if_pos hs] at h; exact absurd h zD
   . rw [if_neg hs] at h ⊢; obtain ⟨h1, h2, h3⟩ := vQ _ _ _ h; refine ⟨h1, by simpa using h2, by rw [hc], λ k hk => ?_⟩
     rw [if_pos (DX (by rw [hc]) hk), if_neg (by
      intro h9; obtain ⟨x, hx, hy⟩ := List.any_eq_true.1 h9; exact hs (List.any_eq_true.2 ⟨x, List.mem_of_mem_take hx, hy⟩)), h3 k]
     simp
 . rw [if_neg hc] at h; exact absurd (fT h).1 hc
theorem IU {X : Type} (f : X -> Nat) (l : List X) (k : Nat) : wL f (l.take k) <= wL f l := by
 induction l generalizing k with
 | nil => rw [List.take_nil]; exact Nat.le_refl _
 | cons a r ih =>
   cases k with
   | zero => simp [wL]
   | succ k =>
     rw [List.take_succ_cons]; have := ih k; simp only [wL] at *; omega
theorem wS (p : cg) (k : Nat) : eZ ⟨p.enums, p.nodes.take k⟩ <= eZ p := by
 unfold eZ; have := IU jz p.nodes k; simp only; omega
theorem BK (p : cg) (k : Nat) : fS ⟨p.enums, p.nodes.take k⟩ = fS p := rfl
theorem fq {W : World} {A B : Option Addr} {c d : Nat} {l : List Int} (ha : ak W TyC (.slice A l.length c) l) (hb : ak W TyC (.slice B l.length d) l) (w : World) (hw : Below W.heap.size W w) :
  Calls prog 16 #[.slice A l.length c, .slice B l.length d] w (ri w) := by
 have hll : l.length <= 9223372036854775807 := (by obtain ⟨A', c', e, hc, hm, _⟩ := ha; injection e with e1 e2 e3; subst e3; unfold maxLen at hm; omega); obtain ⟨A', c', e, _, _, hea⟩ := ha; injection e with e1 _ e3; subst e1 e3; obtain ⟨B', d', e, _, _, heb⟩ := hb; injection e with e1 _ e3; subst e1 e3; have HEA := zH hea; have HEB := zH heb; have HW := zH hw; clear hea heb hw; go_enter func16, ntmps16
 go_wp2_with fail
 go_loopg [5] l.length (λ g v wr => ∃ k : Nat, k + g = l.length /\ v = .int .i64 k /\ Below w.heap.size w wr)
 case atStart => exact ⟨0, by omega, rfl, Below.refl _ _⟩
 case round =>
  obtain ⟨k, hkg, rfl, hb4⟩ := hrel; obtain ⟨V4, rfl⟩ := zW wr; have HK := zH hkg; have HB4 := zH hb4; have HWV := zH (HW.o.trans (hb4.mono HW.o.size)); have hkl : k <= l.length := zO; clear hkg hb4; by_cases hlt : k < l.length
  . obtain ⟨x, hx⟩ := zG hlt; obtain ⟨L1, h1, rfl⟩ := HEA.o k x hx; obtain ⟨L2, h2, rfl⟩ := HEB.o k x hx; obtain ⟨a, ea, _, haa, a0⟩ := dL h1; subst ea; obtain ⟨b, eb, _, hbb, b0⟩ := dL h2; subst eb; rw [Nat.mul_one] at haa a0 hbb b0
    have KEEP := zH (show ∀ X, Below V4.heap.size V4 X -> (λ X => X.cell? (a.add k) = some (.int .i64 x) /\ X.cell? (b.add k) = some (.int .i64 x)) X from λ X hX => by
     have hWX := HWV.o.trans (hX.mono HWV.o.size); exact ⟨(hWX.cell (p := a.add k) haa).trans a0, (hWX.cell (p := b.add k) hbb).trans b0⟩)
    clear hx h1 h2 a0 b0; go_wp2_with fail
    refine wp_region_held_drew (S := (λ X => X.cell? (a.add k) = some (.int .i64 x) /\ X.cell? (b.add k) = some (.int .i64 x))) zK ?_ (λ hHeld => ?_)
    . exact KEEP.o _ (Below.refl _ _).drew
    refine aa 0 ?_; refine aa 1 ?_; refine aa 2 ?_; refine aa 3 ?_; refine aa 4 ?_; refine aa 5 ?_; refine aa 6 ?_; refine aa 7 ?_; refine aa 8 ?_; refine wpAnyH_done zK ?_ _; have HD := zH (HB4.o.drew); clear KEEP; go_wp2_with fail
    go_roundg (l.length - (k + 1))
    case measure => have := HK.o; omega
    case rel => exact ⟨k + 1, by omega, by go_num, HD.o⟩
  . go_wp2_with fail
    go_ret; exact ⟨rfl, HB4.o⟩
theorem rj (w : World) : Calls prog 17 #[.slice none 0 0, .slice none 0 0] w (ri w) := by
 go_enter func17, ntmps17
 go_wp2_with fail
 go_loopg [5] 0 (λ g v wr => g = 0 /\ v = .int .i64 0 /\ wr = w)
 case atStart => exact ⟨rfl, rfl, rfl⟩
 case round =>
  obtain ⟨_, rfl, rfl⟩ := hrel; go_wp2_with fail
  go_ret; exact ⟨rfl, Below.refl _ _⟩
theorem pQ {W : World} {A B : Option Addr} {c d : Nat} {l : List (Tx × Int)} (ha : ak W wK (.slice A l.length c) l) (hb : ak W wK (.slice B l.length d) l) (w : World) (hw : Below W.heap.size W w) :
  Calls prog 7 #[.slice A l.length c, .slice B l.length d] w (ri w) := by
 have hll : l.length <= 9223372036854775807 := (by obtain ⟨A', c', e, hc, hm, _⟩ := ha; injection e with e1 e2 e3; subst e3; unfold maxLen at hm; omega); obtain ⟨A', c', e, _, _, hea⟩ := ha; injection e with e1 _ e3; subst e1 e3; obtain ⟨B', d', e, _, _, heb⟩ := hb; injection e with e1 _ e3; subst e1 e3; have HEA := zH hea; have HEB := zH heb; have HW := zH hw; clear hea heb hw; go_enter func7, ntmps7
 go_wp2_with fail
 go_loopg [5] l.length (λ g v wr => ∃ k : Nat, k + g = l.length /\ v = .int .i64 k /\ Below w.heap.size w wr)
 case atStart => exact ⟨0, by omega, rfl, Below.refl _ _⟩
 case round =>
  obtain ⟨k, hkg, rfl, hb4⟩ := hrel; obtain ⟨V4, rfl⟩ := zW wr; have HK := zH hkg; have HB4 := zH hb4; have HWV := zH (HW.o.trans (hb4.mono HW.o.size)); have hkl : k <= l.length := zO; clear hkg hb4; by_cases hlt : k < l.length
  . obtain ⟨x, hx⟩ := zG hlt; obtain ⟨L1, h1, rfl, _⟩ := HEA.o k x hx; obtain ⟨L2, h2, rfl, _⟩ := HEB.o k x hx; obtain ⟨s, x⟩ := x; obtain ⟨a, ea, _, haa, a0, a1, a2⟩ := gz h1; subst ea; obtain ⟨b, eb, _, hbb, b0, b1, b2⟩ := gz h2; subst eb
    have KEEP := zH (show ∀ X, Below V4.heap.size V4 X -> (λ X => X.cell? (a.add (k * 3)) = some (.string (str s)) /\ X.cell? { block := (a.add (k * 3)).block, off := (a.add (k * 3)).off + 1 } = some (.int .i64 x) /\ X.cell? { block := (a.add (k * 3)).block, off := (a.add (k * 3)).off + 2 } = some (.slice none 0 0) /\ X.cell? (b.add (k * 3)) = some (.string (str s)) /\ X.cell? { block := (b.add (k * 3)).block, off := (b.add (k * 3)).off + 1 } = some (.int .i64 x) /\ X.cell? { block := (b.add (k * 3)).block, off := (b.add (k * 3)).off + 2 } = some (.slice none 0 0)) X from λ X hX => by
     have hWX := HWV.o.trans (hX.mono HWV.o.size); exact ⟨(hWX.cell haa).trans a0, (hWX.cell (p := { block := (a.add (k * 3)).block, off := (a.add (k * 3)).off + 1 }) haa).trans a1, (hWX.cell (p := { block := (a.add (k * 3)).block, off := (a.add (k * 3)).off + 2 }) haa).trans a2, (hWX.cell hbb).trans b0, (hWX.cell (p := { block := (b.add (k * 3)).block, off := (b.add (k * 3)).off + 1 }) hbb).trans b1, (hWX.cell (p := { block := (b.add (k * 3)).block, off := (b.add (k * 3)).off + 2 }) hbb).trans b2⟩)
    clear hx h1 h2 a0 a1 a2 b0 b1 b2; go_wp2_with fail
    refine wp_region_held_drew (S := (λ X => X.cell? (a.add (k * 3)) = some (.string (str s)) /\ X.cell? { block := (a.add (k * 3)).block, off := (a.add (k * 3)).off + 1 } = some (.int .i64 x) /\ X.cell? { block := (a.add (k * 3)).block, off := (a.add (k * 3)).off + 2 } = some (.slice none 0 0) /\ X.cell? (b.add (k * 3)) = some (.string (str s)) /\ X.cell? { block := (b.add (k * 3)).block, off := (b.add (k * 3)).off + 1 } = some (.int .i64 x) /\ X.cell? { block := (b.add (k * 3)).block, off := (b.add (k * 3)).off + 2 } = some (.slice none 0 0))) zK ?_ (λ hHeld => ?_)
    . exact KEEP.o _ (Below.refl _ _).drew
    refine aa 0 ?_; refine aa 1 ?_; refine aa 2 ?_; refine aa 3 ?_; refine aa 4 ?_; refine aa 5 ?_; refine aa 6 ?_; refine aa 7 ?_; refine aa 8 ?_; refine aa 9 ?_; refine aa 10 ?_; refine aa 11 ?_; refine aa 12 ?_; refine aa 13 ?_; refine aa 14 ?_; refine aa 15 ?_; refine aa 16 ?_; refine aa 17 ?_; refine aa 18 ?_; refine aa 19 ?_; refine aa 20 ?_; refine aa 21 ?_; refine aa 22 ?_; refine aa 23 ?_; refine aa 24 ?_; refine aa 25 ?_; refine aa 26 ?_; refine aa 27 ?_; refine aa 28 ?_; refine aa 29 ?_; refine aa 30 ?_; refine aa 31 ?_; refine aa 32 ?_; refine aa 33 ?_; refine aa 34 ?_; refine aq 35 zK rfl (λ K hK => ?_); go_simp
    (go_at_call 17
     (with_reducible refine (rj _).mono ?_); rintro e w5 ⟨rfl, hb5⟩; obtain ⟨V5, rfl⟩ := zW w5; have HB5 := zH ((zB V4).drew.trans hb5); clear hb5)
    refine hK.out _ _ (KEEP.o _ ?_) (λ hHeld => ?_)
    . (repeat (first | exact Below.refl _ _ | exact HB5.o | refine Below.drew ?_ | refine Below.alloc ?_ (by simp) _ | refine Below.setCell ?_ (by simp) _))
    clear hK K; try simp only [Act.put, aO, aM, aN]
    refine aa 36 ?_; refine aa 37 ?_; refine wpAnyH_done zK ?_ _; have HD := zH (HB4.o.trans (HB5.o.mono HB4.o.size)); clear KEEP; go_wp2_with fail
    go_roundg (l.length - (k + 1))
    case measure => have := HK.o; omega
    case rel => exact ⟨k + 1, by omega, by go_num, HD.o⟩
  . go_wp2_with fail
    go_ret; exact ⟨rfl, HB4.o⟩
theorem tp {W : World} {C D : Nat} {A1 A2 A3 B1 B2 B3 : Option Addr} {c1 c2 c3 d1 d2 d3 : Nat} {l : List SgE} {m n : List Int} (hf : cV C W (.slice A1 l.length c1) l) (hi : dc C W (.slice A2 m.length c2) m) (ho : dc C W (.slice A3 n.length c3) n)
  (hf' : cV D W (.slice B1 l.length d1) l) (hi' : dc D W (.slice B2 m.length d2) m) (ho' : dc D W (.slice B3 n.length d3) n) (w : World) (hw : Below W.heap.size W w) :
  Calls prog 6 #[.agg #[.slice A1 l.length c1, .slice A2 m.length c2, .slice A3 n.length c3], .agg #[.slice B1 l.length d1, .slice B2 m.length d2, .slice B3 n.length d3]] w (ri w) := by
 have hll : l.length <= 9223372036854775807 := (by obtain ⟨A', c', e, hc, hm, _⟩ := aS.at_ hf; injection e with e1 e2 e3; subst e3; unfold maxLen at hm; omega); have HIN := zH (fq (aS.at_ hi) (aS.at_ hi')); have HOU := zH (fq (aS.at_ ho) (aS.at_ ho')); obtain ⟨A', c', e, _, _, hea⟩ := aS.at_ hf; injection e with e1 _ e3; subst e1 e3; obtain ⟨B', d', e, _, _, heb⟩ := aS.at_ hf'; injection e with e1 _ e3; subst e1 e3; have HEA := zH hea; have HEB := zH heb; have HW := zH hw; have hs0 := hw.size; have HAA := zH ((zA w (.cells #[.slice A1 l.length c1, .slice A2 m.length c2, .slice A3 n.length c3] 38)).alloc (by simp) (.cells #[.slice B1 l.length d1, .slice B2 m.length d2, .slice B3 n.length d3] 38)); have BA := zH (az (o := .cells #[.slice B1 l.length d1, .slice B2 m.length d2, .slice B3 n.length d3] 38) (heap_alloc_new w (.cells #[.slice A1 l.length c1, .slice A2 m.length c2, .slice A3 n.length c3] 38))); have BB := zH (show ((w.alloc (.cells #[.slice A1 l.length c1, .slice A2 m.length c2, .slice A3 n.length c3] 38)).alloc (.cells #[.slice B1 l.length d1, .slice B2 m.length d2, .slice B3 n.length d3] 38)).heap[w.heap.size + 1]? = some (.cells #[.slice B1 l.length d1, .slice B2 m.length d2, .slice B3 n.length d3] 38 (0, 0)) from bh (by simp)); clear hf hi ho hf' hi' ho' hea heb hw; go_enter func6, ntmps6
 have HWA := zH (HW.o.trans (HAA.o.mono hs0)); have hs2 : w.heap.size + 2 <= ((w.alloc (.cells #[.slice A1 l.length c1, .slice A2 m.length c2, .slice A3 n.length c3] 38)).alloc (.cells #[.slice B1 l.length d1, .slice B2 m.length d2, .slice B3 n.length d3] 38)).heap.size := (by simp); obtain ⟨_, _, _⟩ := bo BA.o; obtain ⟨_, _, _⟩ := bo BB.o
 go_wp2_with (first
  | (go_at_call 16; (with_reducible refine (HIN.o _ HWA.o).mono ?_); rintro e w1 ⟨rfl, hb1⟩; obtain ⟨V1, rfl⟩ := zW w1; have HB1 := zH (HAA.o.trans (hb1.mono HAA.o.size)); have HW1 := zH (HW.o.trans (HB1.o.mono hs0)); have BA1 := zH (ao hb1 BA.o); have BB1 := zH (ao hb1 BB.o); obtain ⟨_, _, _⟩ := bo BA1.o; obtain ⟨_, _, _⟩ := bo BB1.o; clear hb1)
  | (go_at_call 16; (with_reducible refine (HOU.o _ HW1.o).mono ?_); rintro e w2 ⟨rfl, hb2⟩; obtain ⟨V2, rfl⟩ := zW w2; have HB2 := zH (HB1.o.trans (hb2.mono HB1.o.size)); have HW2 := zH (HW.o.trans (HB2.o.mono hs0)); have BA2 := zH (ao hb2 BA1.o); have BB2 := zH (ao hb2 BB1.o); obtain ⟨_, _, _⟩ := bo BA2.o; obtain ⟨_, _, _⟩ := bo BB2.o; clear hb2))
 go_loopg [5] l.length (λ g v wr => ∃ k : Nat, k + g = l.length /\ v = .int .i64 k /\ Below V2.heap.size V2 wr)
 case atStart => exact ⟨0, by omega, rfl, Below.refl _ _⟩
 case round =>
  obtain ⟨k, hkg, rfl, hb4⟩ := hrel; obtain ⟨V4, rfl⟩ := zW wr; have HK := zH hkg; have HB24 := zH hb4; have HB4 := zH (HB2.o.trans (hb4.mono HB2.o.size)); have HWV := zH (HW.o.trans (HB4.o.mono hs0)); have BA4 := zH (ao hb4 BA2.o); have BB4 := zH (ao hb4 BB2.o); have hkl : k <= l.length := zO; obtain ⟨_, _, _⟩ := bo BA4.o; obtain ⟨_, _, _⟩ := bo BB4.o; clear hkg hb4; by_cases hlt : k < l.length
  . obtain ⟨x, hx⟩ := zG hlt; obtain ⟨L1, h1, i1, o1, rfl, hi1, ho1⟩ := HEA.o k x hx; obtain ⟨L2, h2, i2, o2, rfl, hi2, ho2⟩ := HEB.o k x hx; obtain ⟨P1, _, e1, rfl, rfl⟩ := aS.shape hi1; obtain ⟨P2, _, e2, rfl, rfl⟩ := aS.shape ho1; obtain ⟨Q1, _, f1, rfl, rfl⟩ := aS.shape hi2; obtain ⟨Q2, _, f2, rfl, rfl⟩ := aS.shape ho2; have HI := zH (fq (aS.at_ hi1) (aS.at_ hi2)); have HO := zH (fq (aS.at_ ho1) (aS.at_ ho2)); obtain ⟨a, ea, _, haa, a0, a1, a2⟩ := gz h1; subst ea; obtain ⟨b, eb, _, hbb, b0, b1, b2⟩ := gz h2; subst eb
    have KEEP := zH (show ∀ X, Below V4.heap.size V4 X -> (λ X => X.cell? ⟨w.heap.size, 0, none⟩ = some (.slice (some a) l.length c1) /\ X.cell? ⟨w.heap.size + 1, 0, none⟩ = some (.slice (some b) l.length d1) /\ X.cell? { block := (a.add (k * 3)).block, off := (a.add (k * 3)).off + 1 } = some (.slice P1 x.ins.length e1) /\ X.cell? { block := (a.add (k * 3)).block, off := (a.add (k * 3)).off + 2 } = some (.slice P2 x.outs.length e2) /\ X.cell? { block := (b.add (k * 3)).block, off := (b.add (k * 3)).off + 1 } = some (.slice Q1 x.ins.length f1) /\ X.cell? { block := (b.add (k * 3)).block, off := (b.add (k * 3)).off + 2 } = some (.slice Q2 x.outs.length f2)) X from λ X hX => by
     have hWX := HWV.o.trans (hX.mono HWV.o.size); exact ⟨(bo (ao hX BA4.o)).1, (bo (ao hX BB4.o)).1, (hWX.cell (p := { block := (a.add (k * 3)).block, off := (a.add (k * 3)).off + 1 }) haa).trans a1, (hWX.cell (p := { block := (a.add (k * 3)).block, off := (a.add (k * 3)).off + 2 }) haa).trans a2, (hWX.cell (p := { block := (b.add (k * 3)).block, off := (b.add (k * 3)).off + 1 }) hbb).trans b1, (hWX.cell (p := { block := (b.add (k * 3)).block, off := (b.add (k * 3)).off + 2 }) hbb).trans b2⟩)
    clear hx h1 h2 a0 a1 a2 b0 b1 b2 hi1 ho1 hi2 ho2; go_wp2_with fail
    refine wp_region_held_drew (S := (λ X => X.cell? ⟨w.heap.size, 0, none⟩ = some (.slice (some a) l.length c1) /\ X.cell? ⟨w.heap.size + 1, 0, none⟩ = some (.slice (some b) l.length d1) /\ X.cell? { block := (a.add (k * 3)).block, off := (a.add (k * 3)).off + 1 } = some (.slice P1 x.ins.length e1) /\ X.cell? { block := (a.add (k * 3)).block, off := (a.add (k * 3)).off + 2 } = some (.slice P2 x.outs.length e2) /\ X.cell? { block := (b.add (k * 3)).block, off := (b.add (k * 3)).off + 1 } = some (.slice Q1 x.ins.length f1) /\ X.cell? { block := (b.add (k * 3)).block, off := (b.add (k * 3)).off + 2 } = some (.slice Q2 x.outs.length f2))) zK ?_ (λ hHeld => ?_)
    . exact KEEP.o _ (Below.refl _ _).drew
    refine aa 0 ?_; refine aa 1 ?_; refine aa 2 ?_; refine aa 3 ?_; refine aa 4 ?_; refine aa 5 ?_; refine aa 6 ?_; refine aa 7 ?_; refine aa 8 ?_; refine aa 9 ?_; refine aa 10 ?_; refine aa 11 ?_; refine aq 12 zK rfl (λ K hK => ?_); go_simp
    (go_at_call 16
     (with_reducible refine (HI.o _ HWV.o.drew).mono ?_); rintro e w5 ⟨rfl, hb5⟩; obtain ⟨V5, rfl⟩ := zW w5; have HB5 := zH ((zB V4).drew.trans hb5); have HW5 := zH (HWV.o.trans (HB5.o.mono HWV.o.size)); clear hb5)
    refine hK.out _ _ (KEEP.o _ ?_) (λ hHeld => ?_)
    . (repeat (first | exact Below.refl _ _ | exact HB5.o | refine Below.drew ?_ | refine Below.alloc ?_ (by simp) _ | refine Below.setCell ?_ (by simp) _))
    clear hK K; try simp only [Act.put, aO, aM, aN]
    refine aa 13 ?_; refine aa 14 ?_; refine aa 15 ?_; refine aa 16 ?_; refine aa 17 ?_; refine aa 18 ?_; refine aa 19 ?_; refine aa 20 ?_; refine aa 21 ?_; refine aa 22 ?_; refine aa 23 ?_; refine aa 24 ?_; refine aa 25 ?_; refine aa 26 ?_; refine aq 27 zK rfl (λ K hK => ?_); go_simp
    (go_at_call 16
     (with_reducible refine (HO.o _ HW5.o).mono ?_); rintro e w6 ⟨rfl, hb6⟩; obtain ⟨V6, rfl⟩ := zW w6; have HB6 := zH (HB5.o.trans (hb6.mono HB5.o.size)); clear hb6)
    refine hK.out _ _ (KEEP.o _ ?_) (λ hHeld => ?_)
    . (repeat (first | exact Below.refl _ _ | exact HB6.o | refine Below.drew ?_ | refine Below.alloc ?_ (by simp) _ | refine Below.setCell ?_ (by simp) _))
    clear hK K; try simp only [Act.put, aO, aM, aN]
    refine aa 28 ?_; refine aa 29 ?_; refine wpAnyH_done zK ?_ _; have HD := zH (HB24.o.trans (HB6.o.mono HB24.o.size)); clear KEEP; go_wp2_with fail
    go_roundg (l.length - (k + 1))
    case measure => have := HK.o; omega
    case rel => exact ⟨k + 1, by omega, by go_num, HD.o⟩
  . go_wp2_with fail
    go_ret; exact ⟨rfl, HB4.o⟩
end Go.Proofs.YtiholfmmphcbeaaGreatDoor
