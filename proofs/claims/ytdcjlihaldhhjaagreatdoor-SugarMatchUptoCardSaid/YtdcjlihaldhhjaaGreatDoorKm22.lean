import Derived.Laws.ResultCell
import Derived.Test.YtdcjlihaldhhjaaGreatDoorKm21
set_option maxHeartbeats 8000000
set_option maxRecDepth 100000
namespace Go.Proofs.YtdcjlihaldhhjaaGreatDoor
open _root_.Go.Proofs.Tryz
open Go.RowKit
theorem cu {fn : Func} {p u : Tmp} {ty : TypeId} (h : fn.results = #[.cell p ty, .tmp u]) (tmps : Array Value) (w : World) (g : Nat) {cs b : Value}
  (hp : tmps.getD p undef = .pointer (some ⟨g, 0, none⟩)) (hb : tmps.getD u undef = b) (hl : (loadVar ty ⟨g, 0, none⟩).run prog w = .ok cs w) :
  (results fn tmps).run prog w = .ok (.tuple #[cs, b]) w := by
 rw [results_cell_tmp h, hp, hb]; simp [asAddr, hl, Result.andThen]
theorem ic {w : World} {N : Nat} {x0 x1 x2 x3 x4 : Value} (hg : w.heap[N]? = some (.cells #[x0, x1, x2, x3, x4] 25 (0, 0))) : (loadVar 25 ⟨N, 0, none⟩).run prog w = .ok (.agg #[x0, x1, x2, x3, x4]) w :=
 run_loadVar_row w N 25 25 _ (0, 0) _ hg underlying25 rfl gR
theorem vS (w0 : World) : Cn w0 36 #[] (λ _ => none) := by
 refine ⟨λ args W => by kernel_rfl, λ y L h hs _ w hb => ?_⟩; obtain ⟨o0, s0, n0, A0, m0, k0, B0, j0, l0, rfl⟩ := h.shape; have R0 := zH (aB (w := w.alloc (.cells #[.int .i64 o0, .string s0, .int .i64 n0, .slice A0 m0 k0, .slice B0 j0 l0] 25)) (o := .cells #[.int .i64 0, .string ⟨#[]⟩, .int .i64 0, .slice none 0 0, .slice none 0 0] 25) (n := w.heap.size + 1) (by simp)); obtain ⟨r0, r1, r2, r3, r4⟩ := aN R0.o; have f0 := ak R0.o 0; have f1 := ak R0.o 1; have f2 := ak R0.o 2; have f3 := ak R0.o 3; have f4 := ak R0.o 4; clear h hs hb; go_enter func36, ntmps36
 go_wp2_with fail
 exact bodyPost_ret (cu results36 _ _ _ rfl rfl (ic R0.o)) rfl ⟨((Below.refl _ _).alloc (Nat.le_refl _) _).alloc (by simp) _, rfl⟩
theorem pb {tmps : Array Value} {w : World} {N : Nat} {x0 x1 x2 x3 x4 : Value} (hp : tmps.getD 2 undef = .pointer (some ⟨N, 0, none⟩)) (hg : w.heap[N]? = some (.cells #[x0, x1, x2, x3, x4] 25 (0, 0))) :
  (results f15 tmps).run prog w = .ok (.agg #[x0, x1, x2, x3, x4]) w :=
 results_cell_row results15 tmps w N 25 _ (0, 0) _ hp hg underlying25 rfl gR
theorem vR {w0 : World} {L : List Value} {x : Ex} (h : aT w0 L x) (hs : eG x) (w : World) (hb : Below w0.heap.size w0 w) : Calls prog 15 #[.agg L.toArray] w (dZ x w) := by
 have HR := zH (mu (vS w0) h hs); rw [sZ] at HR; obtain ⟨o0, s0, n0, A0, m0, k0, B0, j0, l0, rfl⟩ := h.shape; have HB := zH hb; have hsz0 := hb.size; have b2 := (zA w (.cells #[.int .i64 o0, .string s0, .int .i64 n0, .slice A0 m0 k0, .slice B0 j0 l0] 25)).alloc (by simp) (.cells #[.int .i64 0, .string ⟨#[]⟩, .int .i64 0, .slice none 0 0, .slice none 0 0] 25); have HB2 := zH b2; have R0 := zH (aB (w := w.alloc (.cells #[.int .i64 o0, .string s0, .int .i64 n0, .slice A0 m0 k0, .slice B0 j0 l0] 25)) (o := .cells #[.int .i64 0, .string ⟨#[]⟩, .int .i64 0, .slice none 0 0, .slice none 0 0] 25) (n := w.heap.size + 1) (by simp)); clear h hs hb b2; go_enter func15, ntmps15
 go_wp2_with (first
  | (go_at_call 13; (with_reducible refine (HR.o _ (HB.o.trans (HB2.o.mono hsz0))).mono ?_); rintro e w1 ⟨hb1, M, rfl, hM⟩; obtain ⟨V1, rfl⟩ := zW w1; have hz1 := hb1.size; simp at hz1; obtain ⟨o1, s1, n1, A1, m1, k1, B1, j1, l1, rfl⟩ := hM.shape; have HM := zH hM; have HB1 := zH hb1; have R1 := zH (ag hb1 R0.o); obtain ⟨r0, r1, r2, r3, r4⟩ := aN R1.o; have f0 := ak R1.o 0; have f1 := ak R1.o 1; have f2 := ak R1.o 2; have f3 := ak R1.o 3; have f4 := ak R1.o 4; clear hb1 hM))
 refine bodyPost_ret (pb rfl (bZ _ _ _ _ _ R1.o)) rfl ⟨bJ (HB2.o.trans (HB1.o.mono HB2.o.size)) zO _ _ _ _ _, [.int .i64 o1, .string s1, .int .i64 n1, .slice A1 m1 k1, .slice B1 j1 l1], rfl, ?_⟩; exact HM.o.sub (Sub.trans (aH.sub (c8 (aH.refl _ V1) (.inl (by simp)) _ _ _ _ _)) (bo (by simp; omega) _))
theorem bh {w : World} {K : Nat} {a : Addr} (h : a.block ≠ K) (x y z u v : Value) : (((((w.setCell ⟨K, 0, none⟩ x).setCell ⟨K, 1, none⟩ y).setCell ⟨K, 2, none⟩ z).setCell ⟨K, 3, none⟩ u).setCell ⟨K, 4, none⟩ v).cell? a = w.cell? a := by
 have h1 : ∀ (b : Addr) (w : World) (x : Value), b.block = K -> (w.setCell b x).cell? a = w.cell? a := λ b w x hb => World.cell?_of_block (Below.heap_setCell _ _ _ _ (by rw [hb]; exact h)); rw [h1 _ _ _ rfl, h1 _ _ _ rfl, h1 _ _ _ rfl, h1 _ _ _ rfl, h1 _ _ _ rfl]
theorem eS {w : World} {K M : Nat} (h : M ≠ K) (x y z u v : Value) : (((((w.setCell ⟨K, 0, none⟩ x).setCell ⟨K, 1, none⟩ y).setCell ⟨K, 2, none⟩ z).setCell ⟨K, 3, none⟩ u).setCell ⟨K, 4, none⟩ v).heap[M]? = w.heap[M]? := by
 rw [Below.heap_setCell _ _ _ _ h, Below.heap_setCell _ _ _ _ h, Below.heap_setCell _ _ _ _ h, Below.heap_setCell _ _ _ _ h, Below.heap_setCell _ _ _ _ h]
theorem jN {W : World} {B C2 C5 : Nat} {x con : Tx} {y : Ex} {M : List Value} (hx : x.length <= maxLen) (hcon : con.length <= maxLen) (hM : aT (dB (B + 2) W) M y) (h2 : W.heap[C2]? = some (.cells #[.string (str con)] 9 (0, 0))) (h5 : W.heap[C5]? = some (.cells M.toArray 25 (0, 0)))
  (g2 : B + 2 <= C2) (g5 : B + 2 <= C5) (a b c d e : Value) : aT (dB B (((((W.setCell ⟨B + 1, 0, none⟩ a).setCell ⟨B + 1, 1, none⟩ b).setCell ⟨B + 1, 2, none⟩ c).setCell ⟨B + 1, 3, none⟩ d).setCell ⟨B + 1, 4, none⟩ e)) [.int .i64 11, .string (str x), .int .i64 0, .slice (some ⟨C2, 0, none⟩) 1 1, .slice (some ⟨C5, 0, none⟩) 1 1] (.mk 11 x 0 [con] [y]) :=
 gp (cp zO) (cp zO) hx (oE ((ny zO).trans ((eS zO _ _ _ _ _).trans h2)) ⟨rfl, hcon⟩ rfl)
  (oE ((ny zO).trans ((eS zO _ _ _ _ _).trans h5)) (hM.sub (Sub.trans (aH.sub (c8 (aH.refl _ W) (.inl zO) _ _ _ _ _)) (bo zO _))) (by simp))
theorem ab {w : World} {n : Nat} {o x : Obj} (h : w.heap[n]? = some x) : (w.alloc o).heap[n]? = some x := aQ h
theorem qa {w : World} {N : Nat} {T : TypeId} {v0 : Value} (h : w.heap[N]? = some (.cells #[v0] T (0, 0))) : w.cell? ⟨N, 0, none⟩ = some v0 := by
 rw [cell_of_row _ _ _ _ _ _ h]; rfl
theorem sL {w0 : World} {K1 K2 : Nat} {x con : Tx} (hx : x.length <= maxLen) (hcon : con.length <= maxLen) (h1 : w0.heap[K1]? = some (.cells #[.string (str x)] 9 (0, 0))) (h2 : w0.heap[K2]? = some (.cells #[.string (str con)] 9 (0, 0)))
  {y : Ex} {L : List Value} (h : aT w0 L y) (hs : eG y) (hy : ∃ s n cs ks, y = .mk 4 s n cs ks) (w : World) (hb : Below w0.heap.size w0 w) :
  Calls prog 14 #[.agg L.toArray, .pointer (some ⟨K1, 0, none⟩), .pointer (some ⟨K2, 0, none⟩)] w (lC (some (.mk 11 x 0 [con] [y])) w) := by
 have HC := zH (vR h hs); have hop : ∃ s0 n0 A0 m0 k0 B0 j0 l0, L = [.int .i64 4, .string s0, .int .i64 n0, .slice A0 m0 k0, .slice B0 j0 l0] := by
  obtain ⟨s, n, cs, ks, rfl⟩ := hy; cases h with
  | mk _ _ _ hcs _ _ _ _ =>
    obtain ⟨A, c, rfl, _⟩ := hcs; exact ⟨_, _, _, _, _, _, _, _, rfl⟩
 obtain ⟨s0, n0, A0, m0, k0, B0, j0, l0, rfl⟩ := hop; have HB := zH hb; have hsz0 := hb.size; have X1 := zH (ag hb h1); have X2 := zH (ag hb h2); have b2 := (zA w (.cells #[.int .i64 4, .string s0, .int .i64 n0, .slice A0 m0 k0, .slice B0 j0 l0] 25)).alloc (by simp) (.cells #[.int .i64 0, .string ⟨#[]⟩, .int .i64 0, .slice none 0 0, .slice none 0 0] 25); have HB2 := zH b2; have E0 := zH (aQ (o := .cells #[.int .i64 0, .string ⟨#[]⟩, .int .i64 0, .slice none 0 0, .slice none 0 0] 25) (heap_alloc_new w (.cells #[.int .i64 4, .string s0, .int .i64 n0, .slice A0 m0 k0, .slice B0 j0 l0] 25))); have R0 := zH (aB (w := w.alloc (.cells #[.int .i64 4, .string s0, .int .i64 n0, .slice A0 m0 k0, .slice B0 j0 l0] 25)) (o := .cells #[.int .i64 0, .string ⟨#[]⟩, .int .i64 0, .slice none 0 0, .slice none 0 0] 25) (n := w.heap.size + 1) (by simp)); have x1 := qa (ab (o := .cells #[.int .i64 0, .string ⟨#[]⟩, .int .i64 0, .slice none 0 0, .slice none 0 0] 25) (ab (o := .cells #[.int .i64 4, .string s0, .int .i64 n0, .slice A0 m0 k0, .slice B0 j0 l0] 25) X1.o)); have x2 := qa (ab (o := .cells #[.int .i64 0, .string ⟨#[]⟩, .int .i64 0, .slice none 0 0, .slice none 0 0] 25) (ab (o := .cells #[.int .i64 4, .string s0, .int .i64 n0, .slice A0 m0 k0, .slice B0 j0 l0] 25) X2.o)); obtain ⟨p0, p1, p2, p3, p4⟩ := aN E0.o; have q1 := ar X1.o; have q2 := ar X2.o; have e1 : K1 ≠ w.heap.size + 1 := zO; have e2 : K2 ≠ w.heap.size + 1 := zO; have e3 : w.heap.size ≠ w.heap.size + 1 := zO; clear h hs hy hb b2 h1 h2; go_enter func14, ntmps14
 go_wp2_with fail
 refine wp_region_held_drew (S := (λ W => W.cell? ⟨K1, 0, none⟩ = some (.string (str x)) /\ W.cell? ⟨K2, 0, none⟩ = some (.string (str con)) /\ W.cell? ⟨w.heap.size, 0, none⟩ = some (.int .i64 4) /\ W.cell? ⟨w.heap.size, 1, none⟩ = some (.string s0) /\ W.cell? ⟨w.heap.size, 2, none⟩ = some (.int .i64 n0) /\ W.cell? ⟨w.heap.size, 3, none⟩ = some (.slice A0 m0 k0) /\ W.cell? ⟨w.heap.size, 4, none⟩ = some (.slice B0 j0 l0))) zK ?_ (λ hHeld => ?_)
 . (try dsimp only); go_keep
 refine aa 0 ?_; refine aa 1 ?_; refine aa 3 ?_; refine wpAnyH_ready (rs := [2, 4]) zK (by simp) (bf 2 rfl (λ K hK => ?_) (bf 4 rfl (λ K hK => ?_) AllReadyH.nil))
 . go_simp
   refine hK.out _ _ ?_ (λ hHeld => ?_)
   . (try dsimp only); go_keep
   clear hK K; try simp only [Act.put, aK, aI, aJ]
   refine au 4 zK rfl (λ K hK => ?_); go_simp
   (go_at_call 15
    (with_reducible refine (HC.o _ (HB.o.trans ((((HB2.o.alloc HB2.o.size _).drew).mono hsz0)))).mono ?_); rintro e w1 ⟨hb1, M, rfl, hM⟩; obtain ⟨V1, rfl⟩ := zW w1; have hz1 := hb1.size; simp [World.drew] at hz1; obtain ⟨o1, s1, n1, A1, m1, k1, A2, m2, k2, rfl⟩ := hM.shape; have HM := zH hM; have HB1 := zH hb1; have Y1 := zH (ag hb1 (ab (o := .cells #[.string (str con)] 9) (ab (o := .cells #[.int .i64 0, .string ⟨#[]⟩, .int .i64 0, .slice none 0 0, .slice none 0 0] 25) (ab (o := .cells #[.int .i64 4, .string s0, .int .i64 n0, .slice A0 m0 k0, .slice B0 j0 l0] 25) X1.o)))); have Y2 := zH (ag hb1 (ab (o := .cells #[.string (str con)] 9) (ab (o := .cells #[.int .i64 0, .string ⟨#[]⟩, .int .i64 0, .slice none 0 0, .slice none 0 0] 25) (ab (o := .cells #[.int .i64 4, .string s0, .int .i64 n0, .slice A0 m0 k0, .slice B0 j0 l0] 25) X2.o)))); have YE := zH (ag hb1 (ab (o := .cells #[.string (str con)] 9) E0.o)); have YR := zH (ag hb1 (ab (o := .cells #[.string (str con)] 9) R0.o)); have y1 := qa Y1.o; have y2 := qa Y2.o; obtain ⟨u0, u1, u2, u3, u4⟩ := aN YE.o; clear hb1 hM)
   refine hK.out _ _ ?_ (λ hHeld => ?_)
   . (try dsimp only); go_keep
   clear hK K; try simp only [Act.put, aK, aI, aJ]
   refine au 5 zK rfl (λ K hK => ?_); go_simp
   refine hK.out _ _ ?_ (λ hHeld => ?_)
   . (try dsimp only); go_keep
   clear hK K; try simp only [Act.put, aK, aI, aJ]
   have FB := zH ((((HB2.o.alloc HB2.o.size (.cells #[.string (str con)] 9)).drew).trans (HB1.o.mono (by simp [World.drew]; omega))).alloc zO (.cells #[.int .i64 o1, .string s1, .int .i64 n1, .slice A1 m1 k1, .slice A2 m2 k2] 25)); have F1 := zH (ab (o := .cells #[.int .i64 o1, .string s1, .int .i64 n1, .slice A1 m1 k1, .slice A2 m2 k2] 25) (ag HB1.o (show (((w.alloc (.cells #[.int .i64 4, .string s0, .int .i64 n0, .slice A0 m0 k0, .slice B0 j0 l0] 25)).alloc (.cells #[.int .i64 0, .string ⟨#[]⟩, .int .i64 0, .slice none 0 0, .slice none 0 0] 25)).alloc (.cells #[.string (str con)] 9)).drew.heap[w.heap.size + 1 + 1]? = _ from aB (by simp)))); have F2 := zH (heap_alloc_new V1 (.cells #[.int .i64 o1, .string s1, .int .i64 n1, .slice A1 m1 k1, .slice A2 m2 k2] 25)); have F3 := zH (ab (o := .cells #[.int .i64 o1, .string s1, .int .i64 n1, .slice A1 m1 k1, .slice A2 m2 k2] 25) YR.o); have FM := zH (HM.o.sub (Sub.trans (bo (B' := w.heap.size + 2) (by simp [World.drew]) V1) (aH.sub ((aH.refl _ V1).alloc (.cells #[.int .i64 o1, .string s1, .int .i64 n1, .slice A1 m1 k1, .slice A2 m2 k2] 25))))); have g2 : w.heap.size + 2 <= w.heap.size + 1 + 1 := zO; have g5 : w.heap.size + 2 <= V1.heap.size := zO; obtain ⟨r0, r1, r2, r3, r4⟩ := aN F3.o; have f0 := ak F3.o 0; have f1 := ak F3.o 1; have f2 := ak F3.o 2; have f3 := ak F3.o 3; have f4 := ak F3.o 4; refine aa 6 ?_; refine au 7 zK rfl (λ K hK => ?_); go_simp
   refine hK.out _ _ ⟨(bh e1 _ _ _ _ _).trans hHeld.1, (bh e2 _ _ _ _ _).trans hHeld.2.1, (bh e3 _ _ _ _ _).trans hHeld.2.2.1, (bh e3 _ _ _ _ _).trans hHeld.2.2.2.1, (bh e3 _ _ _ _ _).trans hHeld.2.2.2.2.1, (bh e3 _ _ _ _ _).trans hHeld.2.2.2.2.2.1, (bh e3 _ _ _ _ _).trans hHeld.2.2.2.2.2.2⟩ (λ hHeld => ?_); clear hK K; try simp only [Act.put, aK, aI, aJ]
   refine aa 8 ?_; refine wpAnyH_done zK ?_ _; go_wp2_with fail
   refine bodyPost_ret (cu results14 _ _ _ rfl rfl (ic (bZ _ _ _ _ _ F3.o))) rfl ⟨bJ FB.o zO _ _ _ _ _, [.int .i64 11, .string (str x), .int .i64 0, _, _], rfl, ?_⟩; exact jN hx hcon FM.o F1.o F2.o g2 g5 _ _ _ _ _
 . go_simp
   (go_at_call 15
    (with_reducible refine (HC.o _ (HB.o.trans ((((HB2.o).drew).mono hsz0)))).mono ?_); rintro e w1 ⟨hb1, M, rfl, hM⟩; obtain ⟨V1, rfl⟩ := zW w1; have hz1 := hb1.size; simp [World.drew] at hz1; obtain ⟨o1, s1, n1, A1, m1, k1, A2, m2, k2, rfl⟩ := hM.shape; have HM := zH hM; have HB1 := zH hb1; have Y1 := zH (ag hb1 (ab (o := .cells #[.int .i64 0, .string ⟨#[]⟩, .int .i64 0, .slice none 0 0, .slice none 0 0] 25) (ab (o := .cells #[.int .i64 4, .string s0, .int .i64 n0, .slice A0 m0 k0, .slice B0 j0 l0] 25) X1.o))); have Y2 := zH (ag hb1 (ab (o := .cells #[.int .i64 0, .string ⟨#[]⟩, .int .i64 0, .slice none 0 0, .slice none 0 0] 25) (ab (o := .cells #[.int .i64 4, .string s0, .int .i64 n0, .slice A0 m0 k0, .slice B0 j0 l0] 25) X2.o))); have YE := zH (ag hb1 E0.o); have YR := zH (ag hb1 R0.o); have y1 := qa Y1.o; have y2 := qa Y2.o; obtain ⟨u0, u1, u2, u3, u4⟩ := aN YE.o; clear hb1 hM)
   refine hK.out _ _ ?_ (λ hHeld => ?_)
   . (try dsimp only); go_keep
   clear hK K; try simp only [Act.put, aK, aI, aJ]
   refine wpAnyH_ready (rs := [2, 5]) zK (by simp) (bf 2 rfl (λ K hK => ?_) (bf 5 rfl (λ K hK => ?_) AllReadyH.nil))
   . go_simp
     refine hK.out _ _ ?_ (λ hHeld => ?_)
     . (try dsimp only); go_keep
     clear hK K; try simp only [Act.put, aK, aI, aJ]
     refine au 5 zK rfl (λ K hK => ?_); go_simp
     refine hK.out _ _ ?_ (λ hHeld => ?_)
     . (try dsimp only); go_keep
     clear hK K; try simp only [Act.put, aK, aI, aJ]
     have FB := zH (((((HB2.o.drew).trans (HB1.o.mono (by simp [World.drew]; omega)))).alloc zO (.cells #[.string (str con)] 9)).alloc (by simp; omega) (.cells #[.int .i64 o1, .string s1, .int .i64 n1, .slice A1 m1 k1, .slice A2 m2 k2] 25)); have F1 := zH (ab (o := .cells #[.int .i64 o1, .string s1, .int .i64 n1, .slice A1 m1 k1, .slice A2 m2 k2] 25) (heap_alloc_new V1 (.cells #[.string (str con)] 9))); have F2 := zH (aB (w := V1.alloc (.cells #[.string (str con)] 9)) (o := .cells #[.int .i64 o1, .string s1, .int .i64 n1, .slice A1 m1 k1, .slice A2 m2 k2] 25) (n := V1.heap.size + 1) (by simp)); have F3 := zH (ab (o := .cells #[.int .i64 o1, .string s1, .int .i64 n1, .slice A1 m1 k1, .slice A2 m2 k2] 25) (ab (o := .cells #[.string (str con)] 9) YR.o)); have FM := zH (HM.o.sub (Sub.trans (bo (B' := w.heap.size + 2) (by simp [World.drew]) V1) (aH.sub (((aH.refl _ V1).alloc (.cells #[.string (str con)] 9)).alloc (.cells #[.int .i64 o1, .string s1, .int .i64 n1, .slice A1 m1 k1, .slice A2 m2 k2] 25))))); have g2 : w.heap.size + 2 <= V1.heap.size := zO; have g5 : w.heap.size + 2 <= V1.heap.size + 1 := zO; obtain ⟨r0, r1, r2, r3, r4⟩ := aN F3.o; have f0 := ak F3.o 0; have f1 := ak F3.o 1; have f2 := ak F3.o 2; have f3 := ak F3.o 3; have f4 := ak F3.o 4; refine aa 6 ?_; refine au 7 zK rfl (λ K hK => ?_); go_simp
     refine hK.out _ _ ⟨(bh e1 _ _ _ _ _).trans hHeld.1, (bh e2 _ _ _ _ _).trans hHeld.2.1, (bh e3 _ _ _ _ _).trans hHeld.2.2.1, (bh e3 _ _ _ _ _).trans hHeld.2.2.2.1, (bh e3 _ _ _ _ _).trans hHeld.2.2.2.2.1, (bh e3 _ _ _ _ _).trans hHeld.2.2.2.2.2.1, (bh e3 _ _ _ _ _).trans hHeld.2.2.2.2.2.2⟩ (λ hHeld => ?_); clear hK K; try simp only [Act.put, aK, aI, aJ]
     refine aa 8 ?_; refine wpAnyH_done zK ?_ _; go_wp2_with fail
     refine bodyPost_ret (cu results14 _ _ _ rfl rfl (ic (bZ _ _ _ _ _ F3.o))) rfl ⟨bJ FB.o zO _ _ _ _ _, [.int .i64 11, .string (str x), .int .i64 0, _, _], rfl, ?_⟩; exact jN hx hcon FM.o F1.o F2.o g2 g5 _ _ _ _ _
   . go_simp
     refine hK.out _ _ ?_ (λ hHeld => ?_)
     . (try dsimp only); go_keep
     clear hK K; try simp only [Act.put, aK, aI, aJ]
     refine au 2 zK rfl (λ K hK => ?_); go_simp
     refine hK.out _ _ ?_ (λ hHeld => ?_)
     . (try dsimp only); go_keep
     clear hK K; try simp only [Act.put, aK, aI, aJ]
     have FB := zH (((((HB2.o.drew).trans (HB1.o.mono (by simp [World.drew]; omega)))).alloc zO (.cells #[.int .i64 o1, .string s1, .int .i64 n1, .slice A1 m1 k1, .slice A2 m2 k2] 25)).alloc (by simp; omega) (.cells #[.string (str con)] 9)); have F1 := zH (aB (w := V1.alloc (.cells #[.int .i64 o1, .string s1, .int .i64 n1, .slice A1 m1 k1, .slice A2 m2 k2] 25)) (o := .cells #[.string (str con)] 9) (n := V1.heap.size + 1) (by simp)); have F2 := zH (ab (o := .cells #[.string (str con)] 9) (heap_alloc_new V1 (.cells #[.int .i64 o1, .string s1, .int .i64 n1, .slice A1 m1 k1, .slice A2 m2 k2] 25))); have F3 := zH (ab (o := .cells #[.string (str con)] 9) (ab (o := .cells #[.int .i64 o1, .string s1, .int .i64 n1, .slice A1 m1 k1, .slice A2 m2 k2] 25) YR.o)); have FM := zH (HM.o.sub (Sub.trans (bo (B' := w.heap.size + 2) (by simp [World.drew]) V1) (aH.sub (((aH.refl _ V1).alloc (.cells #[.int .i64 o1, .string s1, .int .i64 n1, .slice A1 m1 k1, .slice A2 m2 k2] 25)).alloc (.cells #[.string (str con)] 9))))); have g2 : w.heap.size + 2 <= V1.heap.size + 1 := zO; have g5 : w.heap.size + 2 <= V1.heap.size := zO; obtain ⟨r0, r1, r2, r3, r4⟩ := aN F3.o; have f0 := ak F3.o 0; have f1 := ak F3.o 1; have f2 := ak F3.o 2; have f3 := ak F3.o 3; have f4 := ak F3.o 4; refine aa 6 ?_; refine au 7 zK rfl (λ K hK => ?_); go_simp
     refine hK.out _ _ ⟨(bh e1 _ _ _ _ _).trans hHeld.1, (bh e2 _ _ _ _ _).trans hHeld.2.1, (bh e3 _ _ _ _ _).trans hHeld.2.2.1, (bh e3 _ _ _ _ _).trans hHeld.2.2.2.1, (bh e3 _ _ _ _ _).trans hHeld.2.2.2.2.1, (bh e3 _ _ _ _ _).trans hHeld.2.2.2.2.2.1, (bh e3 _ _ _ _ _).trans hHeld.2.2.2.2.2.2⟩ (λ hHeld => ?_); clear hK K; try simp only [Act.put, aK, aI, aJ]
     refine aa 8 ?_; refine wpAnyH_done zK ?_ _; go_wp2_with fail
     refine bodyPost_ret (cu results14 _ _ _ rfl rfl (ic (bZ _ _ _ _ _ F3.o))) rfl ⟨bJ FB.o zO _ _ _ _ _, [.int .i64 11, .string (str x), .int .i64 0, _, _], rfl, ?_⟩; exact jN hx hcon FM.o F1.o F2.o g2 g5 _ _ _ _ _
theorem uL {w0 : World} {p q : Value} {o0 : Int} {y : Ex} {L : List Value} (h : aT w0 L y) (hy : ∃ s n cs ks, y = .mk o0 s n cs ks) (ho : ¬ o0 = 4) (w : World) :
  Calls prog 14 #[.agg L.toArray, p, q] w (lC none w) := by
 have hop : ∃ s0 n0 A0 m0 k0 B0 j0 l0, L = [.int .i64 o0, .string s0, .int .i64 n0, .slice A0 m0 k0, .slice B0 j0 l0] := by
  obtain ⟨s, n, cs, ks, rfl⟩ := hy; cases h with
  | mk _ _ _ hcs _ _ _ _ =>
    obtain ⟨A, c, rfl, _⟩ := hcs; exact ⟨_, _, _, _, _, _, _, _, rfl⟩
 obtain ⟨s0, n0, A0, m0, k0, B0, j0, l0, rfl⟩ := hop; have R0 := zH (aB (w := w.alloc (.cells #[.int .i64 o0, .string s0, .int .i64 n0, .slice A0 m0 k0, .slice B0 j0 l0] 25)) (o := .cells #[.int .i64 0, .string ⟨#[]⟩, .int .i64 0, .slice none 0 0, .slice none 0 0] 25) (n := w.heap.size + 1) (by simp)); obtain ⟨r0, r1, r2, r3, r4⟩ := aN R0.o; have f0 := ak R0.o 0; have f1 := ak R0.o 1; have f2 := ak R0.o 2; have f3 := ak R0.o 3; have f4 := ak R0.o 4; have hd : decide (o0 = 4) = false := (by simpa using ho); clear h hy; go_enter func14, ntmps14
 go_wp2_with fail
 refine bodyPost_ret (cu results14 _ _ _ rfl rfl (ic R0.o)) rfl ⟨((Below.refl _ _).alloc (Nat.le_refl _) _).alloc (by simp) _, rfl⟩
theorem uK {w0 : World} {K1 K2 : Nat} {x con : Tx} (hx : x.length <= maxLen) (hcon : con.length <= maxLen) (h1 : w0.heap[K1]? = some (.cells #[.string (str x)] 9 (0, 0))) (h2 : w0.heap[K2]? = some (.cells #[.string (str con)] 9 (0, 0))) :
  Cn w0 14 #[.pointer (some ⟨K1, 0, none⟩), .pointer (some ⟨K2, 0, none⟩)] (nY x con) := by
 refine ⟨λ args W => by kernel_rfl, λ y L h hs _ w hb => ?_⟩; obtain ⟨op, s, n, cs, ks⟩ := y; by_cases ho : op = 4
 . subst ho; have : nY x con (.mk 4 s n cs ks) = some (.mk 11 x 0 [con] [.mk 4 s n cs ks]) := by simp [nY]
   rw [this]; exact sL hx hcon h1 h2 h hs ⟨s, n, cs, ks, rfl⟩ w hb
 . have : nY x con (.mk op s n cs ks) = none := by simp [nY, ho]
   rw [this]; exact uL h ⟨s, n, cs, ks, rfl⟩ ho w
theorem nX {tmps : Array Value} {w : World} {N : Nat} {x0 x1 x2 x3 x4 : Value} (hp : tmps.getD 6 undef = .pointer (some ⟨N, 0, none⟩)) (hg : w.heap[N]? = some (.cells #[x0, x1, x2, x3, x4] 25 (0, 0))) :
  (results f6 tmps).run prog w = .ok (.agg #[x0, x1, x2, x3, x4]) w :=
 results_cell_row results6 tmps w N 25 _ (0, 0) _ hp hg underlying25 rfl gR
theorem jO {w0 : World} {L : List Value} {y : Ex} {x con : Tx} (hx : x.length <= maxLen) (hcon : con.length <= maxLen) (h : aT w0 L y) (hs : eG y) (w : World) (hb : Below w0.heap.size w0 w) :
  Calls prog 6 #[.agg L.toArray, .string (str x), .string (str con)] w (dZ (fw x con y) w) := by
 have h' := h.under hb; obtain ⟨o0, s0, n0, A0, m0, k0, B0, j0, l0, rfl⟩ := h.shape; have b4 := (((zA w (.cells #[.int .i64 o0, .string s0, .int .i64 n0, .slice A0 m0 k0, .slice B0 j0 l0] 25)).alloc (by simp) (.cells #[.string (str x)] 9)).alloc (by simp; omega) (.cells #[.string (str con)] 9)).alloc (by simp; omega) (.cells #[.int .i64 0, .string ⟨#[]⟩, .int .i64 0, .slice none 0 0, .slice none 0 0] 25); have HB4 := zH b4; have X1 := zH (ab (o := .cells #[.int .i64 0, .string ⟨#[]⟩, .int .i64 0, .slice none 0 0, .slice none 0 0] 25) (ab (o := .cells #[.string (str con)] 9) (aB (w := w.alloc (.cells #[.int .i64 o0, .string s0, .int .i64 n0, .slice A0 m0 k0, .slice B0 j0 l0] 25)) (o := .cells #[.string (str x)] 9) (n := w.heap.size + 1) (by simp)))); have X2 := zH (ab (o := .cells #[.int .i64 0, .string ⟨#[]⟩, .int .i64 0, .slice none 0 0, .slice none 0 0] 25) (aB (w := (w.alloc (.cells #[.int .i64 o0, .string s0, .int .i64 n0, .slice A0 m0 k0, .slice B0 j0 l0] 25)).alloc (.cells #[.string (str x)] 9)) (o := .cells #[.string (str con)] 9) (n := w.heap.size + 1 + 1) (by simp))); have R0 := zH (aB (w := ((w.alloc (.cells #[.int .i64 o0, .string s0, .int .i64 n0, .slice A0 m0 k0, .slice B0 j0 l0] 25)).alloc (.cells #[.string (str x)] 9)).alloc (.cells #[.string (str con)] 9)) (o := .cells #[.int .i64 0, .string ⟨#[]⟩, .int .i64 0, .slice none 0 0, .slice none 0 0] 25) (n := w.heap.size + 1 + 1 + 1) (by simp)); have HR := zH (mu (uK hx hcon X1.o X2.o) (h'.under b4) hs); have HQ := zH (show gM (nY x con) y = fw x con y from rfl); clear h hs hb b4 h'; go_enter func6, ntmps6
 go_wp2_with (first
  | (go_at_call 13; (with_reducible refine (HR.o _ (Below.refl _ _)).mono ?_); rintro e w1 ⟨hb1, M, rfl, hM⟩; obtain ⟨V1, rfl⟩ := zW w1; have hz1 := hb1.size; simp at hz1; obtain ⟨o1, s1, n1, A1, m1, k1, B1, j1, l1, rfl⟩ := hM.shape; have HM := zH hM; have HB1 := zH hb1; have R1 := zH (ag hb1 R0.o); obtain ⟨r0, r1, r2, r3, r4⟩ := aN R1.o; have f0 := ak R1.o 0; have f1 := ak R1.o 1; have f2 := ak R1.o 2; have f3 := ak R1.o 3; have f4 := ak R1.o 4; clear hb1 hM))
 refine bodyPost_ret (nX rfl (bZ _ _ _ _ _ R1.o)) rfl ⟨bJ (HB4.o.trans (HB1.o.mono HB4.o.size)) zO _ _ _ _ _, [.int .i64 o1, .string s1, .int .i64 n1, .slice A1 m1 k1, .slice B1 j1 l1], rfl, ?_⟩; exact HM.o.sub (Sub.trans (aH.sub (c8 (aH.refl _ V1) (.inl (by simp)) _ _ _ _ _)) (bo (by simp; omega) _))
end Go.Proofs.YtdcjlihaldhhjaaGreatDoor
