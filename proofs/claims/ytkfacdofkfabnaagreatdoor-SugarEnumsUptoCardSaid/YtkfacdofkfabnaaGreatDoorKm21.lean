import Derived.Laws.ResultCell
import Derived.Test.YtkfacdofkfabnaaGreatDoorKm20
set_option maxHeartbeats 8000000
set_option maxRecDepth 100000
namespace Go.Proofs.YtkfacdofkfabnaaGreatDoor
open _root_.Go.Proofs.Tryz
open Go.RowKit
theorem cR {fn : Func} {p u : Tmp} {ty : TypeId} (h : fn.results = #[.cell p ty, .tmp u]) (tmps : Array Value) (w : World) (g : Nat) {cs b : Value}
  (hp : tmps.getD p undef = .pointer (some ⟨g, 0, none⟩)) (hb : tmps.getD u undef = b) (hl : (loadVar ty ⟨g, 0, none⟩).run prog w = .ok cs w) :
  (results fn tmps).run prog w = .ok (.tuple #[cs, b]) w := by
 rw [results_cell_tmp h, hp, hb]; simp [asAddr, hl, Result.andThen]
theorem jh {w : World} {N : Nat} {x0 x1 x2 x3 x4 : Value} (hg : w.heap[N]? = some (.cells #[x0, x1, x2, x3, x4] 39 (0, 0))) : (loadVar 39 ⟨N, 0, none⟩).run prog w = .ok (.agg #[x0, x1, x2, x3, x4]) w :=
 run_loadVar_row w N 39 39 _ (0, 0) _ hg underlying39 rfl eP
theorem yZ (w0 : World) : Fu w0 182 #[] (λ _ => none) := by
 refine ⟨λ args W => by kernel_rfl, λ y L h hs _ w hb => ?_⟩; obtain ⟨o0, s0, n0, A0, m0, k0, B0, j0, l0, rfl⟩ := h.shape; have R0 := zH (aF (w := w.alloc (.cells #[.int .i64 o0, .string s0, .int .i64 n0, .slice A0 m0 k0, .slice B0 j0 l0] 39)) (o := .cells #[.int .i64 0, .string ⟨#[]⟩, .int .i64 0, .slice none 0 0, .slice none 0 0] 39) (n := w.heap.size + 1) (by simp)); obtain ⟨r0, r1, r2, r3, r4⟩ := aN R0.o; have f0 := ar R0.o 0; have f1 := ar R0.o 1; have f2 := ar R0.o 2; have f3 := ar R0.o 3; have f4 := ar R0.o 4; clear h hs hb; go_enter func182, ntmps182
 go_wp2_with fail
 exact bodyPost_ret (cR results182 _ _ _ rfl rfl (jh R0.o)) rfl ⟨((Below.refl _ _).alloc (Nat.le_refl _) _).alloc (by simp) _, rfl⟩
theorem qI {tmps : Array Value} {w : World} {N : Nat} {x0 x1 x2 x3 x4 : Value} (hp : tmps.getD 2 undef = .pointer (some ⟨N, 0, none⟩)) (hg : w.heap[N]? = some (.cells #[x0, x1, x2, x3, x4] 39 (0, 0))) :
  (results f152 tmps).run prog w = .ok (.agg #[x0, x1, x2, x3, x4]) w :=
 results_cell_row results152 tmps w N 39 _ (0, 0) _ hp hg underlying39 rfl eP
theorem yY {w0 : World} {L : List Value} {x : Ex} (h : a7 w0 L x) (hs : dU x) (w : World) (hb : Below w0.heap.size w0 w) : Calls prog 152 #[.agg L.toArray] w (fV x w) := by
 have HR := zH (om (yZ w0) h hs); rw [uX] at HR; obtain ⟨o0, s0, n0, A0, m0, k0, B0, j0, l0, rfl⟩ := h.shape; have HB := zH hb; have hsz0 := hb.size; have b2 := (zA w (.cells #[.int .i64 o0, .string s0, .int .i64 n0, .slice A0 m0 k0, .slice B0 j0 l0] 39)).alloc (by simp) (.cells #[.int .i64 0, .string ⟨#[]⟩, .int .i64 0, .slice none 0 0, .slice none 0 0] 39); have HB2 := zH b2; have R0 := zH (aF (w := w.alloc (.cells #[.int .i64 o0, .string s0, .int .i64 n0, .slice A0 m0 k0, .slice B0 j0 l0] 39)) (o := .cells #[.int .i64 0, .string ⟨#[]⟩, .int .i64 0, .slice none 0 0, .slice none 0 0] 39) (n := w.heap.size + 1) (by simp)); clear h hs hb b2; go_enter func152, ntmps152
 go_wp2_with (first
  | (go_at_call 57; (with_reducible refine (HR.o _ (HB.o.trans (HB2.o.mono hsz0))).mono ?_); rintro e w1 ⟨hb1, M, rfl, hM⟩; obtain ⟨V1, rfl⟩ := zW w1; have hz1 := hb1.size; simp at hz1; obtain ⟨o1, s1, n1, A1, m1, k1, B1, j1, l1, rfl⟩ := hM.shape; have HM := zH hM; have HB1 := zH hb1; have R1 := zH (ab hb1 R0.o); obtain ⟨r0, r1, r2, r3, r4⟩ := aN R1.o; have f0 := ar R1.o 0; have f1 := ar R1.o 1; have f2 := ar R1.o 2; have f3 := ar R1.o 3; have f4 := ar R1.o 4; clear hb1 hM))
 refine bodyPost_ret (qI rfl (bX _ _ _ _ _ R1.o)) rfl ⟨bD (HB2.o.trans (HB1.o.mono HB2.o.size)) zO _ _ _ _ _, [.int .i64 o1, .string s1, .int .i64 n1, .slice A1 m1 k1, .slice B1 j1 l1], rfl, ?_⟩; exact HM.o.sub (Sub.trans (aL.sub (dm (aL.refl _ V1) (.inl (by simp)) _ _ _ _ _)) (bj (by simp; omega) _))
theorem bI {w : World} {K : Nat} {a : Addr} (h : a.block ≠ K) (x y z u v : Value) : (((((w.setCell ⟨K, 0, none⟩ x).setCell ⟨K, 1, none⟩ y).setCell ⟨K, 2, none⟩ z).setCell ⟨K, 3, none⟩ u).setCell ⟨K, 4, none⟩ v).cell? a = w.cell? a := by
 have h1 : ∀ (b : Addr) (w : World) (x : Value), b.block = K -> (w.setCell b x).cell? a = w.cell? a := λ b w x hb => World.cell?_of_block (Below.heap_setCell _ _ _ _ (by rw [hb]; exact h)); rw [h1 _ _ _ rfl, h1 _ _ _ rfl, h1 _ _ _ rfl, h1 _ _ _ rfl, h1 _ _ _ rfl]
theorem dW {w : World} {K M : Nat} (h : M ≠ K) (x y z u v : Value) : (((((w.setCell ⟨K, 0, none⟩ x).setCell ⟨K, 1, none⟩ y).setCell ⟨K, 2, none⟩ z).setCell ⟨K, 3, none⟩ u).setCell ⟨K, 4, none⟩ v).heap[M]? = w.heap[M]? := by
 rw [Below.heap_setCell _ _ _ _ h, Below.heap_setCell _ _ _ _ h, Below.heap_setCell _ _ _ _ h, Below.heap_setCell _ _ _ _ h, Below.heap_setCell _ _ _ _ h]
theorem lz {W : World} {B C2 C5 : Nat} {x con : Tx} {y : Ex} {M : List Value} (hx : x.length <= maxLen) (hcon : con.length <= maxLen) (hM : a7 (cj (B + 2) W) M y) (h2 : W.heap[C2]? = some (.cells #[.string (str con)] 9 (0, 0))) (h5 : W.heap[C5]? = some (.cells M.toArray 39 (0, 0)))
  (g2 : B + 2 <= C2) (g5 : B + 2 <= C5) (a b c d e : Value) : a7 (cj B (((((W.setCell ⟨B + 1, 0, none⟩ a).setCell ⟨B + 1, 1, none⟩ b).setCell ⟨B + 1, 2, none⟩ c).setCell ⟨B + 1, 3, none⟩ d).setCell ⟨B + 1, 4, none⟩ e)) [.int .i64 11, .string (str x), .int .i64 0, .slice (some ⟨C2, 0, none⟩) 1 1, .slice (some ⟨C5, 0, none⟩) 1 1] (.mk 11 x 0 [con] [y]) :=
 gA (cw zO) (cw zO) hx (ig ((ic zO).trans ((dW zO _ _ _ _ _).trans h2)) ⟨rfl, hcon⟩ rfl)
  (ig ((ic zO).trans ((dW zO _ _ _ _ _).trans h5)) (hM.sub (Sub.trans (aL.sub (dm (aL.refl _ W) (.inl zO) _ _ _ _ _)) (bj zO _))) (by simp))
theorem ag {w : World} {n : Nat} {o x : Obj} (h : w.heap[n]? = some x) : (w.alloc o).heap[n]? = some x := aT h
theorem rT {w : World} {N : Nat} {T : TypeId} {v0 : Value} (h : w.heap[N]? = some (.cells #[v0] T (0, 0))) : w.cell? ⟨N, 0, none⟩ = some v0 := by
 rw [cell_of_row _ _ _ _ _ _ h]; rfl
theorem uK {w0 : World} {K1 K2 : Nat} {x con : Tx} (hx : x.length <= maxLen) (hcon : con.length <= maxLen) (h1 : w0.heap[K1]? = some (.cells #[.string (str x)] 9 (0, 0))) (h2 : w0.heap[K2]? = some (.cells #[.string (str con)] 9 (0, 0)))
  {y : Ex} {L : List Value} (h : a7 w0 L y) (hs : dU y) (hy : ∃ s n cs ks, y = .mk 4 s n cs ks) (w : World) (hb : Below w0.heap.size w0 w) :
  Calls prog 151 #[.agg L.toArray, .pointer (some ⟨K1, 0, none⟩), .pointer (some ⟨K2, 0, none⟩)] w (np (some (.mk 11 x 0 [con] [y])) w) := by
 have HC := zH (yY h hs); have hop : ∃ s0 n0 A0 m0 k0 B0 j0 l0, L = [.int .i64 4, .string s0, .int .i64 n0, .slice A0 m0 k0, .slice B0 j0 l0] := by
  obtain ⟨s, n, cs, ks, rfl⟩ := hy; cases h with
  | mk _ _ _ hcs _ _ _ _ =>
    obtain ⟨A, c, rfl, _⟩ := hcs; exact ⟨_, _, _, _, _, _, _, _, rfl⟩
 obtain ⟨s0, n0, A0, m0, k0, B0, j0, l0, rfl⟩ := hop; have HB := zH hb; have hsz0 := hb.size; have X1 := zH (ab hb h1); have X2 := zH (ab hb h2); have b2 := (zA w (.cells #[.int .i64 4, .string s0, .int .i64 n0, .slice A0 m0 k0, .slice B0 j0 l0] 39)).alloc (by simp) (.cells #[.int .i64 0, .string ⟨#[]⟩, .int .i64 0, .slice none 0 0, .slice none 0 0] 39); have HB2 := zH b2; have E0 := zH (aT (o := .cells #[.int .i64 0, .string ⟨#[]⟩, .int .i64 0, .slice none 0 0, .slice none 0 0] 39) (heap_alloc_new w (.cells #[.int .i64 4, .string s0, .int .i64 n0, .slice A0 m0 k0, .slice B0 j0 l0] 39))); have R0 := zH (aF (w := w.alloc (.cells #[.int .i64 4, .string s0, .int .i64 n0, .slice A0 m0 k0, .slice B0 j0 l0] 39)) (o := .cells #[.int .i64 0, .string ⟨#[]⟩, .int .i64 0, .slice none 0 0, .slice none 0 0] 39) (n := w.heap.size + 1) (by simp)); have x1 := rT (ag (o := .cells #[.int .i64 0, .string ⟨#[]⟩, .int .i64 0, .slice none 0 0, .slice none 0 0] 39) (ag (o := .cells #[.int .i64 4, .string s0, .int .i64 n0, .slice A0 m0 k0, .slice B0 j0 l0] 39) X1.o)); have x2 := rT (ag (o := .cells #[.int .i64 0, .string ⟨#[]⟩, .int .i64 0, .slice none 0 0, .slice none 0 0] 39) (ag (o := .cells #[.int .i64 4, .string s0, .int .i64 n0, .slice A0 m0 k0, .slice B0 j0 l0] 39) X2.o)); obtain ⟨p0, p1, p2, p3, p4⟩ := aN E0.o; have q1 := ak X1.o; have q2 := ak X2.o; have e1 : K1 ≠ w.heap.size + 1 := zO; have e2 : K2 ≠ w.heap.size + 1 := zO; have e3 : w.heap.size ≠ w.heap.size + 1 := zO; clear h hs hy hb b2 h1 h2; go_enter func151, ntmps151
 go_wp2_with fail
 refine wp_region_held_drew (S := (λ W => W.cell? ⟨K1, 0, none⟩ = some (.string (str x)) /\ W.cell? ⟨K2, 0, none⟩ = some (.string (str con)) /\ W.cell? ⟨w.heap.size, 0, none⟩ = some (.int .i64 4) /\ W.cell? ⟨w.heap.size, 1, none⟩ = some (.string s0) /\ W.cell? ⟨w.heap.size, 2, none⟩ = some (.int .i64 n0) /\ W.cell? ⟨w.heap.size, 3, none⟩ = some (.slice A0 m0 k0) /\ W.cell? ⟨w.heap.size, 4, none⟩ = some (.slice B0 j0 l0))) zK ?_ (λ hHeld => ?_)
 . (try dsimp only); go_keep
 refine aa 0 ?_; refine aa 1 ?_; refine aa 3 ?_; refine wpAnyH_ready (rs := [2, 4]) zK (by simp) (bh 2 rfl (λ K hK => ?_) (bh 4 rfl (λ K hK => ?_) AllReadyH.nil))
 . go_simp
   refine hK.out _ _ ?_ (λ hHeld => ?_)
   . (try dsimp only); go_keep
   clear hK K; try simp only [Act.put, aK, aI, aJ]
   refine ay 4 zK rfl (λ K hK => ?_); go_simp
   (go_at_call 152
    (with_reducible refine (HC.o _ (HB.o.trans ((((HB2.o.alloc HB2.o.size _).drew).mono hsz0)))).mono ?_); rintro e w1 ⟨hb1, M, rfl, hM⟩; obtain ⟨V1, rfl⟩ := zW w1; have hz1 := hb1.size; simp [World.drew] at hz1; obtain ⟨o1, s1, n1, A1, m1, k1, A2, m2, k2, rfl⟩ := hM.shape; have HM := zH hM; have HB1 := zH hb1; have Y1 := zH (ab hb1 (ag (o := .cells #[.string (str con)] 9) (ag (o := .cells #[.int .i64 0, .string ⟨#[]⟩, .int .i64 0, .slice none 0 0, .slice none 0 0] 39) (ag (o := .cells #[.int .i64 4, .string s0, .int .i64 n0, .slice A0 m0 k0, .slice B0 j0 l0] 39) X1.o)))); have Y2 := zH (ab hb1 (ag (o := .cells #[.string (str con)] 9) (ag (o := .cells #[.int .i64 0, .string ⟨#[]⟩, .int .i64 0, .slice none 0 0, .slice none 0 0] 39) (ag (o := .cells #[.int .i64 4, .string s0, .int .i64 n0, .slice A0 m0 k0, .slice B0 j0 l0] 39) X2.o)))); have YE := zH (ab hb1 (ag (o := .cells #[.string (str con)] 9) E0.o)); have YR := zH (ab hb1 (ag (o := .cells #[.string (str con)] 9) R0.o)); have y1 := rT Y1.o; have y2 := rT Y2.o; obtain ⟨u0, u1, u2, u3, u4⟩ := aN YE.o; clear hb1 hM)
   refine hK.out _ _ ?_ (λ hHeld => ?_)
   . (try dsimp only); go_keep
   clear hK K; try simp only [Act.put, aK, aI, aJ]
   refine ay 5 zK rfl (λ K hK => ?_); go_simp
   refine hK.out _ _ ?_ (λ hHeld => ?_)
   . (try dsimp only); go_keep
   clear hK K; try simp only [Act.put, aK, aI, aJ]
   have FB := zH ((((HB2.o.alloc HB2.o.size (.cells #[.string (str con)] 9)).drew).trans (HB1.o.mono (by simp [World.drew]; omega))).alloc zO (.cells #[.int .i64 o1, .string s1, .int .i64 n1, .slice A1 m1 k1, .slice A2 m2 k2] 39)); have F1 := zH (ag (o := .cells #[.int .i64 o1, .string s1, .int .i64 n1, .slice A1 m1 k1, .slice A2 m2 k2] 39) (ab HB1.o (show (((w.alloc (.cells #[.int .i64 4, .string s0, .int .i64 n0, .slice A0 m0 k0, .slice B0 j0 l0] 39)).alloc (.cells #[.int .i64 0, .string ⟨#[]⟩, .int .i64 0, .slice none 0 0, .slice none 0 0] 39)).alloc (.cells #[.string (str con)] 9)).drew.heap[w.heap.size + 1 + 1]? = _ from aF (by simp)))); have F2 := zH (heap_alloc_new V1 (.cells #[.int .i64 o1, .string s1, .int .i64 n1, .slice A1 m1 k1, .slice A2 m2 k2] 39)); have F3 := zH (ag (o := .cells #[.int .i64 o1, .string s1, .int .i64 n1, .slice A1 m1 k1, .slice A2 m2 k2] 39) YR.o); have FM := zH (HM.o.sub (Sub.trans (bj (B' := w.heap.size + 2) (by simp [World.drew]) V1) (aL.sub ((aL.refl _ V1).alloc (.cells #[.int .i64 o1, .string s1, .int .i64 n1, .slice A1 m1 k1, .slice A2 m2 k2] 39))))); have g2 : w.heap.size + 2 <= w.heap.size + 1 + 1 := zO; have g5 : w.heap.size + 2 <= V1.heap.size := zO; obtain ⟨r0, r1, r2, r3, r4⟩ := aN F3.o; have f0 := ar F3.o 0; have f1 := ar F3.o 1; have f2 := ar F3.o 2; have f3 := ar F3.o 3; have f4 := ar F3.o 4; refine aa 6 ?_; refine ay 7 zK rfl (λ K hK => ?_); go_simp
   refine hK.out _ _ ⟨(bI e1 _ _ _ _ _).trans hHeld.1, (bI e2 _ _ _ _ _).trans hHeld.2.1, (bI e3 _ _ _ _ _).trans hHeld.2.2.1, (bI e3 _ _ _ _ _).trans hHeld.2.2.2.1, (bI e3 _ _ _ _ _).trans hHeld.2.2.2.2.1, (bI e3 _ _ _ _ _).trans hHeld.2.2.2.2.2.1, (bI e3 _ _ _ _ _).trans hHeld.2.2.2.2.2.2⟩ (λ hHeld => ?_); clear hK K; try simp only [Act.put, aK, aI, aJ]
   refine aa 8 ?_; refine wpAnyH_done zK ?_ _; go_wp2_with fail
   refine bodyPost_ret (cR results151 _ _ _ rfl rfl (jh (bX _ _ _ _ _ F3.o))) rfl ⟨bD FB.o zO _ _ _ _ _, [.int .i64 11, .string (str x), .int .i64 0, _, _], rfl, ?_⟩; exact lz hx hcon FM.o F1.o F2.o g2 g5 _ _ _ _ _
 . go_simp
   (go_at_call 152
    (with_reducible refine (HC.o _ (HB.o.trans ((((HB2.o).drew).mono hsz0)))).mono ?_); rintro e w1 ⟨hb1, M, rfl, hM⟩; obtain ⟨V1, rfl⟩ := zW w1; have hz1 := hb1.size; simp [World.drew] at hz1; obtain ⟨o1, s1, n1, A1, m1, k1, A2, m2, k2, rfl⟩ := hM.shape; have HM := zH hM; have HB1 := zH hb1; have Y1 := zH (ab hb1 (ag (o := .cells #[.int .i64 0, .string ⟨#[]⟩, .int .i64 0, .slice none 0 0, .slice none 0 0] 39) (ag (o := .cells #[.int .i64 4, .string s0, .int .i64 n0, .slice A0 m0 k0, .slice B0 j0 l0] 39) X1.o))); have Y2 := zH (ab hb1 (ag (o := .cells #[.int .i64 0, .string ⟨#[]⟩, .int .i64 0, .slice none 0 0, .slice none 0 0] 39) (ag (o := .cells #[.int .i64 4, .string s0, .int .i64 n0, .slice A0 m0 k0, .slice B0 j0 l0] 39) X2.o))); have YE := zH (ab hb1 E0.o); have YR := zH (ab hb1 R0.o); have y1 := rT Y1.o; have y2 := rT Y2.o; obtain ⟨u0, u1, u2, u3, u4⟩ := aN YE.o; clear hb1 hM)
   refine hK.out _ _ ?_ (λ hHeld => ?_)
   . (try dsimp only); go_keep
   clear hK K; try simp only [Act.put, aK, aI, aJ]
   refine wpAnyH_ready (rs := [2, 5]) zK (by simp) (bh 2 rfl (λ K hK => ?_) (bh 5 rfl (λ K hK => ?_) AllReadyH.nil))
   . go_simp
     refine hK.out _ _ ?_ (λ hHeld => ?_)
     . (try dsimp only); go_keep
     clear hK K; try simp only [Act.put, aK, aI, aJ]
     refine ay 5 zK rfl (λ K hK => ?_); go_simp
     refine hK.out _ _ ?_ (λ hHeld => ?_)
     . (try dsimp only); go_keep
     clear hK K; try simp only [Act.put, aK, aI, aJ]
     have FB := zH (((((HB2.o.drew).trans (HB1.o.mono (by simp [World.drew]; omega)))).alloc zO (.cells #[.string (str con)] 9)).alloc (by simp; omega) (.cells #[.int .i64 o1, .string s1, .int .i64 n1, .slice A1 m1 k1, .slice A2 m2 k2] 39)); have F1 := zH (ag (o := .cells #[.int .i64 o1, .string s1, .int .i64 n1, .slice A1 m1 k1, .slice A2 m2 k2] 39) (heap_alloc_new V1 (.cells #[.string (str con)] 9))); have F2 := zH (aF (w := V1.alloc (.cells #[.string (str con)] 9)) (o := .cells #[.int .i64 o1, .string s1, .int .i64 n1, .slice A1 m1 k1, .slice A2 m2 k2] 39) (n := V1.heap.size + 1) (by simp)); have F3 := zH (ag (o := .cells #[.int .i64 o1, .string s1, .int .i64 n1, .slice A1 m1 k1, .slice A2 m2 k2] 39) (ag (o := .cells #[.string (str con)] 9) YR.o)); have FM := zH (HM.o.sub (Sub.trans (bj (B' := w.heap.size + 2) (by simp [World.drew]) V1) (aL.sub (((aL.refl _ V1).alloc (.cells #[.string (str con)] 9)).alloc (.cells #[.int .i64 o1, .string s1, .int .i64 n1, .slice A1 m1 k1, .slice A2 m2 k2] 39))))); have g2 : w.heap.size + 2 <= V1.heap.size := zO; have g5 : w.heap.size + 2 <= V1.heap.size + 1 := zO; obtain ⟨r0, r1, r2, r3, r4⟩ := aN F3.o; have f0 := ar F3.o 0; have f1 := ar F3.o 1; have f2 := ar F3.o 2; have f3 := ar F3.o 3; have f4 := ar F3.o 4; refine aa 6 ?_; refine ay 7 zK rfl (λ K hK => ?_); go_simp
     refine hK.out _ _ ⟨(bI e1 _ _ _ _ _).trans hHeld.1, (bI e2 _ _ _ _ _).trans hHeld.2.1, (bI e3 _ _ _ _ _).trans hHeld.2.2.1, (bI e3 _ _ _ _ _).trans hHeld.2.2.2.1, (bI e3 _ _ _ _ _).trans hHeld.2.2.2.2.1, (bI e3 _ _ _ _ _).trans hHeld.2.2.2.2.2.1, (bI e3 _ _ _ _ _).trans hHeld.2.2.2.2.2.2⟩ (λ hHeld => ?_); clear hK K; try simp only [Act.put, aK, aI, aJ]
     refine aa 8 ?_; refine wpAnyH_done zK ?_ _; go_wp2_with fail
     refine bodyPost_ret (cR results151 _ _ _ rfl rfl (jh (bX _ _ _ _ _ F3.o))) rfl ⟨bD FB.o zO _ _ _ _ _, [.int .i64 11, .string (str x), .int .i64 0, _, _], rfl, ?_⟩; exact lz hx hcon FM.o F1.o F2.o g2 g5 _ _ _ _ _
   . go_simp
     refine hK.out _ _ ?_ (λ hHeld => ?_)
     . (try dsimp only); go_keep
     clear hK K; try simp only [Act.put, aK, aI, aJ]
     refine ay 2 zK rfl (λ K hK => ?_); go_simp
     refine hK.out _ _ ?_ (λ hHeld => ?_)
     . (try dsimp only); go_keep
     clear hK K; try simp only [Act.put, aK, aI, aJ]
     have FB := zH (((((HB2.o.drew).trans (HB1.o.mono (by simp [World.drew]; omega)))).alloc zO (.cells #[.int .i64 o1, .string s1, .int .i64 n1, .slice A1 m1 k1, .slice A2 m2 k2] 39)).alloc (by simp; omega) (.cells #[.string (str con)] 9)); have F1 := zH (aF (w := V1.alloc (.cells #[.int .i64 o1, .string s1, .int .i64 n1, .slice A1 m1 k1, .slice A2 m2 k2] 39)) (o := .cells #[.string (str con)] 9) (n := V1.heap.size + 1) (by simp)); have F2 := zH (ag (o := .cells #[.string (str con)] 9) (heap_alloc_new V1 (.cells #[.int .i64 o1, .string s1, .int .i64 n1, .slice A1 m1 k1, .slice A2 m2 k2] 39))); have F3 := zH (ag (o := .cells #[.string (str con)] 9) (ag (o := .cells #[.int .i64 o1, .string s1, .int .i64 n1, .slice A1 m1 k1, .slice A2 m2 k2] 39) YR.o)); have FM := zH (HM.o.sub (Sub.trans (bj (B' := w.heap.size + 2) (by simp [World.drew]) V1) (aL.sub (((aL.refl _ V1).alloc (.cells #[.int .i64 o1, .string s1, .int .i64 n1, .slice A1 m1 k1, .slice A2 m2 k2] 39)).alloc (.cells #[.string (str con)] 9))))); have g2 : w.heap.size + 2 <= V1.heap.size + 1 := zO; have g5 : w.heap.size + 2 <= V1.heap.size := zO; obtain ⟨r0, r1, r2, r3, r4⟩ := aN F3.o; have f0 := ar F3.o 0; have f1 := ar F3.o 1; have f2 := ar F3.o 2; have f3 := ar F3.o 3; have f4 := ar F3.o 4; refine aa 6 ?_; refine ay 7 zK rfl (λ K hK => ?_); go_simp
     refine hK.out _ _ ⟨(bI e1 _ _ _ _ _).trans hHeld.1, (bI e2 _ _ _ _ _).trans hHeld.2.1, (bI e3 _ _ _ _ _).trans hHeld.2.2.1, (bI e3 _ _ _ _ _).trans hHeld.2.2.2.1, (bI e3 _ _ _ _ _).trans hHeld.2.2.2.2.1, (bI e3 _ _ _ _ _).trans hHeld.2.2.2.2.2.1, (bI e3 _ _ _ _ _).trans hHeld.2.2.2.2.2.2⟩ (λ hHeld => ?_); clear hK K; try simp only [Act.put, aK, aI, aJ]
     refine aa 8 ?_; refine wpAnyH_done zK ?_ _; go_wp2_with fail
     refine bodyPost_ret (cR results151 _ _ _ rfl rfl (jh (bX _ _ _ _ _ F3.o))) rfl ⟨bD FB.o zO _ _ _ _ _, [.int .i64 11, .string (str x), .int .i64 0, _, _], rfl, ?_⟩; exact lz hx hcon FM.o F1.o F2.o g2 g5 _ _ _ _ _
theorem xJ {w0 : World} {p q : Value} {o0 : Int} {y : Ex} {L : List Value} (h : a7 w0 L y) (hy : ∃ s n cs ks, y = .mk o0 s n cs ks) (ho : ¬ o0 = 4) (w : World) :
  Calls prog 151 #[.agg L.toArray, p, q] w (np none w) := by
 have hop : ∃ s0 n0 A0 m0 k0 B0 j0 l0, L = [.int .i64 o0, .string s0, .int .i64 n0, .slice A0 m0 k0, .slice B0 j0 l0] := by
  obtain ⟨s, n, cs, ks, rfl⟩ := hy; cases h with
  | mk _ _ _ hcs _ _ _ _ =>
    obtain ⟨A, c, rfl, _⟩ := hcs; exact ⟨_, _, _, _, _, _, _, _, rfl⟩
 obtain ⟨s0, n0, A0, m0, k0, B0, j0, l0, rfl⟩ := hop; have R0 := zH (aF (w := w.alloc (.cells #[.int .i64 o0, .string s0, .int .i64 n0, .slice A0 m0 k0, .slice B0 j0 l0] 39)) (o := .cells #[.int .i64 0, .string ⟨#[]⟩, .int .i64 0, .slice none 0 0, .slice none 0 0] 39) (n := w.heap.size + 1) (by simp)); obtain ⟨r0, r1, r2, r3, r4⟩ := aN R0.o; have f0 := ar R0.o 0; have f1 := ar R0.o 1; have f2 := ar R0.o 2; have f3 := ar R0.o 3; have f4 := ar R0.o 4; have hd : decide (o0 = 4) = false := (by simpa using ho); clear h hy; go_enter func151, ntmps151
 go_wp2_with fail
 refine bodyPost_ret (cR results151 _ _ _ rfl rfl (jh R0.o)) rfl ⟨((Below.refl _ _).alloc (Nat.le_refl _) _).alloc (by simp) _, rfl⟩
theorem xI {w0 : World} {K1 K2 : Nat} {x con : Tx} (hx : x.length <= maxLen) (hcon : con.length <= maxLen) (h1 : w0.heap[K1]? = some (.cells #[.string (str x)] 9 (0, 0))) (h2 : w0.heap[K2]? = some (.cells #[.string (str con)] 9 (0, 0))) :
  Fu w0 151 #[.pointer (some ⟨K1, 0, none⟩), .pointer (some ⟨K2, 0, none⟩)] (pN x con) := by
 refine ⟨λ args W => by kernel_rfl, λ y L h hs _ w hb => ?_⟩; obtain ⟨op, s, n, cs, ks⟩ := y; by_cases ho : op = 4
 . subst ho; have : pN x con (.mk 4 s n cs ks) = some (.mk 11 x 0 [con] [.mk 4 s n cs ks]) := by simp [pN]
   rw [this]; exact uK hx hcon h1 h2 h hs ⟨s, n, cs, ks, rfl⟩ w hb
 . have : pN x con (.mk op s n cs ks) = none := by simp [pN, ho]
   rw [this]; exact xJ h ⟨s, n, cs, ks, rfl⟩ ho w
theorem pM {tmps : Array Value} {w : World} {N : Nat} {x0 x1 x2 x3 x4 : Value} (hp : tmps.getD 6 undef = .pointer (some ⟨N, 0, none⟩)) (hg : w.heap[N]? = some (.cells #[x0, x1, x2, x3, x4] 39 (0, 0))) :
  (results f111 tmps).run prog w = .ok (.agg #[x0, x1, x2, x3, x4]) w :=
 results_cell_row results111 tmps w N 39 _ (0, 0) _ hp hg underlying39 rfl eP
theorem xH {w0 : World} {L : List Value} {y : Ex} {x con : Tx} (hx : x.length <= maxLen) (hcon : con.length <= maxLen) (h : a7 w0 L y) (hs : dU y) (w : World) (hb : Below w0.heap.size w0 w) :
  Calls prog 111 #[.agg L.toArray, .string (str x), .string (str con)] w (fV (zT x con y) w) := by
 have h' := h.under hb; obtain ⟨o0, s0, n0, A0, m0, k0, B0, j0, l0, rfl⟩ := h.shape; have b4 := (((zA w (.cells #[.int .i64 o0, .string s0, .int .i64 n0, .slice A0 m0 k0, .slice B0 j0 l0] 39)).alloc (by simp) (.cells #[.string (str x)] 9)).alloc (by simp; omega) (.cells #[.string (str con)] 9)).alloc (by simp; omega) (.cells #[.int .i64 0, .string ⟨#[]⟩, .int .i64 0, .slice none 0 0, .slice none 0 0] 39); have HB4 := zH b4; have X1 := zH (ag (o := .cells #[.int .i64 0, .string ⟨#[]⟩, .int .i64 0, .slice none 0 0, .slice none 0 0] 39) (ag (o := .cells #[.string (str con)] 9) (aF (w := w.alloc (.cells #[.int .i64 o0, .string s0, .int .i64 n0, .slice A0 m0 k0, .slice B0 j0 l0] 39)) (o := .cells #[.string (str x)] 9) (n := w.heap.size + 1) (by simp)))); have X2 := zH (ag (o := .cells #[.int .i64 0, .string ⟨#[]⟩, .int .i64 0, .slice none 0 0, .slice none 0 0] 39) (aF (w := (w.alloc (.cells #[.int .i64 o0, .string s0, .int .i64 n0, .slice A0 m0 k0, .slice B0 j0 l0] 39)).alloc (.cells #[.string (str x)] 9)) (o := .cells #[.string (str con)] 9) (n := w.heap.size + 1 + 1) (by simp))); have R0 := zH (aF (w := ((w.alloc (.cells #[.int .i64 o0, .string s0, .int .i64 n0, .slice A0 m0 k0, .slice B0 j0 l0] 39)).alloc (.cells #[.string (str x)] 9)).alloc (.cells #[.string (str con)] 9)) (o := .cells #[.int .i64 0, .string ⟨#[]⟩, .int .i64 0, .slice none 0 0, .slice none 0 0] 39) (n := w.heap.size + 1 + 1 + 1) (by simp)); have HR := zH (om (xI hx hcon X1.o X2.o) (h'.under b4) hs); have HQ := zH (show i8 (pN x con) y = zT x con y from rfl); clear h hs hb b4 h'; go_enter func111, ntmps111
 go_wp2_with (first
  | (go_at_call 57; (with_reducible refine (HR.o _ (Below.refl _ _)).mono ?_); rintro e w1 ⟨hb1, M, rfl, hM⟩; obtain ⟨V1, rfl⟩ := zW w1; have hz1 := hb1.size; simp at hz1; obtain ⟨o1, s1, n1, A1, m1, k1, B1, j1, l1, rfl⟩ := hM.shape; have HM := zH hM; have HB1 := zH hb1; have R1 := zH (ab hb1 R0.o); obtain ⟨r0, r1, r2, r3, r4⟩ := aN R1.o; have f0 := ar R1.o 0; have f1 := ar R1.o 1; have f2 := ar R1.o 2; have f3 := ar R1.o 3; have f4 := ar R1.o 4; clear hb1 hM))
 refine bodyPost_ret (pM rfl (bX _ _ _ _ _ R1.o)) rfl ⟨bD (HB4.o.trans (HB1.o.mono HB4.o.size)) zO _ _ _ _ _, [.int .i64 o1, .string s1, .int .i64 n1, .slice A1 m1 k1, .slice B1 j1 l1], rfl, ?_⟩; exact HM.o.sub (Sub.trans (aL.sub (dm (aL.refl _ V1) (.inl (by simp)) _ _ _ _ _)) (bj (by simp; omega) _))
theorem xK {w0 : World} {es : List dw} {A B : Option Addr} {ka kb : Nat} (hL : aw w0 (bE w0) (.slice A es.length ka) es) (hM : aw w0 (bE w0) (.slice B es.length kb) es) : ∀ w, Below w0.heap.size w0 w ->
  Calls prog 6 #[.agg #[.slice A es.length ka, .slice none 0 0], .agg #[.slice B es.length kb, .slice none 0 0]] w (aA true w) := by
 intro w hw; obtain ⟨A', ka', e1, hca, hma, hea⟩ := hL; obtain ⟨B', kb', e2, hcb, hmb, heb⟩ := hM; obtain ⟨rfl, rfl⟩ : A = A' /\ ka = ka' := by simpa using e1
 obtain ⟨rfl, rfl⟩ : B = B' /\ kb = kb' := by simpa using e2
 have h1 : es.length <= 9223372036854775807 := (by unfold maxLen at hma; omega); have HEA := zH hea; have HEB := zH heb; have HW := zH hw; have hsz := hw.size; have f0 : ((es.length : Int) != (es.length : Int)) = false := (by simp); clear hw hca hma hcb hmb hea heb e1 e2; go_enter func6, ntmps6
 go_wp2_with fail
 generalize hV : (w.alloc (.cells #[.slice A es.length ka, .slice none 0 0] 25)).alloc (.cells #[.slice B es.length kb, .slice none 0 0] 25) = V; have BA := zH (show V.heap[w.heap.size]? = some (.cells #[.slice A es.length ka, .slice none 0 0] 25 (0, 0)) by rw [<- hV]; exact ag (heap_alloc_new _ _)); have BB := zH (show V.heap[w.heap.size + 1]? = some (.cells #[.slice B es.length kb, .slice none 0 0] 25 (0, 0)) by rw [<- hV]; exact aF (by simp)); have HV := zH (show Below w.heap.size w V by rw [<- hV]; exact ((Below.refl _ w).alloc (Nat.le_refl _) _).alloc (by simp) _); clear hV; go_loopg [5] es.length (λ g v wr => ∃ k : Nat, k + g = es.length /\ v = .int .i64 k /\ Below V.heap.size V wr)
 case atStart => exact ⟨0, by omega, rfl, Below.refl _ _⟩
 case round =>
  obtain ⟨k, hkg, rfl, hbw⟩ := hrel; obtain ⟨wq, rfl⟩ := zW wr; have HK := zH hkg; have HVQ := zH hbw; have HQ := zH (HV.o.trans (hbw.mono HV.o.size)); have HBQ := zH (HW.o.trans (HQ.o.mono hsz)); have BAQ := zH (ab hbw BA.o); have BBQ := zH (ab hbw BB.o); obtain ⟨p0, p1⟩ := bG BAQ.o; obtain ⟨r0, r1⟩ := bG BBQ.o; clear hkg hbw; by_cases hlt : k < es.length
  . obtain ⟨x, hx⟩ := zG hlt; obtain ⟨X, hEX, cv, rfl, _, hcv⟩ := HEA.o k x hx; obtain ⟨Y, hEY, dv, rfl, _, hdv⟩ := HEB.o k x hx; have HN := zH (pQ hcv hdv); obtain ⟨X1, n1, k1, rfl⟩ := aw.shape hcv; obtain ⟨Y1, m1, j1, rfl⟩ := aw.shape hdv; have EX := zH hEX; have EY := zH hEY; obtain ⟨a1, rfl, hab, haa, x0, x1⟩ := mT (hEX.under HBQ.o); obtain ⟨b1, rfl, hbb, hba, y0, y1⟩ := mT (hEY.under HBQ.o); have f4 : ((str x.name).toList != (str x.name).toList) = false := (by simp); clear hx hEX hEY hcv hdv; rw [show (x.cons == x.cons) = true by simp] at HN; go_wp2_with fail
    refine wp_region_held_drew (S := (λ W => W.cell? ⟨w.heap.size, 0, none⟩ = some (.slice (some a1) es.length ka) /\ W.cell? ⟨w.heap.size + 1, 0, none⟩ = some (.slice (some b1) es.length kb) /\ W.cell? (a1.add (k * 2)) = some (.string (str x.name)) /\ W.cell? ⟨(a1.add (k * 2)).block, (a1.add (k * 2)).off + 1, none⟩ = some (.slice X1 n1 k1) /\ W.cell? (b1.add (k * 2)) = some (.string (str x.name)) /\ W.cell? ⟨(b1.add (k * 2)).block, (b1.add (k * 2)).off + 1, none⟩ = some (.slice Y1 m1 j1))) zK ?_ (λ hHeld => ?_)
    . (try dsimp only); go_keep
    refine aa 0 ?_; refine aa 1 ?_; refine aa 2 ?_; refine aa 3 ?_; refine aa 4 ?_; refine aa 5 ?_; refine aa 6 ?_; refine aa 7 ?_; refine aa 8 ?_; refine aa 9 ?_; refine aa 10 ?_; refine aa 11 ?_; refine aa 12 ?_; refine aa 13 ?_; refine aa 14 ?_; refine aa 15 ?_; refine aa 16 ?_; refine aa 17 ?_; refine aa 18 ?_; refine aa 19 ?_; refine aa 20 ?_; refine aa 21 ?_; refine aa 22 ?_; refine aa 23 ?_; refine aa 24 ?_; refine aa 25 ?_; refine ay 26 zK rfl (λ K hK => ?_); go_simp
    (go_at_call 12
     (with_reducible refine (HN.o _ (HBQ.o.drew)).mono ?_); rintro e w7 ⟨rfl, hb7⟩; obtain ⟨y7, rfl⟩ := zW w7; have G2 := zH ((zB wq).drew.trans hb7); obtain ⟨_, ea, _, _, x0, x1⟩ := mT (EX.o.under (HBQ.o.trans (G2.o.mono HBQ.o.size))); obtain rfl := Option.some.inj ea; obtain ⟨_, eb, _, _, y0, y1⟩ := mT (EY.o.under (HBQ.o.trans (G2.o.mono HBQ.o.size))); obtain rfl := Option.some.inj eb; obtain ⟨p0, p1⟩ := bG (ab G2.o BAQ.o); obtain ⟨r0, r1⟩ := bG (ab G2.o BBQ.o); clear hb7 ea eb)
    refine hK.out _ _ ?_ (λ hHeld => ?_)
    . (try dsimp only); go_keep
    clear hK K; try simp only [Act.put, aK, aI, aJ]
    refine aa 27 ?_; refine aa 28 ?_; refine wpAnyH_done zK ?_ _; go_wp2_with fail
    go_roundg (es.length - (k + 1))
    case measure => have := HK.o; omega
    case rel => exact ⟨k + 1, by omega, by go_num, HVQ.o.trans (G2.o.mono HVQ.o.size)⟩
  . have hke : k = es.length := by have := HK.o; omega
    clear HK; go_wp2_with fail
    go_loopg [6] 0 (λ g v wr => v = .int .i64 0 /\ g = 0 /\ Below wq.heap.size wq wr)
    case atStart => exact ⟨rfl, rfl, Below.refl _ _⟩
    case round =>
     obtain ⟨rfl, _, hbw⟩ := hrel; have HB9 := zH (HQ.o.trans (hbw.mono HQ.o.size)); obtain ⟨p0, p1⟩ := bG (ab hbw BAQ.o); obtain ⟨r0, r1⟩ := bG (ab hbw BBQ.o); clear hbw; go_wp2_with fail
     go_ret; exact ⟨rfl, HB9.o⟩
end Go.Proofs.YtkfacdofkfabnaaGreatDoor
