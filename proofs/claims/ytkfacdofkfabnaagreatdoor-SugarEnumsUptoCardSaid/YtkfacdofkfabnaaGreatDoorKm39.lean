import Derived.Test.YtkfacdofkfabnaaGreatDoorKm37
import Derived.Test.YtkfacdofkfabnaaGreatDoorKm38
set_option maxHeartbeats 8000000
set_option maxRecDepth 100000
namespace Go.Proofs.YtkfacdofkfabnaaGreatDoor
open _root_.Go.Proofs.Tryz
open Go.RowKit Go.Shelf
attribute [local go_sem] Oper.semAt_some
theorem dk {X : Type} {w : World} {R : List Value -> X -> Prop} : aw w R (.slice none 0 0) [] := ⟨none, 0, rfl, Nat.le_refl _, by unfold maxLen; omega, λ i x h => by simp at h⟩
theorem tE {tmps : Array Value} {w : World} {N : Nat} {x0 x1 x2 x3 x4 : Value} (hp : tmps.getD 2 undef = .pointer (some ⟨N, 0, none⟩)) (hg : w.heap[N]? = some (.cells #[x0, x1, x2, x3, x4] 39 (0, 0))) :
  (results f65 tmps).run prog w = .ok (.agg #[x0, x1, x2, x3, x4]) w :=
 results_cell_row results65 tmps w N 39 _ (0, 0) _ hp hg underlying39 rfl eP
theorem Fg (A : Option Addr) (n c : Nat) (w : World) : Calls prog 115 #[.slice A n c] w λ e w' =>
  e = .returned (.func (.func 153) #[] #[.pointer (some ⟨w.heap.size, 0, none⟩)]) /\ w' = w.alloc (.cells #[.slice A n c] 48) := by
 go_enter func115, ntmps115
 go_wp2_with fail
 go_ret; exact ⟨rfl, rfl⟩
theorem zs (n : Nat) (hn : 1 <= n) (Bs : Nat) {w0 w : World} {A : Option Addr} {c : Nat} {ways : List eO} (hs : aw w0 (d7 w0) (.slice A ways.length c) ways) (hw : Below w0.heap.size w0 w)
  (hBs : w.heap[Bs]? = some (.cells #[.slice A ways.length c] 48 (0, 0))) :
  SeqStopsK Fence.wide n prog 153 #[.pointer (some ⟨Bs, 0, none⟩)] (Hv (w0 := w0) (A := A) (ways := ways)) (KpB w0.heap.size Bs) (λ xs => xs.map sY = ways.reverse) (λ _ => True) ways.length w :=
 λ l J Jx W hW _ _ hY h0 => CJ n hn l Bs hs J Jx hY W (hw.trans (hW.mono hw.size)) (ab hW hBs) h0
theorem Ke {n0 Bs : Nat} {w : World} (hn : n0 <= w.heap.size) (hB : Bs < w.heap.size) (W : World) (l : Nat) (o o' : Obj) (hl : w.heap.size <= l) (h : W.heap[l]? = some o) (h1 : o.isCells = false) (h2 : o.isWalk = false) : KpB n0 Bs W (W.putObj l o') :=
 ⟨belowK_b hn W l o o' hl h h1 h2, World.putObj_heap_other zO⟩
theorem uO {X Y : World} {row : Option Nat} {B : Nat} {c : Array Value} {T : TypeId} (h : X.heap[B]? = some (.cells c T (0, 0))) (hg : X.grownBy Y row) (hr : ∀ r, row = some r -> ∃ o : Obj, X.heap[r]? = some o /\ o.isCells = false) : Y.heap[B]? = some (.cells c T (0, 0)) :=
 (hg.block B (ak h) (λ e => by obtain ⟨o, ho, hc⟩ := hr B e.symm; rw [h] at ho; cases ho; cases hc)).trans h
theorem vE {X Y : World} {row : Option Nat} {B : Nat} (hg : X.grownBy Y row) (hr : ∀ r, row = some r -> ∃ o : Obj, X.heap[r]? = some o /\ o.isCells = false) : Sub (cj B X) (cj B Y) := λ a v hv => by
 obtain ⟨h1, h2⟩ := iS hv
 rw [jZ h1]
 exact cell_kept h2 hg hr
theorem Jg {X : Type} {R : List Value -> X -> Prop} {w : World} {g : Nat} {T : TypeId} {fz : Nat × Nat} {c : Array Value} {x y z : X} {L M K : List Value}
  (hb : w.heap[g]? = some (.cells c T fz)) (h1 : R L x) (h2 : R M y) (h3 : R K z) (hc : c.toList = L ++ (M ++ K)) (hn : M.length = L.length) (hm : K.length = L.length) : aw w R (.slice (some ⟨g, 0, none⟩) 3 3) [x, y, z] := by
 refine lJ (n := L.length) [x, y, z] [L, M, K] (by intro J hJ; simp at hJ; rcases hJ with rfl | rfl | rfl; rfl; exact hn; exact hm) hb (by simp [hc]) rfl ?_ (by simp only [List.length_cons, List.length_nil]; unfold maxLen; omega); intro i J u hJ hu; match i, hJ, hu with
 | 0, hJ, hu => simp at hJ hu; subst hJ hu; exact h1
 | 1, hJ, hu => simp at hJ hu; subst hJ hu; exact h2
 | 2, hJ, hu => simp at hJ hu; subst hJ hu; exact h3
 | i + 3, hJ, hu => simp at hJ
theorem p7 {w0 W V1 V3 : World} {B : Nat} {o0 o2 p0 p2 : Int} {s1 s5 t1 : ByteArray} {A3 A4 B3 B4 : Option Addr} {n3 k3 n4 k4 m3 l3 m4 l4 : Nat} {y : eO} {x : Ex} (hsz : V1.heap.size + 2 <= W.heap.size) (hw : w0.heap.size <= V1.heap.size) (hBV : B = V1.heap.size + 2) (hC : Below W.heap.size W V3) (hB : Below V1.heap.size V1 W)
  (hE : V3.heap[V1.heap.size]? = some (.cells #[.int .i64 p0, .string t1, .int .i64 p2, .slice B3 m3 l3, .slice B4 m4 l4] 39 (0, 0))) (hX : a7 (ij w0 (cj (V1.heap.size + 1) W)) [.int .i64 p0, .string t1, .int .i64 p2, .slice B3 m3 l3, .slice B4 m4 l4] x)
  (hY : d7 w0 [.int .i64 o0, .string s1, .int .i64 o2, .slice A3 n3 k3, .slice A4 n4 k4, .string s5] y) : ∀ W9, W9 = ((((((V3.alloc (.cells #[.int .i64 o0, .string s1, .int .i64 o2, .slice A3 n3 k3, .slice A4 n4 k4, .int .i64 3, .string s5, .int .i64 0, .slice none 0 0, .slice none 0 0, .int .i64 p0, .string t1, .int .i64 p2, .slice B3 m3 l3, .slice B4 m4 l4] 39)).setCell ⟨V1.heap.size, 0, none⟩ (.int .i64 7)).setCell ⟨V1.heap.size, 1, none⟩ (.string ⟨#[]⟩)).setCell ⟨V1.heap.size, 2, none⟩ (.int .i64 0)).setCell ⟨V1.heap.size, 3, none⟩ (.slice none 0 0)).setCell ⟨V1.heap.size, 4, none⟩ (.slice (some ⟨V3.heap.size, 0, none⟩) 3 3)) ->
  KeepsFrom B W W9 /\ KpB w0.heap.size (V1.heap.size + 1) W W9 /\ (V1.heap.size + 2 <= W9.heap.size /\ ∃ L : List Value, W9.heap[V1.heap.size]? = some (.cells L.toArray 39 (0, 0)) /\ a7 (ij w0 (cj (V1.heap.size + 1) W9)) L (oK y x)) /\ Below V1.heap.size V1 W9 := by
 intro W9 h9; have hC9 : Below W.heap.size W (V3.alloc (.cells #[.int .i64 o0, .string s1, .int .i64 o2, .slice A3 n3 k3, .slice A4 n4 k4, .int .i64 3, .string s5, .int .i64 0, .slice none 0 0, .slice none 0 0, .int .i64 p0, .string t1, .int .i64 p2, .slice B3 m3 l3, .slice B4 m4 l4] 39)) := hC.alloc hC.size _; have hb : ∀ k, k ≠ V1.heap.size -> W9.heap[k]? = (V3.alloc (.cells #[.int .i64 o0, .string s1, .int .i64 o2, .slice A3 n3 k3, .slice A4 n4 k4, .int .i64 3, .string s5, .int .i64 0, .slice none 0 0, .slice none 0 0, .int .i64 p0, .string t1, .int .i64 p2, .slice B3 m3 l3, .slice B4 m4 l4] 39)).heap[k]? := λ k hk => by rw [h9]; exact dW hk _ _ _ _ _
 have hz9 : W9.heap.size = V3.heap.size + 1 := (by rw [h9]; simp); have hzc := hC.size; obtain ⟨L', hL', hcond, hto⟩ := hY; obtain ⟨rfl, rfl⟩ : L' = [.int .i64 o0, .string s1, .int .i64 o2, .slice A3 n3 k3, .slice A4 n4 k4] /\ s5 = str y.to := by
  have h1 : [Value.int .i64 o0, .string s1, .int .i64 o2, .slice A3 n3 k3, .slice A4 n4 k4] ++ [.string s5] = L' ++ [.string (str y.to)] := hL'; have h2 := List.append_inj' h1 rfl; exact ⟨h2.1.symm, by simpa using h2.2⟩
 have hs : Sub (cj (V1.heap.size + 1) W) (cj (V1.heap.size + 1) W9) := by
  rw [h9]; exact aL.sub (dm ((aL.below (B := V1.heap.size + 1) hC).alloc _) (.inl (Nat.lt_succ_self _)) _ _ _ _ _)
 refine ⟨⟨by omega, λ k o hk h0 _ => ?_⟩, ⟨?_, ?_⟩, ⟨by omega, [.int .i64 7, .string ⟨#[]⟩, .int .i64 0, .slice none 0 0, .slice (some ⟨V3.heap.size, 0, none⟩) 3 3], ?_, ?_⟩, ?_⟩
 . rw [hb k zO]; exact (hC9.block k (ak h0)).trans h0
 . rw [h9]; exact bD (hC9.mono zO) hw _ _ _ _ _
 . rw [hb _ zO]; exact hC9.block _ zO
 . rw [h9]; exact bX _ _ _ _ _ (ag hE)
 . have hK : W9.heap[V3.heap.size]? = some (.cells #[.int .i64 o0, .string s1, .int .i64 o2, .slice A3 n3 k3, .slice A4 n4 k4, .int .i64 3, .string (str y.to), .int .i64 0, .slice none 0 0, .slice none 0 0, .int .i64 p0, .string t1, .int .i64 p2, .slice B3 m3 l3, .slice B4 m4 l4] 39) := by
    rw [hb _ zO]; exact heap_alloc_new _ _
   exact gA (nm := []) (cw zO) (cw zO) (by unfold maxLen; simp) dk (Jg (D9 hK zO zO) (hcond.sub (vR _ _)) (gA (cw zO) (cw zO) hto dk dk) (hX.sub (mL hs)) rfl rfl rfl)
 . rw [h9]; exact bD (hB.trans (hC9.mono zO)) (Nat.le_refl _) _ _ _ _ _
theorem DW {w0 : World} {s : aM} {L : List Value} (hL : bt w0 L s) (w : World) (hw : Below w0.heap.size w0 w) : Calls prog 65 #[.agg L.toArray] w (FA w0 (p8 s) w) := by
 obtain ⟨ev, wv, rfl, hsn, hev, hwv⟩ := hL; obtain ⟨A1, n1, k1, rfl⟩ := aw.shape hev; obtain ⟨A2, k2, rfl, _, _, _⟩ := id hwv; have HB0 := zH ((zA w (.cells #[.string (str s.name), .slice A1 n1 k1, .slice A2 s.ways.length k2] 50)).alloc (by simp) (.cells #[.int .i64 0, .string ⟨#[]⟩, .int .i64 0, .slice none 0 0, .slice none 0 0] 39)); have HS := zH (ag (o := .cells #[.int .i64 0, .string ⟨#[]⟩, .int .i64 0, .slice none 0 0, .slice none 0 0] 39) (heap_alloc_new w (.cells #[.string (str s.name), .slice A1 n1 k1, .slice A2 s.ways.length k2] 50))); have HR := zH (aF (w := w.alloc (.cells #[.string (str s.name), .slice A1 n1 k1, .slice A2 s.ways.length k2] 50)) (o := .cells #[.int .i64 0, .string ⟨#[]⟩, .int .i64 0, .slice none 0 0, .slice none 0 0] 39) (n := w.heap.size + 1) (by simp)); have HW0 := zH hw; have HSN := zH hsn; have HWV := zH hwv; obtain ⟨x0, x1, x2⟩ := eG HS.o; clear hw hsn hev hwv; refine (callsIn_wide (n := 3)).1 ?_; refine callsIn_of_wp_marks func65 rfl trivial ?_ rfl; simp only [ntmps65, List.size_toArray, List.length_cons, List.length_nil, Nat.reduceAdd, Nat.reduceSub, Array.replicate_succ, Array.replicate_zero, List.push_toArray, List.append_toArray, List.nil_append, List.cons_append]
 gi_wp2_with (first
  | (refine ⟨trivial, ?_⟩; gi_at_call 61; (with_reducible refine (callsIn_wide.2 (mV _ _)).mono ?_); rintro e w1 ⟨rfl, hb1⟩; obtain ⟨V1, rfl⟩ := zW w1; have HB1 := zH (HB0.o.trans (hb1.mono HB0.o.size)); have HS1 := zH (ab hb1 HS.o); have HR1 := zH (ab hb1 HR.o); have hz1 : w.heap.size + 2 <= V1.heap.size := (by have := hb1.size; simpa using this); obtain ⟨y0, y1, y2⟩ := eG (ag (o := .cells #[.int .i64 3, .string (str s.name), .int .i64 0, .slice none 0 0, .slice none 0 0] 39) HS1.o); clear hb1)
  | (refine ⟨trivial, ?_⟩; gi_at_call 115; (with_reducible refine (callsIn_wide.2 (Fg _ _ _ _)).mono ?_); rintro e w2 ⟨rfl, rfl⟩))
 obtain ⟨V2, hV2⟩ : ∃ W, W = (V1.alloc (.cells #[.int .i64 3, .string (str s.name), .int .i64 0, .slice none 0 0, .slice none 0 0] 39)).alloc (.cells #[.slice A2 s.ways.length k2] 48) := ⟨_, rfl⟩; have HE := zH (show V2.heap[V1.heap.size]? = some (.cells #[.int .i64 3, .string (str s.name), .int .i64 0, .slice none 0 0, .slice none 0 0] 39) from by rw [hV2]; exact ag (heap_alloc_new _ _)); have HBS := zH (show V2.heap[V1.heap.size + 1]? = some (.cells #[.slice A2 s.ways.length k2] 48) from by rw [hV2]; exact aF (by simp)); have hz2 : V2.heap.size = V1.heap.size + 2 := (by rw [hV2]; simp); have HB2 := zH (show Below V1.heap.size V1 V2 from by rw [hV2]; exact ((Below.refl _ _).alloc (Nat.le_refl _) _).alloc (by simp) _); rw [<- hV2]; clear hV2; have HW2 := zH (HW0.o.trans ((HB1.o.trans (HB2.o.mono HB1.o.size)).mono HW0.o.size)); have hw0 := HW2.o.size; have hwz := HW0.o.size; have hvz := HB1.o.size; refine wpIn_rangeFunc_ownH (F := Fence.wide) rfl zO (gf := 153) (lb := #[.pointer (some ⟨V1.heap.size + 1, 0, none⟩)]) rfl trivial (enters_of func153 zK rfl)
  (zs (3 - 1) zO (V1.heap.size + 1) HWV.o HW2.o HBS.o) (λ h k => h.trans k) (Ke hw0 zO) (Below.refl _ _) (λ _ => rfl)
  (λ pre W => (V1.heap.size + 2 <= W.heap.size /\ ∃ L : List Value, W.heap[V1.heap.size]? = some (.cells L.toArray 39 (0, 0)) /\ a7 (ij w0 (cj (V1.heap.size + 1) W)) L ((pre.map sY).reverse.foldr oK (qL s.name))) /\ Below V1.heap.size V1 W)
  (λ _ _ _ => False) ?own (λ _ _ _ _ _ hs _ _ => hs) ?start
  (λ x a' W => ∃ Bx, V1.heap.size + 2 <= Bx /\ W.heap[Bx]? = some (.cells x.1.2.1.toArray 93 (0, 0)) /\ a' = { tmps := #[.agg #[.string (str s.name), .slice A1 n1 k1, .slice A2 s.ways.length k2], .pointer (some ⟨w.heap.size, 0, none⟩), .pointer (some ⟨w.heap.size + 1, 0, none⟩), .pointer (some ⟨V1.heap.size, 0, none⟩), undef, .pointer (some ⟨Bx, 0, none⟩), .pointer (some ⟨w.heap.size, 0, none⟩), .string (str s.name), .agg #[.int .i64 3, .string (str s.name), .int .i64 0, .slice none 0 0, .slice none 0 0], .pointer (some ⟨w.heap.size, 2, none⟩), .slice A2 s.ways.length k2, .func (.func 153) #[] #[.pointer (some ⟨V1.heap.size + 1, 0, none⟩)], .int .i64 (x.1.1 : Int), .agg x.1.2.1.toArray, undef, undef, undef, undef, undef, undef, undef, undef, undef], defers := [] }) ?ax ?assign ?body ?done ?stop
 case own =>
  refine OwnFrom.and (Own.from (λ pre X Y row hs hg hr => ?_) _) (ownFrom_below (Nat.le_refl _) zO); obtain ⟨h0, L, h1, h2⟩ := hs; exact ⟨Nat.le_trans h0 hg.size, L, uO h1 hg hr, h2.sub (mL (vE hg hr))⟩
 case start => exact ⟨⟨by omega, _, HE.o, gA (cw zO) (cw zO) HSN.o dk dk⟩, HB2.o⟩
 case ax =>
  intro x a' _ X Y row hs hg hr; obtain ⟨Bx, h1, h2, h3⟩ := hs; exact ⟨Bx, h1, uO h2 hg (λ r e => (hr r e).2), h3⟩
 case assign =>
  rintro l pre ⟨⟨i, M, y⟩, h1, h2, h3⟩ W K ⟨⟨hsz, L, hE, hX⟩, hB⟩ hK; obtain ⟨o0, s1, o2, A3, n3, k3, A4, n4, k4, s5, rfl⟩ := h3.shape; dsimp only [Hv] at hK ⊢
  gi_wp2
  exact hK _ _ ((KeepsOthers.alloc _ _).from _) ⟨show Below w0.heap.size W _ from (Below.refl _ W).alloc zO _, Below.heap_alloc W _ _ zO⟩ ⟨⟨by rw [World.size_alloc]; omega, L, ag hE, hX.sub (mL (aL.sub ((aL.refl _ W).alloc _)))⟩, hB.alloc zO _⟩ ⟨W.heap.size, hsz, heap_alloc_new _ _, rfl⟩
 case body =>
  rintro l pre ⟨⟨i, M, y⟩, h1, h2, h3⟩ a' W hl ⟨r, hr⟩ ⟨⟨hsz, L, hE, hX⟩, hB⟩ ⟨Bx, hBx, hM, rfl⟩ hlen; have H3 := zH h3; have HX := zH hX; have HBW := zH hB; have HEW := zH hE; obtain ⟨o0, s1, o2, A3, n3, k3, A4, n4, k4, s5, rfl⟩ := h3.shape; obtain ⟨p0, t1, p2, B3, m3, l3, B4, m4, l4, rfl⟩ := hX.shape; have HM := zH hM; obtain ⟨u0, u1, u2, u3, u4, u5⟩ := uP hM; obtain ⟨e0, e1, e2, e3, e4⟩ := aN hE; clear hX hB hE; have KEEP := zH (show ∀ X, Below W.heap.size W X -> (λ X => X.cell? ⟨Bx, 0, none⟩ = some (.int .i64 o0) /\ X.cell? ⟨Bx, 1, none⟩ = some (.string s1) /\ X.cell? ⟨Bx, 2, none⟩ = some (.int .i64 o2) /\ X.cell? ⟨Bx, 3, none⟩ = some (.slice A3 n3 k3) /\ X.cell? ⟨Bx, 4, none⟩ = some (.slice A4 n4 k4) /\ X.cell? ⟨Bx, 5, none⟩ = some (.string s5)) X from λ X hX => uP (ab hX HM.o)); gi_wp2
  refine GU (S := (λ X => X.cell? ⟨Bx, 0, none⟩ = some (.int .i64 o0) /\ X.cell? ⟨Bx, 1, none⟩ = some (.string s1) /\ X.cell? ⟨Bx, 2, none⟩ = some (.int .i64 o2) /\ X.cell? ⟨Bx, 3, none⟩ = some (.slice A3 n3 k3) /\ X.cell? ⟨Bx, 4, none⟩ = some (.slice A4 n4 k4) /\ X.cell? ⟨Bx, 5, none⟩ = some (.string s5))) zK zK (λ ⟨_, _, h⟩ => h) ?_ (λ hHeld => ?_)
  . exact KEEP.o _ (Below.refl _ _).drew
  refine aa 0 ?_; refine aa 1 ?_; refine aa 2 ?_; refine aa 3 ?_; refine wpAnyH_ready (rs := [4, 5]) zK (by simp) (bh 4 rfl (λ K hK => ?_) (bh 5 rfl (λ K hK => ?_) AllReadyH.nil))
  . go_simp
    (go_at_call 61
     (with_reducible refine (mV _ _).mono ?_); rintro e w3 ⟨rfl, hb3⟩; obtain ⟨V3, rfl⟩ : ∃ X, X = w3 := ⟨_, rfl⟩; have HC3 := zH (show Below W.heap.size W V3 from (Below.refl _ W).drew.trans hb3); have HE3 := zH (ab HC3.o HEW.o); obtain ⟨c0, c1, c2, c3, c4⟩ := aN HE3.o; clear hb3)
    refine hK.out _ _ (KEEP.o _ ?_) (λ hHeld => ?_)
    . (repeat (first | exact Below.refl _ _ | exact HC3.o | refine Below.drew ?_ | refine Below.alloc ?_ (by simp) _ | refine Below.setCell ?_ (by simp) _))
    clear hK K; try simp only [Act.put, aK, aI, aJ]
    refine ay 5 zK rfl (λ K hK => ?_); go_simp
    refine hK.out _ _ (KEEP.o _ ?_) (λ hHeld => ?_)
    . (repeat (first | exact Below.refl _ _ | exact HC3.o | refine Below.drew ?_ | refine Below.alloc ?_ (by simp) _ | refine Below.setCell ?_ (by simp) _))
    clear hK K; try simp only [Act.put, aK, aI, aJ]
    have HE4 := zH (ag (o := .cells #[.int .i64 o0, .string s1, .int .i64 o2, .slice A3 n3 k3, .slice A4 n4 k4, .int .i64 3, .string s5, .int .i64 0, .slice none 0 0, .slice none 0 0, .int .i64 p0, .string t1, .int .i64 p2, .slice B3 m3 l3, .slice B4 m4 l4] 39) HE3.o); obtain ⟨g0, g1, g2, g3, g4⟩ := aN HE4.o; have j0 := ar HE4.o 0; have j1 := ar HE4.o 1; have j2 := ar HE4.o 2; have j3 := ar HE4.o 3; have j4 := ar HE4.o 4; refine ay 6 zK rfl (λ K hK => ?_); go_simp
    refine hK.out _ _ (KEEP.o _ ?_) (λ hHeld => ?_)
    . (repeat (first | exact Below.refl _ _ | exact (HC3.o.alloc HC3.o.size _) | refine Below.drew ?_ | refine Below.alloc ?_ (by simp) _ | refine Below.setCell ?_ (by simp) _))
    clear hK K; try simp only [Act.put, aK, aI, aJ]
    refine aa 7 ?_; refine ay 8 zK rfl (λ K hK => ?_); go_simp
    have hz3 := HC3.o.size; refine hK.out _ _ (uP ((dW zO _ _ _ _ _).trans (ag (ab HC3.o HM.o)))) (λ hHeld => ?_); clear hK K; try simp only [Act.put, aK, aI, aJ]
    refine wpAnyH_done zK ?_ _; have hR := p7 (B := V2.heap.size) hsz zO hz2 HC3.o HBW.o HE3.o HX.o H3.o _ rfl; refine ⟨hR.1, hR.2.1, ?_, hR.2.2.2⟩; rw [show ((pre ++ [⟨(i, _, y), h1, h2, h3⟩] : List (oI w0 A2 s.ways)).map sY).reverse.foldr oK (qL s.name) = oK y ((pre.map sY).reverse.foldr oK (qL s.name)) by rw [List.map_append, List.reverse_append]; rfl]; exact hR.2.2.1
  . go_simp
    refine hK.out _ _ (KEEP.o _ ?_) (λ hHeld => ?_)
    . (repeat (first | exact Below.refl _ _ | exact Below.refl _ _ | refine Below.drew ?_ | refine Below.alloc ?_ (by simp) _ | refine Below.setCell ?_ (by simp) _))
    clear hK K; try simp only [Act.put, aK, aI, aJ]
    refine ay 4 zK rfl (λ K hK => ?_); go_simp
    (go_at_call 61
     (with_reducible refine (mV _ _).mono ?_); rintro e w3 ⟨rfl, hb3⟩; obtain ⟨V3, rfl⟩ : ∃ X, X = w3 := ⟨_, rfl⟩; have HC3 := zH (show Below W.heap.size W V3 from (Below.refl _ W).drew.trans hb3); have HE3 := zH (ab HC3.o HEW.o); obtain ⟨c0, c1, c2, c3, c4⟩ := aN HE3.o; clear hb3)
    refine hK.out _ _ (KEEP.o _ ?_) (λ hHeld => ?_)
    . (repeat (first | exact Below.refl _ _ | exact HC3.o | refine Below.drew ?_ | refine Below.alloc ?_ (by simp) _ | refine Below.setCell ?_ (by simp) _))
    clear hK K; try simp only [Act.put, aK, aI, aJ]
    have HE4 := zH (ag (o := .cells #[.int .i64 o0, .string s1, .int .i64 o2, .slice A3 n3 k3, .slice A4 n4 k4, .int .i64 3, .string s5, .int .i64 0, .slice none 0 0, .slice none 0 0, .int .i64 p0, .string t1, .int .i64 p2, .slice B3 m3 l3, .slice B4 m4 l4] 39) HE3.o); obtain ⟨g0, g1, g2, g3, g4⟩ := aN HE4.o; have j0 := ar HE4.o 0; have j1 := ar HE4.o 1; have j2 := ar HE4.o 2; have j3 := ar HE4.o 3; have j4 := ar HE4.o 4; refine ay 6 zK rfl (λ K hK => ?_); go_simp
    refine hK.out _ _ (KEEP.o _ ?_) (λ hHeld => ?_)
    . (repeat (first | exact Below.refl _ _ | exact (HC3.o.alloc HC3.o.size _) | refine Below.drew ?_ | refine Below.alloc ?_ (by simp) _ | refine Below.setCell ?_ (by simp) _))
    clear hK K; try simp only [Act.put, aK, aI, aJ]
    refine aa 7 ?_; refine ay 8 zK rfl (λ K hK => ?_); go_simp
    have hz3 := HC3.o.size; refine hK.out _ _ (uP ((dW zO _ _ _ _ _).trans (ag (ab HC3.o HM.o)))) (λ hHeld => ?_); clear hK K; try simp only [Act.put, aK, aI, aJ]
    refine wpAnyH_done zK ?_ _; have hR := p7 (B := V2.heap.size) hsz zO hz2 HC3.o HBW.o HE3.o HX.o H3.o _ rfl; refine ⟨hR.1, hR.2.1, ?_, hR.2.2.2⟩; rw [show ((pre ++ [⟨(i, _, y), h1, h2, h3⟩] : List (oI w0 A2 s.ways)).map sY).reverse.foldr oK (qL s.name) = oK y ((pre.map sY).reverse.foldr oK (qL s.name)) by rw [List.map_append, List.reverse_append]; rfl]; exact hR.2.2.1
 case done =>
  rintro D xs W hD hxs ⟨⟨hsz, L, hE, hX⟩, hB⟩ hK; obtain ⟨p0, t1, p2, B3, m3, l3, B4, m4, l4, rfl⟩ := hX.shape; have HX := zH hX; have HBW := zH hB; have HR2 := zH (ab hB HR1.o); have HKD := zH hK; have HD := zH hD; obtain ⟨e0, e1, e2, e3, e4⟩ := aN hE; obtain ⟨r0, r1, r2, r3, r4⟩ := aN HR2.o; have f0 := ar HR2.o 0; have f1 := ar HR2.o 1; have f2 := ar HR2.o 2; have f3 := ar HR2.o 3; have f4 := ar HR2.o 4; clear hX hB hK hD; gi_wp2
  have hD := HD.o; have hKS : (((((W.setCell ⟨w.heap.size + 1, 0, none⟩ (.int .i64 p0)).setCell ⟨w.heap.size + 1, 1, none⟩ (.string t1)).setCell ⟨w.heap.size + 1, 2, none⟩ (.int .i64 p2)).setCell ⟨w.heap.size + 1, 3, none⟩ (.slice B3 m3 l3)).setCell ⟨w.heap.size + 1, 4, none⟩ (.slice B4 m4 l4)).heap[D]? = some (.deferred (some [])) := (dW zO _ _ _ _ _).trans HKD.o; refine ⟨by simp, .inl ⟨_, _, rfl, run_takeDeferred hKS, ?_⟩⟩; have hrow : ∀ r, some D = some r -> ∃ o : Obj, (((((W.setCell ⟨w.heap.size + 1, 0, none⟩ (.int .i64 p0)).setCell ⟨w.heap.size + 1, 1, none⟩ (.string t1)).setCell ⟨w.heap.size + 1, 2, none⟩ (.int .i64 p2)).setCell ⟨w.heap.size + 1, 3, none⟩ (.slice B3 m3 l3)).setCell ⟨w.heap.size + 1, 4, none⟩ (.slice B4 m4 l4)).heap[r]? = some o /\ o.isCells = false := λ r e => by cases e; exact ⟨_, hKS, rfl⟩
  refine ⟨.agg #[.int .i64 p0, .string t1, .int .i64 p2, .slice B3 m3 l3, .slice B4 m4 l4], tE (N := w.heap.size + 1) rfl ((World.putObj_heap_other zO).trans (bX _ _ _ _ _ HR2.o)), ?_, _, rfl, ?_⟩
  . exact (bD (HB1.o.trans (HBW.o.mono HB1.o.size)) (Nat.le_succ _) _ _ _ _ _).grown (grownBy_putObj' _ D _) (by rw [show (((((W.setCell ⟨w.heap.size + 1, 0, none⟩ (.int .i64 p0)).setCell ⟨w.heap.size + 1, 1, none⟩ (.string t1)).setCell ⟨w.heap.size + 1, 2, none⟩ (.int .i64 p2)).setCell ⟨w.heap.size + 1, 3, none⟩ (.slice B3 m3 l3)).setCell ⟨w.heap.size + 1, 4, none⟩ (.slice B4 m4 l4)).heap.size = W.heap.size by simp]; omega) (λ k e => by cases e; omega)
  . have hX := HX.o; rw [hxs, List.reverse_reverse] at hX; exact hX.sub (mL (Sub.trans (Sub.trans (aL.sub (dm (N := w.heap.size + 1) (aL.refl (V1.heap.size + 1) W) (.inl zO) _ _ _ _ _)) (vE (grownBy_putObj' _ D _) hrow)) (bj zO _)))
 case stop =>
  rintro D c pre W _ _ h _; exact h.elim
end Go.Proofs.YtkfacdofkfabnaaGreatDoor
namespace Go.Proofs.YtkfacdofkfabnaaGreatDoor
open _root_.Go.Proofs.Tryz
open Go.RowKit
def JEx (w0 : World) (V : World) (L : List Value) (x : Ex) : Prop := a7 (ij w0 V) L x
theorem yE {w0 : World} : ∀ (w w' : World) (L : List Value) (x : Ex), Sub w w' -> JEx w0 w L x -> JEx w0 w' L x := λ _ _ _ _ hs h => a7.sub h (mM hs)
theorem tG {tmps : Array Value} {w : World} {N : Nat} {x0 x1 x2 x3 x4 x5 x6 : Value} (hp : tmps.getD 6 undef = .pointer (some ⟨N, 0, none⟩)) (hg : w.heap[N]? = some (.cells #[x0, x1, x2, x3, x4, x5, x6] 44 (0, 0))) :
  (results f62 tmps).run prog w = .ok (.agg #[x0, x1, x2, x3, x4, x5, x6]) w :=
 results_cell_row results62 tmps w N 44 _ (0, 0) _ hp hg underlying44 rfl wB
theorem Kb (o1 n1 : Int) (s1 : ByteArray) (A1 A2 : Option Addr) (m1 k1 m2 k2 : Nat) : ∀ u ∈ [Value.int .i64 o1, .string s1, .int .i64 n1, .slice A1 m1 k1, .slice A2 m2 k2], u.oneCell' = true := by
 intro u hu; simp only [List.mem_cons, List.not_mem_nil, or_false] at hu; rcases hu with rfl | rfl | rfl | rfl | rfl <;> rfl
theorem Bt {w : World} {K : Nat} {T0 : TypeId} {a b c d e f g : Value} (x y z u v s t : Value) (h : w.heap[K]? = some (.cells #[a, b, c, d, e, f, g] T0 (0, 0))) : (((((((w.setCell ⟨K, 0, none⟩ x).setCell ⟨K, 1, none⟩ y).setCell ⟨K, 2, none⟩ z).setCell ⟨K, 3, none⟩ u).setCell ⟨K, 4, none⟩ v).setCell ⟨K, 5, none⟩ s).setCell ⟨K, 6, none⟩ t).heap[K]? = some (.cells #[x, y, z, u, v, s, t] T0 (0, 0)) := by
 have h1 := heap_setCell_same w K 0 _ _ x h; have h2 := heap_setCell_same _ K 1 _ _ y h1; have h3 := heap_setCell_same _ K 2 _ _ z h2; have h4 := heap_setCell_same _ K 3 _ _ u h3; have h5 := heap_setCell_same _ K 4 _ _ v h4; have h6 := heap_setCell_same _ K 5 _ _ s h5; have h7 := heap_setCell_same _ K 6 _ _ t h6; simpa using h7
theorem Bv {B N : Nat} {a w : World} (h : aL B a w) (hN : N < B ∨ a.heap.size <= N) (x y z u v p q : Value) : aL B a (((((((w.setCell ⟨N, 0, none⟩ x).setCell ⟨N, 1, none⟩ y).setCell ⟨N, 2, none⟩ z).setCell ⟨N, 3, none⟩ u).setCell ⟨N, 4, none⟩ v).setCell ⟨N, 5, none⟩ p).setCell ⟨N, 6, none⟩ q) :=
 ((((((h.set hN x).set hN y).set hN z).set hN u).set hN v).set hN p).set hN q
theorem zr {B N : Nat} {a w : World} (h : Below B a w) (hN : B <= N) (x y z u v p q : Value) : Below B a (((((((w.setCell ⟨N, 0, none⟩ x).setCell ⟨N, 1, none⟩ y).setCell ⟨N, 2, none⟩ z).setCell ⟨N, 3, none⟩ u).setCell ⟨N, 4, none⟩ v).setCell ⟨N, 5, none⟩ p).setCell ⟨N, 6, none⟩ q) :=
 ((((((h.setCell hN x).setCell hN y).setCell hN z).setCell hN u).setCell hN v).setCell hN p).setCell hN q
def Ip (i : a8) (w : World) (e : Ending) (w' : World) : Prop := Below w.heap.size w w' /\ ∃ M, e = .returned (.agg M.toArray) /\ bf (cj w.heap.size w') M i
theorem qa {w0 : World} {S C : Option Addr} {k c : Nat} {ss : List aM} {u v : ByteArray} {cur x : Tx} {g : FuncId} {cap : Array Value} {f : aM -> Ex} (hss : aw w0 (bt w0) (.slice S ss.length k) ss) (hcs : aH w0 (.slice C ss.length c) (ss.map aM.name))
  (hcur : cur.length <= maxLen) (hx : x.length <= maxLen) (hin : JJ w0 g cap f ss) (hsl : ∀ s ∈ ss, dU (f s)) (hl : ss.length <= 2097152) (w : World) (hw : Below w0.heap.size w0 w) :
  Calls prog 62 #[.agg #[.slice S ss.length k, .slice C ss.length c, .string u, .string (str cur), .string v], .string (str x), .func (.func g) #[] cap] w (Ip ⟨⟨[x], nL cur (ss.map aM.name) (ss.map f)⟩, []⟩ w) := by
 obtain ⟨eg, hin⟩ := hin; obtain ⟨S', k', he, h1, h2, h3⟩ := hss; obtain ⟨rfl, rfl⟩ : S = S' /\ k = k' := by simpa using he
 have hle : ss.length <= 9223372036854775807 := zO; have HB0 := zH ((zA w (.cells #[.slice S ss.length k, .slice C ss.length c, .string u, .string (str cur), .string v] 81)).alloc (by simp) (.cells #[.slice none 0 0, .int .i64 0, .string ⟨#[]⟩, .int .i64 0, .slice none 0 0, .slice none 0 0, .slice none 0 0] 44)); have HA := zH (ag (o := .cells #[.slice none 0 0, .int .i64 0, .string ⟨#[]⟩, .int .i64 0, .slice none 0 0, .slice none 0 0, .slice none 0 0] 44) (heap_alloc_new w (.cells #[.slice S ss.length k, .slice C ss.length c, .string u, .string (str cur), .string v] 81))); have HR := zH (aF (w := w.alloc (.cells #[.slice S ss.length k, .slice C ss.length c, .string u, .string (str cur), .string v] 81)) (o := .cells #[.slice none 0 0, .int .i64 0, .string ⟨#[]⟩, .int .i64 0, .slice none 0 0, .slice none 0 0, .slice none 0 0] 44) (n := w.heap.size + 1) (by simp)); have HW0 := zH hw; have HCS := zH hcs; have HL := zH hl; have HX := zH hx; have HCU := zH hcur; have HSL := zH hsl; have HH3 := zH h3; have HIN := zH hin; obtain ⟨x0, x1, x2, x3, x4⟩ := aN HA.o; clear hw hcs hcur hx hin hsl hl h1 h2 h3 he; go_enter func62, ntmps62
 go_wp2_with fail
 obtain ⟨V0, hV0⟩ : ∃ W, W = (w.alloc (.cells #[.slice S ss.length k, .slice C ss.length c, .string u, .string (str cur), .string v] 81)).alloc (.cells #[.slice none 0 0, .int .i64 0, .string ⟨#[]⟩, .int .i64 0, .slice none 0 0, .slice none 0 0, .slice none 0 0] 44) := ⟨_, rfl⟩; rw [<- hV0] at HB0 HA HR ⊢; have hz0 : V0.heap.size = w.heap.size + 2 := (by rw [hV0]; simp); clear hV0 x0 x1 x2 x3 x4; have HW1 := zH (HW0.o.trans (HB0.o.mono HW0.o.size)); go_loopg [7, 13] ss.length (λ gg v7 v13 wr => ∃ (j : Nat), j + gg = ss.length /\ v13 = .int .i64 j /\ Below V0.heap.size V0 wr /\ cN (JEx w0) V0.heap.size 39 5 wr v7 ((ss.take j).map f))
 case atStart => exact ⟨0, by omega, rfl, Below.refl _ _, by rw [List.take_zero]; exact cN.nil _⟩
 case round =>
  obtain ⟨j, hjg, rfl, hbw, hO⟩ := hrel; have HK := zH hjg; have HW := zH hbw; have HBw := zH (HW1.o.trans (hbw.mono HW1.o.size)); have HO := zH hO; obtain ⟨A6, m6, c6, rfl, hm6⟩ := hO.shape; have hzw := hbw.size; clear hjg hbw hO; by_cases hlt : j < ss.length
  . obtain ⟨s, hs⟩ := zG hlt; obtain ⟨L, hL, hst⟩ := HH3.o j s hs; have HIS := zH (HIN.o s (List.mem_of_getElem? hs) L hst); obtain ⟨ev, wv, rfl, hnl, hev, hwv⟩ := hst; obtain ⟨A1, n1, k1, rfl⟩ := aw.shape hev; obtain ⟨A2, n2, k2, rfl⟩ := aw.shape hwv; have HSN := zH (show (ss.take (j + 1)).map f = (ss.take j).map f ++ [f s] by rw [bo hs]; simp); have HLN := zH (show ((ss.take j).map f).length <= 2097152 by have := HL.o; rw [List.length_map, List.length_take]; omega); obtain ⟨a, rfl, ha, haa, d0, d1, d2⟩ := il (hL.under HBw.o); have HB4 := zH (HBw.o.alloc HBw.o.size (.cells #[.string (str s.name), .slice A1 n1 k1, .slice A2 n2 k2] 50)); obtain ⟨z0, z1, z2⟩ := eG (heap_alloc_new wr (.cells #[.string (str s.name), .slice A1 n1 k1, .slice A2 n2 k2] 50)); clear hs hL hnl hev hwv hm6
    go_wp2_with (first
     | (go_at_fn g
        refine (HIS.o _ HB4.o).mono ?_; rintro e w7 ⟨hb7, M, rfl, hM⟩; obtain ⟨V2, rfl⟩ := zW w7; have HM2 := zH hM; have G2 := zH hb7; have hz2 := hb7.size; obtain ⟨o3, s3, n3, A7, m7, k7, A8, m8, k8, rfl⟩ := hM.shape; have HO2 := zH (cN.same yE HO.o ((((aL.refl V0.heap.size wr).alloc (.cells #[.string (str s.name), .slice A1 n1 k1, .slice A2 n2 k2] 50)).trans (aL.below G2.o)).alloc (.cells #[.int .i64 o3, .string s3, .int .i64 n3, .slice A7 m7 k7, .slice A8 m8 k8] 39))); have HMO := zH (show JEx w0 (gp V0.heap.size (Value.slice A6 m6 c6).ownBlock (V2.alloc (.cells #[.int .i64 o3, .string s3, .int .i64 n3, .slice A7 m7 k7, .slice A8 m8 k8] 39))) [.int .i64 o3, .string s3, .int .i64 n3, .slice A7 m7 k7, .slice A8 m8 k8] (f s) from HM2.o.sub (mM (cO (B := V0.heap.size) (w' := V2.alloc (.cells #[.int .i64 o3, .string s3, .int .i64 n3, .slice A7 m7 k7, .slice A8 m8 k8] 39)) (ob := (Value.slice A6 m6 c6).ownBlock) ((aL.refl _ V2).alloc (.cells #[.int .i64 o3, .string s3, .int .i64 n3, .slice A7 m7 k7, .slice A8 m8 k8] 39)) (by simp; omega) (λ b hb => .inl (by have := (cN.ltM HO.o b hb).2; simp; omega))))); have HW5 := zH (((HW.o.alloc hzw (.cells #[.string (str s.name), .slice A1 n1 k1, .slice A2 n2 k2] 50)).trans (G2.o.mono (by simp; omega))).alloc (by simp at hz2; omega) (.cells #[.int .i64 o3, .string s3, .int .i64 n3, .slice A7 m7 k7, .slice A8 m8 k8] 39)); clear hb7 hM)
     | (at_builtin; refine ir (R := JEx w0) (B := V0.heap.size) (L := [.int .i64 o3, .string s3, .int .i64 n3, .slice A7 m7 k7, .slice A8 m8 k8]) yE rfl _ _ rfl underlying37 mQ rfl zD zD rfl rfl (heap_alloc_new _ _) rfl (Kb _ _ _ _ _ _ _ _ _) HO2.o HMO.o HLN.o ?_ ?_; (simp at hz2 ⊢; omega); (intro v5 w5 ho5 hb5; obtain ⟨A9, m9, c9, rfl, hm9⟩ := ho5.shape; have HO6 := zH ho5; have HW6 := zH (HW5.o.trans hb5); clear ho5 hb5 hm9)))
    go_roundg (ss.length - (j + 1))
    case measure => have := HK.o; omega
    case rel => exact ⟨j + 1, by omega, by go_num, HW6.o, by rw [HSN.o]; exact HO6.o⟩
  . have hke : j = ss.length := by have := HK.o; omega
    subst hke; rw [List.take_length] at HO; obtain rfl : m6 = ss.length := by rw [hm6, List.take_length, List.length_map]
    clear hm6; have HHA := zH (ab HW.o HA.o); have HRR := zH (ab HW.o HR.o); have HBN := zH (HBw.o.alloc HBw.o.size (.cells #[.string (str x)] 9)); obtain ⟨x0, x1, x2, x3, x4⟩ := aN (ag (o := .cells #[.string (str x)] 9) HHA.o); have HRN := zH (ag (o := .cells #[.string (str x)] 9) HRR.o); have HNN := zH (heap_alloc_new wr (.cells #[.string (str x)] 9)); have HV1 := zH ((HB0.o.trans (HW.o.mono HB0.o.size)).alloc (by have := HB0.o.size; omega) (.cells #[.string (str x)] 9)); have HAR := zH (show aw (wr.alloc (.cells #[.string (str x)] 9)) (a7 (wr.alloc (.cells #[.string (str x)] 9))) (.slice A6 ss.length c6) (ss.map f) from aw.mono ((cN.at_ yE HO.o).sub (fl _ _) λ _ _ h => a7.sub h (Sub.trans (mM (fl _ _)) (GP HBw.o))) ((Below.refl _ wr).alloc (Nat.le_refl _) _) λ _ _ h => a7.under h ((Below.refl _ wr).alloc (Nat.le_refl _) _)); have HCW := zH (HCS.o.under HBN.o); have hsl : ∀ a ∈ ss.map f, dU a := λ a ha => by obtain ⟨s, hs, rfl⟩ := List.mem_map.1 ha; exact HSL.o s hs
    have HMG := zH (se HCU.o HCW.o HAR.o (by simp) (by rw [List.length_map]; exact HL.o) hsl); clear hsl
    go_wp2_with (first
     | (go_at_call 59; (with_reducible refine HMG.o.mono ?_); rintro e w7 ⟨hb7, M, rfl, hM⟩; obtain ⟨V2, rfl⟩ := zW w7; have HM2 := zH hM; have G2 := zH hb7; obtain ⟨o3, s3, n3, A7, m7, k7, A8, m8, k8, rfl⟩ := hM.shape; clear hb7 hM)
     | (go_at_call 23; (with_reducible refine (kZ _).mono ?_); rintro e w8 ⟨rfl, hb8⟩; obtain ⟨V3, rfl⟩ := zW w8; have G3 := zH hb8; have HR3 := zH (ab hb8 (ab G2.o HRN.o)); have f0 := ar HR3.o 0; have f1 := ar HR3.o 1; have f2 := ar HR3.o 2; have f3 := ar HR3.o 3; have f4 := ar HR3.o 4; have f5 := ar HR3.o 5; have f6 := ar HR3.o 6; obtain ⟨r0, r1, r2, r3, r4, r5, r6⟩ := iO HR3.o; clear hb8))
    have hz9 := HB0.o.size; have hzr := HW.o.size; have hS7 := λ p q r i j l m => Sub.trans (aL.sub (Bv (N := w.heap.size + 1) (aL.refl (w.heap.size + 2) V3) (.inl (Nat.lt_succ_self _)) p q r i j l m)) (bj (B' := w.heap.size) zO _); refine bodyPost_ret (tG (N := w.heap.size + 1) rfl (Bt _ _ _ _ _ _ _ HR3.o)) rfl ⟨?_, _, rfl, [.slice (some ⟨wr.heap.size, 0, none⟩) 1 1, .int .i64 o3, .string s3, .int .i64 n3, .slice A7 m7 k7, .slice A8 m8 k8], _, rfl, ⟨_, _, rfl, ?_, ?_⟩, dk⟩
    . exact zr ((HV1.o.trans (G2.o.mono HV1.o.size)).trans (G3.o.mono (Nat.le_trans HV1.o.size G2.o.size))) (Nat.le_succ _) _ _ _ _ _ _ _
    . exact aH.sub (ig (c := #[.string (str x)]) (T := 9) (fz := (0, 0)) (by rw [ic zO]; exact ab G3.o (ab G2.o HNN.o)) ⟨rfl, HX.o⟩ rfl) (hS7 _ _ _ _ _ _ _)
    . exact HM2.o.sub (Sub.trans (Sub.trans (aL.sub (aL.below G3.o)) (bj (B' := w.heap.size + 2) (by simp; omega) _)) (hS7 _ _ _ _ _ _ _))
end Go.Proofs.YtkfacdofkfabnaaGreatDoor
