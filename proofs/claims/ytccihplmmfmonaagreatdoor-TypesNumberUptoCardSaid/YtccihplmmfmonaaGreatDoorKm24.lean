import Derived.Test.YtccihplmmfmonaaGreatDoorKm22
set_option maxHeartbeats 2000000
namespace Go.Proofs.YtccihplmmfmonaaGreatDoor
open _root_.Go.Proofs.Tryz
open Go.RowKit
def ez (w0 : World) (made : Bool) (rv : Value) : Prop :=
 ∃ nf cf, rv = .agg #[nf, cf, .int .i64 (eW made : Nat), .int .i64 (eU made : Nat)] /\ aR w0 nf (cM made) /\ aR w0 cf (jm made)
theorem uY (w0 : World) : ez w0 false (.agg #[.func (.func 74) #[] #[], .func (.func 75) #[] #[], .int .i64 8, .int .i64 24]) := ⟨_, _, rfl, F6 w0, I2 w0⟩
theorem xM (w0 : World) : ez w0 true (.agg #[.func (.func 76) #[] #[], .func (.func 78) #[] #[], .int .i64 32, .int .i64 9223372036854775807]) := ⟨_, _, rfl, vK w0, yU w0⟩
def Cy (made : Bool) (w : World) (e : Ending) (w' : World) : Prop := ∃ rv, e = .returned rv /\ Below w.heap.size w w' /\ ∀ w0, ez w0 made rv
theorem xN : (prog.info? 118).map (·.size) = some 4 := by kernel_rfl
theorem lA {tmps : Array Value} {w : World} {N : Nat} {x0 x1 x2 x3 : Value} (hp : tmps.getD 2 undef = .pointer (some ⟨N, 0, none⟩)) (hg : w.heap[N]? = some (.cells #[x0, x1, x2, x3] 118 (0, 0))) :
  (results f39 tmps).run prog w = .ok (.agg #[x0, x1, x2, x3]) w :=
 results_cell_row results39 tmps w N 118 _ (0, 0) _ hp hg underlying118 rfl xN
theorem tH (made : Bool) (w : World) : Calls prog 39 #[.bool made] w (Cy made w) := by
 cases made
 . go_enter func39, ntmps39
   go_wp2_with fail
   exact bodyPost_ret (lA rfl (heap_alloc_new w _)) rfl ⟨_, rfl, (Below.refl _ _).alloc (Nat.le_refl _) _, λ w0 => uY w0⟩
 . go_enter func39, ntmps39
   go_wp2_with fail
   exact bodyPost_ret (lA rfl (heap_alloc_new w _)) rfl ⟨_, rfl, (Below.refl _ _).alloc (Nat.le_refl _) _, λ w0 => xM w0⟩
theorem dR {a b : Bool} (h : a = b) {f : FuncId} {args : Array Value} {w : World} (hc : Calls prog f args w (ar a w)) : Calls prog f args w (ar b w) := h ▸ hc
theorem de {X : Type} {f : X -> Bool} (l : List X) (least most : Nat) (lo hi : Int) (h1 : lo = least) (h2 : hi = most) : (decide (lo <= l.length) && decide ((l.length : Int) <= hi) && l.all f) = fC l least most f := by
 subst h1 h2; unfold fC; congr 2 <;> (rw [Bool.eq_iff_iff]; simp)
theorem len_eq {X : Type} (l : List X) (a : Nat) : (decide ((a : Int) <= l.length) && decide ((l.length : Int) <= a)) = (l.length == a) := by
 rw [Bool.eq_iff_iff]; simp; omega
theorem mO {X : Type} (l : List X) : (decide ((0 : Int) <= l.length) && decide ((l.length : Int) <= 0)) = l.isEmpty := by
 rw [Bool.eq_iff_iff]; cases l <;> simp <;> omega
theorem dj (n : Int) : (decide (0 <= n) && decide (n <= 0)) = (n == 0) := by rw [Bool.eq_iff_iff]; simp; omega
theorem FV (n : Int) (h : uc n) : (decide (0 <= n) && decide (n <= 9223372036854775807)) = decide (0 <= n) := by
 obtain ⟨_, h⟩ := h; simp [h]
def df (made : Bool) (op : Int) (P0 P1 P2 P3 : Ex -> Bool) : Prop := ∀ nm n cs ks, uc n -> (P0 (.mk op nm n cs ks) && (P1 (.mk op nm n cs ks) && (P2 (.mk op nm n cs ks) && P3 (.mk op nm n cs ks)))) = bp made op nm n cs ks
theorem ic (a b c d : Bool) : (a && (b && (c && d))) = (a && b && c && d) := by simp [Bool.and_assoc]
theorem yq {X : Type} (l : List X) : (decide ((1 : Int) <= l.length) && decide ((l.length : Int) <= 1)) = (l.length == 1) := by rw [Bool.eq_iff_iff]; simp; omega
theorem yo {X : Type} (l : List X) : (decide ((2 : Int) <= l.length) && decide ((l.length : Int) <= 2)) = (l.length == 2) := by rw [Bool.eq_iff_iff]; simp; omega
theorem II {X : Type} (l : List X) : (decide ((3 : Int) <= l.length) && decide ((l.length : Int) <= 3)) = (l.length == 3) := by rw [Bool.eq_iff_iff]; simp; omega
theorem IJ {X : Type} (l : List X) : (decide ((1 : Int) <= l.length) && decide ((l.length : Int) <= 6)) = (decide (1 <= l.length) && decide (l.length <= 6)) := by rw [Bool.eq_iff_iff]; simp; omega
theorem IU (made : Bool) : df made 1 fx (λ x => decide (0 <= x.num) && decide (x.num <= 9223372036854775807)) cT kd := by
 intro nm n cs ks h; show ((nm == []) && ((decide (0 <= n) && decide (n <= 9223372036854775807)) && ((cs.isEmpty) && (decide ((0 : Int) <= ks.length) && decide ((ks.length : Int) <= 0))))) = bp made 1 nm n cs ks; rw [FV n h, mO ks]; simp only [bp, ↓reduceIte]; rw [ic]
theorem IT (made : Bool) : df made 2 fx (λ x => decide (0 <= x.num) && decide (x.num <= 1)) cT kd := by
 intro nm n cs ks _; show ((nm == []) && ((decide (0 <= n) && decide (n <= 1)) && ((cs.isEmpty) && (decide ((0 : Int) <= ks.length) && decide ((ks.length : Int) <= 0))))) = bp made 2 nm n cs ks; rw [mO ks]; simp only [bp, Int.reduceEq, ↓reduceIte]; rw [ic]
theorem IS (made : Bool) : df made 3 (λ x => (jm made) x.name) cq cT kd := by
 intro nm n cs ks _; show (((jm made) nm) && ((decide (0 <= n) && decide (n <= 0)) && ((cs.isEmpty) && (decide ((0 : Int) <= ks.length) && decide ((ks.length : Int) <= 0))))) = bp made 3 nm n cs ks; rw [dj n, mO ks]; simp only [bp, Int.reduceEq, ↓reduceIte]; rw [ic]
theorem IQ (made : Bool) : df made 4 (λ x => (cM made) x.name) cq cT kd := by
 intro nm n cs ks _; show (((cM made) nm) && ((decide (0 <= n) && decide (n <= 0)) && ((cs.isEmpty) && (decide ((0 : Int) <= ks.length) && decide ((ks.length : Int) <= 0))))) = bp made 4 nm n cs ks; rw [dj n, mO ks]; simp only [bp, Int.reduceEq, ↓reduceIte]; rw [ic]
theorem IP (made : Bool) : df made 5 (λ x => [[110, 111, 116], [45]].contains x.name) cq cT (λ x => decide ((1 : Int) <= x.kids.length) && decide ((x.kids.length : Int) <= 1)) := by
 intro nm n cs ks _; show (([[110, 111, 116], [45]].contains nm) && ((decide (0 <= n) && decide (n <= 0)) && ((cs.isEmpty) && (decide ((1 : Int) <= ks.length) && decide ((ks.length : Int) <= 1))))) = bp made 5 nm n cs ks; rw [dj n, yq ks]; simp only [bp, Int.reduceEq, ↓reduceIte]; rw [ic]
theorem IN (made : Bool) : df made 6 (λ x => wQ.contains x.name) cq cT (λ x => decide ((2 : Int) <= x.kids.length) && decide ((x.kids.length : Int) <= 2)) := by
 intro nm n cs ks _; show ((wQ.contains nm) && ((decide (0 <= n) && decide (n <= 0)) && ((cs.isEmpty) && (decide ((2 : Int) <= ks.length) && decide ((ks.length : Int) <= 2))))) = bp made 6 nm n cs ks; rw [dj n, yo ks]; simp only [bp, Int.reduceEq, ↓reduceIte]; rw [ic]
theorem IM (made : Bool) : df made 7 fx cq cT (λ x => decide ((3 : Int) <= x.kids.length) && decide ((x.kids.length : Int) <= 3)) := by
 intro nm n cs ks _; show ((nm == []) && ((decide (0 <= n) && decide (n <= 0)) && ((cs.isEmpty) && (decide ((3 : Int) <= ks.length) && decide ((ks.length : Int) <= 3))))) = bp made 7 nm n cs ks; rw [dj n, II ks]; simp only [bp, Int.reduceEq, ↓reduceIte]; rw [ic]
theorem IL (made : Bool) : df made 8 fx cq cT (λ x => decide ((2 : Int) <= x.kids.length) && decide ((x.kids.length : Int) <= 2)) := by
 intro nm n cs ks _; show ((nm == []) && ((decide (0 <= n) && decide (n <= 0)) && ((cs.isEmpty) && (decide ((2 : Int) <= ks.length) && decide ((ks.length : Int) <= 2))))) = bp made 8 nm n cs ks; rw [dj n, yo ks]; simp only [bp, Int.reduceEq, ↓reduceIte]; rw [ic]
theorem IK (made : Bool) : df made 9 fx cq cT (λ x => decide ((1 : Int) <= x.kids.length) && decide ((x.kids.length : Int) <= 1)) := by
 intro nm n cs ks _; show ((nm == []) && ((decide (0 <= n) && decide (n <= 0)) && ((cs.isEmpty) && (decide ((1 : Int) <= ks.length) && decide ((ks.length : Int) <= 1))))) = bp made 9 nm n cs ks; rw [dj n, yq ks]; simp only [bp, Int.reduceEq, ↓reduceIte]; rw [ic]
theorem Gp (made : Bool) : df made 10 fx cq cT (λ x => decide ((2 : Int) <= x.kids.length) && decide ((x.kids.length : Int) <= 2)) := by
 intro nm n cs ks _; show ((nm == []) && ((decide (0 <= n) && decide (n <= 0)) && ((cs.isEmpty) && (decide ((2 : Int) <= ks.length) && decide ((ks.length : Int) <= 2))))) = bp made 10 nm n cs ks; rw [dj n, yo ks]; simp only [bp, Int.reduceEq, ↓reduceIte]; rw [ic]
theorem Gn (made : Bool) : df made 11 (λ x => (cM made) x.name) cq (λ x => decide ((1 : Int) <= x.cons.length) && decide ((x.cons.length : Int) <= 1) && x.cons.all (jm made)) (λ x => decide ((1 : Int) <= x.kids.length) && decide ((x.kids.length : Int) <= 1)) := by
 intro nm n cs ks _; show (((cM made) nm) && ((decide (0 <= n) && decide (n <= 0)) && ((decide ((1 : Int) <= cs.length) && decide ((cs.length : Int) <= 1) && cs.all (jm made)) && (decide ((1 : Int) <= ks.length) && decide ((ks.length : Int) <= 1))))) = bp made 11 nm n cs ks; rw [dj n, yq ks, de cs 1 1 1 1 rfl rfl]; simp only [bp, Int.reduceEq, ↓reduceIte]; rw [ic]
theorem Gm (made : Bool) : df made 12 (λ x => (cM made) x.name) cq (λ x => decide ((1 : Int) <= x.cons.length) && decide ((x.cons.length : Int) <= 8) && x.cons.all (jm made)) (λ x => x.kids.length == x.cons.length) := by
 intro nm n cs ks _; show (((cM made) nm) && ((decide (0 <= n) && decide (n <= 0)) && ((decide ((1 : Int) <= cs.length) && decide ((cs.length : Int) <= 8) && cs.all (jm made)) && (ks.length == cs.length)))) = bp made 12 nm n cs ks; rw [dj n, de cs 1 8 1 8 rfl rfl]; simp only [bp, Int.reduceEq, ↓reduceIte]; rw [ic]
theorem Gl (made : Bool) : df made 13 (λ x => (cM made) x.name) cq (λ x => decide ((1 : Int) <= x.cons.length) && decide ((x.cons.length : Int) <= 8) && x.cons.all (jm made)) (λ x => x.kids.length == x.cons.length) := by
 intro nm n cs ks _; show (((cM made) nm) && ((decide (0 <= n) && decide (n <= 0)) && ((decide ((1 : Int) <= cs.length) && decide ((cs.length : Int) <= 8) && cs.all (jm made)) && (ks.length == cs.length)))) = bp made 13 nm n cs ks; rw [dj n, de cs 1 8 1 8 rfl rfl]; simp only [bp, Int.reduceEq, ↓reduceIte]; rw [ic]
theorem Gk (made : Bool) : df made 14 (λ x => (cM made) x.name) cq (λ x => decide ((0 : Int) <= x.cons.length) && decide ((x.cons.length : Int) <= 6) && x.cons.all (cM made)) (λ x => decide ((1 : Int) <= x.kids.length) && decide ((x.kids.length : Int) <= 6)) := by
 intro nm n cs ks _; show (((cM made) nm) && ((decide (0 <= n) && decide (n <= 0)) && ((decide ((0 : Int) <= cs.length) && decide ((cs.length : Int) <= 6) && cs.all (cM made)) && (decide ((1 : Int) <= ks.length) && decide ((ks.length : Int) <= 6))))) = bp made 14 nm n cs ks; rw [dj n, IJ ks, de cs 0 6 0 6 rfl rfl]; simp only [bp, Int.reduceEq, ↓reduceIte]; rw [ic]
theorem Gj (made : Bool) : df made 15 fx cq cT (λ x => x.kids.length == 2 && (x.kids.headD sG).op == 14) := by
 intro nm n cs ks _; show ((nm == []) && ((decide (0 <= n) && decide (n <= 0)) && ((cs.isEmpty) && (ks.length == 2 && (ks.headD sG).op == 14)))) = bp made 15 nm n cs ks; rw [dj n]; simp only [bp, Int.reduceEq, ↓reduceIte]; rw [ic]; rfl
def GV (made : Bool) (op : Int) (w : World) (e : Ending) (w' : World) : Prop :=
 (∃ P0 P1 P2 P3, df made op P0 P1 P2 P3 /\ eI P0 P1 P2 P3 w e w') ∨
 (e = .returned (.tuple #[.agg #[.nilFunc, .nilFunc, .nilFunc, .nilFunc], .bool false]) /\ Below w.heap.size w w' /\ ∀ nm n cs ks, bp made op nm n cs ks = false)
theorem Da {gn gc : FuncId} {cn cc : Array Value} (en it op : Int) (w : World) (h1 : op ≠ 1) (h2 : op ≠ 2) (h3 : op ≠ 3) (h4 : op ≠ 4) (h5 : op ≠ 5) (h6 : op ≠ 6) (h7 : op ≠ 7) (h8 : op ≠ 8) (h9 : op ≠ 9) (h10 : op ≠ 10) (h11 : op ≠ 11) (h12 : op ≠ 12) (h13 : op ≠ 13) (h14 : op ≠ 14) (h15 : op ≠ 15) :
  Calls prog 195 #[.agg #[.func (.func gn) #[] cn, .func (.func gc) #[] cc, .int .i64 en, .int .i64 it], .int .i64 op] w λ e w' => e = .returned (.tuple #[.agg #[.nilFunc, .nilFunc, .nilFunc, .nilFunc], .bool false]) /\ Below w.heap.size w w' := by
 go_enter func195, ntmps195
 go_wp2_with (go_at_call 205; refine (dr _).mono ?_; rintro e w' ⟨rfl, rfl⟩)
 exact bodyPost_ret (bo rfl rfl (by simp only [ak, Array.getElem?_push, Array.size_push]; repeat (first | rfl | rw [if_neg zO] | rw [if_pos zO]))) rfl ⟨rfl, by repeat (first | exact Below.refl _ _ | refine Below.drew ?_ | refine Below.alloc ?_ (by simp <;> omega) _)⟩
theorem Fy {made : Bool} {rv : Value} {w0 w : World} (hr : ez w0 made rv) (hw : Below w0.heap.size w0 w) (op : Int) : Calls prog 195 #[rv, .int .i64 op] w (GV made op w) := by
 obtain ⟨nf, cf, rfl, hn, hc⟩ := hr; have hn := hn.under hw; have hc := hc.under hw; by_cases h1 : op = 1
 . subst h1; exact (Jy _ _ w hn hc).mono λ e w' h => .inl ⟨_, _, _, _, IU made, h⟩
 by_cases h2 : op = 2
 . subst h2; exact (Jx _ _ w hn hc).mono λ e w' h => .inl ⟨_, _, _, _, IT made, h⟩
 by_cases h3 : op = 3
 . subst h3; exact (Jw _ _ w hn hc).mono λ e w' h => .inl ⟨_, _, _, _, IS made, h⟩
 by_cases h4 : op = 4
 . subst h4; exact (Jv _ _ w hn hc).mono λ e w' h => .inl ⟨_, _, _, _, IQ made, h⟩
 by_cases h5 : op = 5
 . subst h5; exact (Ju _ _ w hn hc).mono λ e w' h => .inl ⟨_, _, _, _, IP made, h⟩
 by_cases h6 : op = 6
 . subst h6; exact (Jt _ _ w hn hc).mono λ e w' h => .inl ⟨_, _, _, _, IN made, h⟩
 by_cases h7 : op = 7
 . subst h7; exact (Js _ _ w hn hc).mono λ e w' h => .inl ⟨_, _, _, _, IM made, h⟩
 by_cases h8 : op = 8
 . subst h8; exact (Jr _ _ w hn hc).mono λ e w' h => .inl ⟨_, _, _, _, IL made, h⟩
 by_cases h9 : op = 9
 . subst h9; exact (Jq _ _ w hn hc).mono λ e w' h => .inl ⟨_, _, _, _, IK made, h⟩
 by_cases h10 : op = 10
 . subst h10; exact (Il _ _ w hn hc).mono λ e w' h => .inl ⟨_, _, _, _, Gp made, h⟩
 by_cases h11 : op = 11
 . subst h11; exact (Ik _ _ w hn hc).mono λ e w' h => .inl ⟨_, _, _, _, Gn made, h⟩
 by_cases h12 : op = 12
 . subst h12; exact (Ij _ _ w hn hc).mono λ e w' h => .inl ⟨_, _, _, _, Gm made, h⟩
 by_cases h13 : op = 13
 . subst h13; exact (Ii _ _ w hn hc).mono λ e w' h => .inl ⟨_, _, _, _, Gl made, h⟩
 by_cases h14 : op = 14
 . subst h14; exact (Ih _ _ w hn hc).mono λ e w' h => .inl ⟨_, _, _, _, Gk made, h⟩
 by_cases h15 : op = 15
 . subst h15; exact (Ig _ _ w hn hc).mono λ e w' h => .inl ⟨_, _, _, _, Gj made, h⟩
 obtain ⟨gn, cn, rfl, _⟩ := hn; obtain ⟨gc, cc, rfl, _⟩ := hc; refine (Da _ _ op w h1 h2 h3 h4 h5 h6 h7 h8 h9 h10 h11 h12 h13 h14 h15).mono λ e w' h => .inr ⟨h.1, h.2, λ nm n cs ks => ?_⟩; simp only [bp, h1, h2, h3, h4, h5, h6, h7, h8, h9, h10, h11, h12, h13, h14, h15, if_false]
theorem AZ {w0 : World} {v0 v1 v2 v3 : Value} {P0 P1 P2 P3 : Ex -> Bool} {x : Ex} {L : List Value} (h0 : lx w0 v0 P0) (h1 : lx w0 v1 P1) (h2 : lx w0 v2 P2) (h3 : lx w0 v3 P3) (hL : bL w0 L x) :
  ∀ w, Below w0.heap.size w0 w -> Calls prog 196 #[.agg #[v0, v1, v2, v3], .agg L.toArray] w (ar (P0 x && (P1 x && (P2 x && P3 x))) w) := by
  intro w hw; obtain ⟨g0, c0, rfl, e0, h0⟩ := h0; obtain ⟨g1, c1, rfl, e1, h1⟩ := h1; obtain ⟨g2, c2, rfl, e2, h2⟩ := h2; obtain ⟨g3, c3, rfl, e3, h3⟩ := h3; have e0 : ∀ (args : Array Value) (W : World), (callFunc g0 args).run prog W = .ok (.enter g0 args) W := e0; have e1 : ∀ (args : Array Value) (W : World), (callFunc g1 args).run prog W = .ok (.enter g1 args) W := e1; have e2 : ∀ (args : Array Value) (W : World), (callFunc g2 args).run prog W = .ok (.enter g2 args) W := e2; have e3 : ∀ (args : Array Value) (W : World), (callFunc g3 args).run prog W = .ok (.enter g3 args) W := e3; have H0 := zH (λ w hw => h0 x L w hw (hL.under hw)); have H1 := zH (λ w hw => h1 x L w hw (hL.under hw)); have H2 := zH (λ w hw => h2 x L w hw (hL.under hw)); have H3 := zH (λ w hw => h3 x L w hw (hL.under hw)); obtain ⟨o1, s1, n1, A1, m1, k1, A2, m2, k2, rfl⟩ := hL.shape; have HW := zH hw; have hsz := hw.size; clear hw h0 h1 h2 h3 hL; go_enter func196, ntmps196
  go_wp2_with (first | (go_at_fn g0; (refine (H0.o _ ?hB).mono ?_); (case hB => exact (HW.o.alloc zO _).alloc (by simp; omega) _); rintro e w1 ⟨rfl, hb1⟩; have hs1 := hb1.size; simp at hs1; have HB1 := zH (((HW.o.alloc zO _).alloc (by simp; omega) _).trans (hb1.mono (by simp; omega))); have HC1 := zH ((((Below.refl _ _).alloc (Nat.le_refl _) _).alloc (by simp) _).trans (hb1.mono (by simp; omega))); have ba1 := iz hb1; have bb1 := iy hb1; obtain ⟨x1_0, x1_1, x1_2, x1_3⟩ := cH ba1; obtain ⟨y1_0, y1_1, y1_2, y1_3, y1_4⟩ := aV bb1; have BA1 := zH ba1; have BB1 := zH bb1; clear ba1 bb1; clear hb1) | (go_at_fn g1; (refine (H1.o _ ?hB).mono ?_); (case hB => exact HB1.o); rintro e w2 ⟨rfl, hb2⟩; have hs2 := hb2.size; have HB2 := zH ((HB1.o).trans (hb2.mono zO)); have HC2 := zH ((HC1.o).trans (hb2.mono zO)); have ba2 := ao hb2 BA1.o; have bb2 := ao hb2 BB1.o; obtain ⟨x2_0, x2_1, x2_2, x2_3⟩ := cH ba2; obtain ⟨y2_0, y2_1, y2_2, y2_3, y2_4⟩ := aV bb2; have BA2 := zH ba2; have BB2 := zH bb2; clear ba2 bb2; clear hb2) | (go_at_fn g2; (refine (H2.o _ ?hB).mono ?_); (case hB => exact HB2.o); rintro e w3 ⟨rfl, hb3⟩; have hs3 := hb3.size; have HB3 := zH ((HB2.o).trans (hb3.mono zO)); have HC3 := zH ((HC2.o).trans (hb3.mono zO)); have ba3 := ao hb3 BA2.o; have bb3 := ao hb3 BB2.o; obtain ⟨x3_0, x3_1, x3_2, x3_3⟩ := cH ba3; obtain ⟨y3_0, y3_1, y3_2, y3_3, y3_4⟩ := aV bb3; have BA3 := zH ba3; have BB3 := zH bb3; clear ba3 bb3; clear hb3) | (go_at_fn g3; (refine (H3.o _ ?hB).mono ?_); (case hB => exact HB3.o); rintro e w4 ⟨rfl, hb4⟩; have hs4 := hb4.size; have HB4 := zH ((HB3.o).trans (hb4.mono zO)); have HC4 := zH ((HC3.o).trans (hb4.mono zO)); clear hb4))
  all_goals go_ret
  all_goals refine ⟨ah ?_, ?_⟩
  all_goals first | exact HC4.o | exact HC3.o | exact HC2.o | exact HC1.o | exact ((Below.refl _ _).alloc (Nat.le_refl _) _).alloc (by simp) _ | skip
  all_goals simp_all
theorem wB {made : Bool} {rv : Value} {w0 : World} (hr : ez w0 made rv) : ∀ (x : Ex) (L : List Value), bL w0 L x -> ∀ w, Below w0.heap.size w0 w -> Calls prog 177 #[rv, .agg L.toArray] w (ar (bG made x) w) := by
 intro x; induction x using Ex.ind with
 | h op nm n cs ks ih =>
   intro L hL w hw; obtain ⟨cv, kv, rfl, hop, hnm, hn, hcs, hks⟩ := hL.open_; have HR := zH (λ w hw => Fy hr hw op (w := w)); have HS := zH (λ w (hw : Below w0.heap.size w0 w) => hL.under hw); have hA0 := λ w hw => dR (de _ 0 9223372036854775807 0 9223372036854775807 rfl rfl) (EX (lo := 0) (hi := 9223372036854775807) (f := bG made) (rv := rv) hks (λ y hy L hx => ih y hy L hx) w hw); have hle : ks.length <= 9223372036854775807 := (by obtain ⟨_, _, _, h1, h2, _⟩ := hks; unfold maxLen at h2; omega); have hA := zH (λ w hw => dR (show fC ks 0 9223372036854775807 (bG made) = kK made ks by rw [jP, fC]; simp [hle]) (hA0 w hw)); have HN := zH hn; obtain ⟨nf, cf, rfl, ⟨gn, cn, rfl, _⟩, ⟨gc, cc, rfl, _⟩⟩ := hr; obtain ⟨A1, n1, k1, rfl⟩ := an.shape hcs; obtain ⟨A2, n2, k2, rfl⟩ := an.shape hks; have HW := zH hw; have hsz := hw.size; generalize ((eU made : Nat) : Int) = NI at *; generalize ((eW made : Nat) : Int) = NE at *; clear hw hcs hks hL ih hA0 hn hop hnm hle; go_enter func177, ntmps177
   go_wp2_with (first | (go_at_call 195; refine (HR.o _ ((HW.o.alloc zO _).alloc (by simp; omega) _)).mono ?_; intro e w1 hrow; rcases hrow with ⟨P0, P1, P2, P3, hfit, v0, v1, v2, v3, rfl, hb1, f0, f1, f2, f3⟩ | ⟨rfl, hb1, hno⟩ <;> (have hs1 := hb1.size; simp at hs1; have hlt0 : w.heap.size < w1.heap.size := zO; have hlt1 : w.heap.size + 1 < w1.heap.size := zO; have hne0 : w.heap.size ≠ w1.heap.size := zO; have hne1 : w.heap.size + 1 ≠ w1.heap.size := zO; have HB1 := zH (((HW.o.alloc zO _).alloc (by simp; omega) _).trans (hb1.mono (by simp; omega))); have HC1 := zH ((((Below.refl _ _).alloc (Nat.le_refl _) _).alloc (by simp) _).trans (hb1.mono (by simp; omega))); have ba1 := iz hb1; have bb1 := iy hb1; obtain ⟨x1_0, x1_1, x1_2, x1_3⟩ := cH ba1; obtain ⟨y1_0, y1_1, y1_2, y1_3, y1_4⟩ := aV bb1; have BA1 := zH ba1; have BB1 := zH bb1; clear ba1 bb1 hb1) <;> first | (have HFT := zH (λ w' hw' => dR (hfit nm n cs ks HN.o) (AZ f0 f1 f2 f3 (HS.o w1 HB1.o) w' hw')); obtain ⟨g0, c0, rfl, _⟩ := f0; obtain ⟨g1, c1, rfl, _⟩ := f1; obtain ⟨g2, c2, rfl, _⟩ := f2; obtain ⟨g3, c3, rfl, _⟩ := f3; clear hfit) | (have hno1 := hno nm n cs ks; clear hno)) | (go_at_call 196; refine (HFT.o _ ((Below.refl _ _).alloc (Nat.le_refl _) _)).mono ?_; rintro e w2 ⟨rfl, hb2⟩; have hs2 := hb2.size; simp at hs2; have HB2 := zH ((HB1.o.alloc zO _).trans (hb2.mono (by simp; omega))); have HC2 := zH ((HC1.o.alloc zO _).trans (hb2.mono (by simp; omega))); have ba2 := (hb2.block _ (by simp; omega)).trans ((Below.heap_alloc w1 _ _ (ab BA1.o)).trans BA1.o); have bb2 := (hb2.block _ (by simp; omega)).trans ((Below.heap_alloc w1 _ _ (ab BB1.o)).trans BB1.o); obtain ⟨x2_0, x2_1, x2_2, x2_3⟩ := cH ba2; obtain ⟨y2_0, y2_1, y2_2, y2_3, y2_4⟩ := aV bb2; clear ba2 bb2 hb2) | (go_at_call 197; refine (hA.o _ HB2.o).mono ?_; rintro e w3 ⟨rfl, hb3⟩; have HC3 := zH (HC2.o.trans (hb3.mono zO)); clear hb3))
   all_goals go_ret
   all_goals refine ⟨ah ?_, ?_⟩
   all_goals first | exact HC3.o | exact HC2.o | exact HC1.o.alloc zO _ | skip
   all_goals simp_all [bG]
theorem mX {made : Bool} {rv : Value} {w0 : World} {x : QEq} {L : List Value} (hr : ez w0 made rv) (hL : l8 w0 L x) : ∀ w, Below w0.heap.size w0 w -> Calls prog 156 #[rv, .agg L.toArray] w (ar (fo made x) w) := by
  intro w hw; have hr0 := hr; obtain ⟨nf, cf, rfl, ⟨gn, cn, rfl, egn, hfn⟩, ⟨gc, cc, rfl, egc, hfc⟩⟩ := hr; have egn : ∀ (args : Array Value) (W : World), (callFunc gn args).run prog W = .ok (.enter gn args) W := egn; have egc : ∀ (args : Array Value) (W : World), (callFunc gc args).run prog W = .ok (.enter gc args) W := egc; obtain ⟨va, L', rfl, ha, hx⟩ := hL; have hA := zH (λ w hw => dR (de _ 1 6 1 6 rfl rfl) (fS (lo := 1) (hi := 6) (f := cM made) ha egn (λ x _ hx w hw => hfn x hx w hw) w hw)); have hF := zH (λ w hw => wB hr0 _ _ hx w hw); obtain ⟨A0, n0, k0, rfl⟩ := an.shape ha; obtain ⟨po1, ps2, po3, pA4, pn4, pk4, pA5, pn5, pk5, rfl⟩ := hx.shape; clear ha hx hr0 hfn hfc; have HW := zH hw; have hsz := hw.size; clear hw; go_enter func156, ntmps156
  go_wp2_with (first | (go_at_call 123; (with_reducible refine (hA.o _ ?hB).mono ?_); (case hB => exact (HW.o.alloc zO _).alloc (by simp; omega) _); rintro e w1 ⟨rfl, hb1⟩; have hs1 := hb1.size; simp at hs1; have HB1 := zH (((HW.o.alloc zO _).alloc (by simp; omega) _).trans (hb1.mono (by simp; omega))); have HC1 := zH ((((Below.refl _ _).alloc (Nat.le_refl _) _).alloc (by simp) _).trans (hb1.mono (by simp; omega))); have ba1 := iz hb1; have bb1 := iy hb1; obtain ⟨x1_0, x1_1, x1_2, x1_3⟩ := cH ba1; obtain ⟨y1_0, y1_1, y1_2, y1_3, y1_4, y1_5⟩ := Db bb1; have BA1 := zH ba1; have BB1 := zH bb1; clear ba1 bb1; clear hb1) | (go_at_call 177; (with_reducible refine (hF.o _ ?hB).mono ?_); (case hB => exact HB1.o); rintro e w2 ⟨rfl, hb2⟩; have hs2 := hb2.size; have HB2 := zH ((HB1.o).trans (hb2.mono zO)); have HC2 := zH ((HC1.o).trans (hb2.mono zO)); clear hb2))
  all_goals go_ret
  all_goals refine ⟨ah ?_, ?_⟩
  all_goals first | exact HC2.o | exact HC1.o | exact ((Below.refl _ _).alloc (Nat.le_refl _) _).alloc (by simp) _ | skip
  all_goals simp_all [fo]
theorem Fk {made : Bool} {rv : Value} {w0 : World} {x : iK} {L : List Value} (hr : ez w0 made rv) (hL : gm w0 L x) : ∀ w, Below w0.heap.size w0 w -> Calls prog 182 #[rv, .agg L.toArray] w (ar (jQ made x) w) := by
  intro w hw; have hr0 := hr; obtain ⟨nf, cf, rfl, ⟨gn, cn, rfl, egn, hfn⟩, ⟨gc, cc, rfl, egc, hfc⟩⟩ := hr; have egn : ∀ (args : Array Value) (W : World), (callFunc gn args).run prog W = .ok (.enter gn args) W := egn; have egc : ∀ (args : Array Value) (W : World), (callFunc gc args).run prog W = .ok (.enter gc args) W := egc; obtain ⟨L', rfl, hx, hto⟩ := hL; have hA := zH (hfc _ hto); have hF := zH (λ w hw => wB hr0 _ _ hx w hw); obtain ⟨po1, ps2, po3, pA4, pn4, pk4, pA5, pn5, pk5, rfl⟩ := hx.shape; simp only [List.cons_append, List.nil_append]; clear hx hr0 hfn hfc; have HW := zH hw; have hsz := hw.size; clear hw; go_enter func182, ntmps182
  go_wp2_with (first | (go_at_fn gc; (refine (hA.o _ ?hB).mono ?_); (case hB => exact (HW.o.alloc zO _).alloc (by simp; omega) _); rintro e w1 ⟨rfl, hb1⟩; have hs1 := hb1.size; simp at hs1; have HB1 := zH (((HW.o.alloc zO _).alloc (by simp; omega) _).trans (hb1.mono (by simp; omega))); have HC1 := zH ((((Below.refl _ _).alloc (Nat.le_refl _) _).alloc (by simp) _).trans (hb1.mono (by simp; omega))); have ba1 := iz hb1; have bb1 := iy hb1; obtain ⟨x1_0, x1_1, x1_2, x1_3⟩ := cH ba1; obtain ⟨y1_0, y1_1, y1_2, y1_3, y1_4, y1_5⟩ := Db bb1; have BA1 := zH ba1; have BB1 := zH bb1; clear ba1 bb1; clear hb1) | (go_at_call 177; (with_reducible refine (hF.o _ ?hB).mono ?_); (case hB => exact HB1.o); rintro e w2 ⟨rfl, hb2⟩; have hs2 := hb2.size; have HB2 := zH ((HB1.o).trans (hb2.mono zO)); have HC2 := zH ((HC1.o).trans (hb2.mono zO)); clear hb2))
  all_goals go_ret
  all_goals refine ⟨ah ?_, ?_⟩
  all_goals first | exact HC2.o | exact HC1.o | exact ((Below.refl _ _).alloc (Nat.le_refl _) _).alloc (by simp) _ | skip
  all_goals simp_all [jQ]
theorem AW {made : Bool} {rv : Value} {w0 : World} {x : aZ} {L : List Value} (hr : ez w0 made rv) (hL : cd w0 L x) : ∀ w, Below w0.heap.size w0 w -> Calls prog 159 #[rv, .agg L.toArray] w (ar (fN made x) w) := by
  intro w hw; have hr0 := hr; obtain ⟨nf, cf, rfl, ⟨gn, cn, rfl, egn, hfn⟩, ⟨gc, cc, rfl, egc, hfc⟩⟩ := hr; have egn : ∀ (args : Array Value) (W : World), (callFunc gn args).run prog W = .ok (.enter gn args) W := egn; have egc : ∀ (args : Array Value) (W : World), (callFunc gc args).run prog W = .ok (.enter gc args) W := egc; obtain ⟨va, vb, rfl, hnm, ha, hb⟩ := hL; have hA := zH (hfc _ hnm); have hE := zH (λ w hw => dR (de _ (0) (24) (0) (24) rfl rfl) (Je (lo := 0) (hi := 24) (f := fo made) (rv := .agg #[.func (.func gn) #[] cn, .func (.func gc) #[] cc, .int .i64 (eW made : Nat), .int .i64 (eU made : Nat)]) ha (λ x _ L hx => mX hr0 hx) w hw)); have hF := zH (λ w hw => dR (de _ (0) (4) (0) (4) rfl rfl) (GR (lo := 0) (hi := 4) (f := jQ made) (rv := .agg #[.func (.func gn) #[] cn, .func (.func gc) #[] cc, .int .i64 (eW made : Nat), .int .i64 (eU made : Nat)]) hb (λ x _ L hx => Fk hr0 hx) w hw)); obtain ⟨A1, n1, k1, rfl⟩ := an.shape ha; obtain ⟨A2, n2, k2, rfl⟩ := an.shape hb; clear ha hb hr0 hfn hfc; have HW := zH hw; have hsz := hw.size; clear hw; go_enter func159, ntmps159
  go_wp2_with (first | (go_at_fn gc; (refine (hA.o _ ?hB).mono ?_); (case hB => exact (HW.o.alloc zO _).alloc (by simp; omega) _); rintro e w1 ⟨rfl, hb1⟩; have hs1 := hb1.size; simp at hs1; have HB1 := zH (((HW.o.alloc zO _).alloc (by simp; omega) _).trans (hb1.mono (by simp; omega))); have HC1 := zH ((((Below.refl _ _).alloc (Nat.le_refl _) _).alloc (by simp) _).trans (hb1.mono (by simp; omega))); have ba1 := iz hb1; have bb1 := iy hb1; obtain ⟨x1_0, x1_1, x1_2, x1_3⟩ := cH ba1; obtain ⟨y1_0, y1_1, y1_2⟩ := bI bb1; have BA1 := zH ba1; have BB1 := zH bb1; clear ba1 bb1; clear hb1) | (go_at_call 180; (with_reducible refine (hE.o _ ?hB).mono ?_); (case hB => exact HB1.o); rintro e w2 ⟨rfl, hb2⟩; have hs2 := hb2.size; have HB2 := zH ((HB1.o).trans (hb2.mono zO)); have HC2 := zH ((HC1.o).trans (hb2.mono zO)); have ba2 := ao hb2 BA1.o; have bb2 := ao hb2 BB1.o; obtain ⟨x2_0, x2_1, x2_2, x2_3⟩ := cH ba2; obtain ⟨y2_0, y2_1, y2_2⟩ := bI bb2; have BA2 := zH ba2; have BB2 := zH bb2; clear ba2 bb2; clear hb2) | (go_at_call 181; (with_reducible refine (hF.o _ ?hB).mono ?_); (case hB => exact HB2.o); rintro e w3 ⟨rfl, hb3⟩; have hs3 := hb3.size; have HB3 := zH ((HB2.o).trans (hb3.mono zO)); have HC3 := zH ((HC2.o).trans (hb3.mono zO)); clear hb3))
  all_goals go_ret
  all_goals refine ⟨ah ?_, ?_⟩
  all_goals first | exact HC3.o | exact HC2.o | exact HC1.o | exact ((Below.refl _ _).alloc (Nat.le_refl _) _).alloc (by simp) _ | skip
  all_goals simp_all [fN]
theorem Fg (w : World) : bL w [.int .i64 0, .string ⟨#[]⟩, .int .i64 0, .slice none 0 0, .slice none 0 0] sG :=
 bL.mk (nm := []) (cs := []) (ks := []) (C := λ _ => []) ⟨by decide, by decide⟩ (by simp) ⟨by decide, by decide⟩ ⟨none, 0, rfl, Nat.le_refl _, by unfold maxLen; omega, λ i x h => by simp at h⟩ (Nat.le_refl _) (by unfold maxLen; omega) (λ i k h => by simp at h) (λ i k h => by simp at h)
theorem DU {made : Bool} {rv : Value} {w0 : World} {x : bd} {L : List Value} (hr : ez w0 made rv) (hL : dv w0 L x) : ∀ w, Below w0.heap.size w0 w -> Calls prog 125 #[rv, .agg L.toArray] w (ar (cJ made x) w) := by
  intro w hw; have hr0 := hr; obtain ⟨nf, cf, rfl, ⟨gn, cn, rfl, _⟩, ⟨gc, cc, rfl, _⟩⟩ := hr; obtain ⟨⟨names, e⟩, states⟩ := x; obtain ⟨L', sv, rfl, hx, hs⟩ := hL; have hE := zH (mX hr0 hx); obtain ⟨nv, L'', rfl, hnv, hxx⟩ := hx; have hSE := zH (λ w hw => tE _ _ _ _ hxx (Fg w0) w hw); have hAS := zH (λ w hw => dR (de _ (1) (8) (1) (8) rfl rfl) (Cw (lo := 1) (hi := 8) (f := fN made) (rv := .agg #[.func (.func gn) #[] cn, .func (.func gc) #[] cc, .int .i64 (eW made : Nat), .int .i64 (eU made : Nat)]) hs (λ x _ L hx => AW hr0 hx) w hw)); obtain ⟨A0, c0, rfl, hc0, hm0, _⟩ := hnv; obtain ⟨A6, c6, rfl, hc6, hm6, _⟩ := hs; obtain ⟨po1, ps2, po3, pA4, pn4, pk4, pA5, pn5, pk5, rfl⟩ := hxx.shape; simp only [List.cons_append, List.nil_append] at *; generalize ((eU made : Nat) : Int) = NI at *; generalize ((eW made : Nat) : Int) = NE at *; have HW := zH hw; have hsz := hw.size; clear hw hxx hr0 hc0 hm0 hc6 hm6; by_cases hst : states = []
  . subst hst; simp only [List.length_nil] at *; go_enter func125, ntmps125
    go_wp2_with (first | (go_at_call 156; (with_reducible refine (hE.o _ ?hB).mono ?_); (case hB => exact (HW.o.alloc zO _).alloc (by simp; omega) _); rintro e w1 ⟨rfl, hb1⟩; have hs1 := hb1.size; simp at hs1; have HB1 := zH (((HW.o.alloc zO _).alloc (by simp; omega) _).trans (hb1.mono (by simp; omega))); have HC1 := zH ((((Below.refl _ _).alloc (Nat.le_refl _) _).alloc (by simp) _).trans (hb1.mono (by simp; omega))); clear hb1))
    all_goals go_ret
    all_goals refine ⟨ah ?_, ?_⟩
    all_goals first | exact HC1.o | exact ((Below.refl _ _).alloc (Nat.le_refl _) _).alloc (by simp) _ | skip
    all_goals simp_all [cJ]
  . have hd : ((states.length : Int) == 0) = false := by cases states <;> simp_all <;> omega
    have HST := zH hst
    clear hst
    by_cases hnm : names = []
    . subst hnm
      simp only [List.length_nil] at *
      go_enter func125, ntmps125
      go_wp2_with (first | (go_at_call 157; (with_reducible refine (hSE.o _ ?hB).mono ?_); (case hB => exact (HW.o.alloc zO _).alloc (by simp; omega) _); rintro e w1 ⟨rfl, hb1⟩; have hs1 := hb1.size; simp at hs1; have HB1 := zH (((HW.o.alloc zO _).alloc (by simp; omega) _).trans (hb1.mono (by simp; omega))); have HC1 := zH ((((Below.refl _ _).alloc (Nat.le_refl _) _).alloc (by simp) _).trans (hb1.mono (by simp; omega))); have ba1 := iz hb1; have bb1 := iy hb1; obtain ⟨x1_0, x1_1, x1_2, x1_3⟩ := cH ba1; obtain ⟨y1_0, y1_1, y1_2, y1_3, y1_4, y1_5, y1_6⟩ := rz bb1; have BA1 := zH ba1; have BB1 := zH bb1; clear ba1 bb1; clear hb1) | (go_at_call 158; (with_reducible refine (hAS.o _ ?hB).mono ?_); (case hB => exact HB1.o); rintro e w2 ⟨rfl, hb2⟩; have hs2 := hb2.size; have HB2 := zH ((HB1.o).trans (hb2.mono zO)); have HC2 := zH ((HC1.o).trans (hb2.mono zO)); clear hb2))
      all_goals go_ret
      all_goals refine ⟨ah ?_, ?_⟩
      all_goals first | exact HC2.o | exact HC1.o | exact ((Below.refl _ _).alloc (Nat.le_refl _) _).alloc (by simp) _ | skip
      all_goals simp_all [cJ]
    . have hd2 : ((names.length : Int) == 0) = false := by cases names <;> simp_all <;> omega
      have HNM := zH hnm
      clear hnm
      go_enter func125, ntmps125
      go_wp2_with (first | (go_at_call 157; (with_reducible refine (hSE.o _ ?hB).mono ?_); (case hB => exact (HW.o.alloc zO _).alloc (by simp; omega) _); rintro e w1 ⟨rfl, hb1⟩; have hs1 := hb1.size; simp at hs1; have HB1 := zH (((HW.o.alloc zO _).alloc (by simp; omega) _).trans (hb1.mono (by simp; omega))); have HC1 := zH ((((Below.refl _ _).alloc (Nat.le_refl _) _).alloc (by simp) _).trans (hb1.mono (by simp; omega))); clear hb1))
      all_goals go_ret
      all_goals refine ⟨ah ?_, ?_⟩
      all_goals first | exact HC1.o | exact ((Below.refl _ _).alloc (Nat.le_refl _) _).alloc (by simp) _ | skip
      all_goals simp_all [cJ]
theorem Ep {made : Bool} {rv : Value} {w0 : World} {x : fl} {L : List Value} (hr : ez w0 made rv) (hL : fT w0 L x) : ∀ w, Below w0.heap.size w0 w -> Calls prog 80 #[rv, .agg L.toArray] w (ar (kL made x) w) := by
  intro w hw; obtain ⟨nf, cf, rfl, ⟨gn, cn, rfl, egn, hfn⟩, ⟨gc, cc, rfl, egc, hfc⟩⟩ := hr; have egn : ∀ (args : Array Value) (W : World), (callFunc gn args).run prog W = .ok (.enter gn args) W := egn; have egc : ∀ (args : Array Value) (W : World), (callFunc gc args).run prog W = .ok (.enter gc args) W := egc; obtain ⟨va, rfl, hnm, ha⟩ := hL; have hA := zH (hfn _ hnm); have hE := zH (λ w hw => dR (de _ 1 8 1 8 rfl rfl) (fS (lo := 1) (hi := 8) (f := jm made) ha egc (λ x _ hx w hw => hfc x hx w hw) w hw)); obtain ⟨A1, n1, k1, rfl⟩ := an.shape ha; clear ha hfn hfc; have HW := zH hw; have hsz := hw.size; clear hw; go_enter func80, ntmps80
  go_wp2_with (first | (go_at_fn gn; (refine (hA.o _ ?hB).mono ?_); (case hB => exact (HW.o.alloc zO _).alloc (by simp; omega) _); rintro e w1 ⟨rfl, hb1⟩; have hs1 := hb1.size; simp at hs1; have HB1 := zH (((HW.o.alloc zO _).alloc (by simp; omega) _).trans (hb1.mono (by simp; omega))); have HC1 := zH ((((Below.refl _ _).alloc (Nat.le_refl _) _).alloc (by simp) _).trans (hb1.mono (by simp; omega))); have ba1 := iz hb1; have bb1 := iy hb1; obtain ⟨x1_0, x1_1, x1_2, x1_3⟩ := cH ba1; obtain ⟨y1_0, y1_1⟩ := bb bb1; have BA1 := zH ba1; have BB1 := zH bb1; clear ba1 bb1; clear hb1) | (go_at_call 123; (with_reducible refine (hE.o _ ?hB).mono ?_); (case hB => exact HB1.o); rintro e w2 ⟨rfl, hb2⟩; have hs2 := hb2.size; have HB2 := zH ((HB1.o).trans (hb2.mono zO)); have HC2 := zH ((HC1.o).trans (hb2.mono zO)); clear hb2))
  all_goals go_ret
  all_goals refine ⟨ah ?_, ?_⟩
  all_goals first | exact HC2.o | exact HC1.o | exact ((Below.refl _ _).alloc (Nat.le_refl _) _).alloc (by simp) _ | skip
  all_goals simp_all [kL]
theorem Bt {made : Bool} {rv : Value} {w0 : World} {x : aA} {L : List Value} (hr : ez w0 made rv) (hL : bY w0 L x) : ∀ w, Below w0.heap.size w0 w -> Calls prog 82 #[rv, .agg L.toArray] w (ar (fe made x) w) := by
  intro w hw; have hr0 := hr; obtain ⟨nf, cf, rfl, ⟨gn, cn, rfl, egn, hfn⟩, ⟨gc, cc, rfl, egc, hfc⟩⟩ := hr; have egn : ∀ (args : Array Value) (W : World), (callFunc gn args).run prog W = .ok (.enter gn args) W := egn; have egc : ∀ (args : Array Value) (W : World), (callFunc gc args).run prog W = .ok (.enter gc args) W := egc; obtain ⟨va1, va2, va3, va4, rfl, hnm, ha1, ha2, ha3, ha4⟩ := hL; have hA := zH (hfn _ hnm); have hE1 := zH (λ w hw => dR (de _ 0 6 0 6 rfl rfl) (fS (lo := 0) (hi := 6) (f := cM made) ha1 egn (λ x _ hx w hw => hfn x hx w hw) w hw)); have hE2 := zH (λ w hw => dR (de _ 1 6 1 6 rfl rfl) (fS (lo := 1) (hi := 6) (f := cM made) ha2 egn (λ x _ hx w hw => hfn x hx w hw) w hw)); have hE3 := zH (λ w hw => dR (de _ 1 6 1 6 rfl rfl) (fS (lo := 1) (hi := 6) (f := cM made) ha3 egn (λ x _ hx w hw => hfn x hx w hw) w hw)); have hF := zH (λ w hw => dR (de _ (0) (eU made) (0) ((eU made : Nat)) rfl rfl) (EW (lo := 0) (hi := (eU made : Nat)) (f := cJ made) (rv := .agg #[.func (.func gn) #[] cn, .func (.func gc) #[] cc, .int .i64 (eW made : Nat), .int .i64 (eU made : Nat)]) ha4 (λ x _ L hx => DU hr0 hx) w hw)); obtain ⟨A1, n1, k1, rfl⟩ := an.shape ha1; obtain ⟨A2, n2, k2, rfl⟩ := an.shape ha2; obtain ⟨A3, n3, k3, rfl⟩ := an.shape ha3; obtain ⟨A4, n4, k4, rfl⟩ := an.shape ha4; generalize ((eU made : Nat) : Int) = NI at *; generalize ((eW made : Nat) : Int) = NE at *; clear ha1 ha2 ha3 ha4 hr0 hfn hfc; have HW := zH hw; have hsz := hw.size; clear hw; go_enter func82, ntmps82
  go_wp2_with (first | (go_at_fn gn; (refine (hA.o _ ?hB).mono ?_); (case hB => exact (HW.o.alloc zO _).alloc (by simp; omega) _); rintro e w1 ⟨rfl, hb1⟩; have hs1 := hb1.size; simp at hs1; have HB1 := zH (((HW.o.alloc zO _).alloc (by simp; omega) _).trans (hb1.mono (by simp; omega))); have HC1 := zH ((((Below.refl _ _).alloc (Nat.le_refl _) _).alloc (by simp) _).trans (hb1.mono (by simp; omega))); have ba1 := iz hb1; have bb1 := iy hb1; obtain ⟨x1_0, x1_1, x1_2, x1_3⟩ := cH ba1; obtain ⟨y1_0, y1_1, y1_2, y1_3, y1_4⟩ := aV bb1; have BA1 := zH ba1; have BB1 := zH bb1; clear ba1 bb1; clear hb1) | (go_at_call 123; (with_reducible refine (hE1.o _ ?hB).mono ?_); (case hB => exact HB1.o); rintro e w2 ⟨rfl, hb2⟩; have hs2 := hb2.size; have HB2 := zH ((HB1.o).trans (hb2.mono zO)); have HC2 := zH ((HC1.o).trans (hb2.mono zO)); have ba2 := ao hb2 BA1.o; have bb2 := ao hb2 BB1.o; obtain ⟨x2_0, x2_1, x2_2, x2_3⟩ := cH ba2; obtain ⟨y2_0, y2_1, y2_2, y2_3, y2_4⟩ := aV bb2; have BA2 := zH ba2; have BB2 := zH bb2; clear ba2 bb2; clear hb2) | (go_at_call 123; (with_reducible refine (hE2.o _ ?hB).mono ?_); (case hB => exact HB2.o); rintro e w3 ⟨rfl, hb3⟩; have hs3 := hb3.size; have HB3 := zH ((HB2.o).trans (hb3.mono zO)); have HC3 := zH ((HC2.o).trans (hb3.mono zO)); have ba3 := ao hb3 BA2.o; have bb3 := ao hb3 BB2.o; obtain ⟨x3_0, x3_1, x3_2, x3_3⟩ := cH ba3; obtain ⟨y3_0, y3_1, y3_2, y3_3, y3_4⟩ := aV bb3; have BA3 := zH ba3; have BB3 := zH bb3; clear ba3 bb3; clear hb3) | (go_at_call 123; (with_reducible refine (hE3.o _ ?hB).mono ?_); (case hB => exact HB3.o); rintro e w4 ⟨rfl, hb4⟩; have hs4 := hb4.size; have HB4 := zH ((HB3.o).trans (hb4.mono zO)); have HC4 := zH ((HC3.o).trans (hb4.mono zO)); have ba4 := ao hb4 BA3.o; have bb4 := ao hb4 BB3.o; obtain ⟨x4_0, x4_1, x4_2, x4_3⟩ := cH ba4; obtain ⟨y4_0, y4_1, y4_2, y4_3, y4_4⟩ := aV bb4; have BA4 := zH ba4; have BB4 := zH bb4; clear ba4 bb4; clear hb4) | (go_at_call 124; (with_reducible refine (hF.o _ ?hB).mono ?_); (case hB => exact HB4.o); rintro e w5 ⟨rfl, hb5⟩; have hs5 := hb5.size; have HB5 := zH ((HB4.o).trans (hb5.mono zO)); have HC5 := zH ((HC4.o).trans (hb5.mono zO)); clear hb5))
  all_goals go_ret
  all_goals refine ⟨ah ?_, ?_⟩
  all_goals first | exact HC5.o | exact HC4.o | exact HC3.o | exact HC2.o | exact HC1.o | exact ((Below.refl _ _).alloc (Nat.le_refl _) _).alloc (by simp) _ | skip
  all_goals simp_all [fe]
theorem vk {made : Bool} {rv : Value} {w0 : World} {x : cy} {L : List Value} (hr : ez w0 made rv) (hL : ef w0 L x) : ∀ w, Below w0.heap.size w0 w -> Calls prog 40 #[rv, .agg L.toArray] w (ar (lK made x) w) := by
  intro w hw; have hr0 := hr; obtain ⟨nf, cf, rfl, ⟨gn, cn, rfl, egn, hfn⟩, ⟨gc, cc, rfl, egc, hfc⟩⟩ := hr; have egn : ∀ (args : Array Value) (W : World), (callFunc gn args).run prog W = .ok (.enter gn args) W := egn; have egc : ∀ (args : Array Value) (W : World), (callFunc gc args).run prog W = .ok (.enter gc args) W := egc; obtain ⟨va, vb, rfl, ha, hb⟩ := hL; have hE := zH (λ w hw => dR (de _ (0) (eW made) (0) ((eW made : Nat)) rfl rfl) (EY (lo := 0) (hi := (eW made : Nat)) (f := kL made) (rv := .agg #[.func (.func gn) #[] cn, .func (.func gc) #[] cc, .int .i64 (eW made : Nat), .int .i64 (eU made : Nat)]) ha (λ x _ L hx => Ep hr0 hx) w hw)); have hF := zH (λ w hw => dR (de _ (1) (16) (1) (16) rfl rfl) (EV (lo := 1) (hi := 16) (f := fe made) (rv := .agg #[.func (.func gn) #[] cn, .func (.func gc) #[] cc, .int .i64 (eW made : Nat), .int .i64 (eU made : Nat)]) hb (λ x _ L hx => Bt hr0 hx) w hw)); obtain ⟨A1, n1, k1, rfl⟩ := an.shape ha; obtain ⟨A2, n2, k2, rfl⟩ := an.shape hb; generalize ((eU made : Nat) : Int) = NI at *; generalize ((eW made : Nat) : Int) = NE at *; clear ha hb hr0 hfn hfc; have HW := zH hw; have hsz := hw.size; clear hw; go_enter func40, ntmps40
  go_wp2_with (first | (go_at_call 79; (with_reducible refine (hE.o _ ?hB).mono ?_); (case hB => exact (HW.o.alloc zO _).alloc (by simp; omega) _); rintro e w1 ⟨rfl, hb1⟩; have hs1 := hb1.size; simp at hs1; have HB1 := zH (((HW.o.alloc zO _).alloc (by simp; omega) _).trans (hb1.mono (by simp; omega))); have HC1 := zH ((((Below.refl _ _).alloc (Nat.le_refl _) _).alloc (by simp) _).trans (hb1.mono (by simp; omega))); have ba1 := iz hb1; have bb1 := iy hb1; obtain ⟨x1_0, x1_1, x1_2, x1_3⟩ := cH ba1; obtain ⟨y1_0, y1_1⟩ := bb bb1; have BA1 := zH ba1; have BB1 := zH bb1; clear ba1 bb1; clear hb1) | (go_at_call 81; (with_reducible refine (hF.o _ ?hB).mono ?_); (case hB => exact HB1.o); rintro e w2 ⟨rfl, hb2⟩; have hs2 := hb2.size; have HB2 := zH ((HB1.o).trans (hb2.mono zO)); have HC2 := zH ((HC1.o).trans (hb2.mono zO)); clear hb2))
  all_goals go_ret
  all_goals refine ⟨ah ?_, ?_⟩
  all_goals first | exact HC2.o | exact HC1.o | exact ((Below.refl _ _).alloc (Nat.le_refl _) _).alloc (by simp) _ | skip
  all_goals simp_all [lK]
end Go.Proofs.YtccihplmmfmonaaGreatDoor
