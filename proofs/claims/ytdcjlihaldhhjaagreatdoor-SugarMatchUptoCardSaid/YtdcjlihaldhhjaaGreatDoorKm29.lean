import Derived.Test.YtdcjlihaldhhjaaGreatDoorKm27
set_option maxHeartbeats 2000000
namespace Go.Proofs.YtdcjlihaldhhjaaGreatDoor
open _root_.Go.Proofs.Tryz
open Go.RowKit
def dQ (w0 : World) (made : Bool) (rv : Value) : Prop :=
 ∃ nf cf, rv = .agg #[nf, cf, .int .i64 (eh made : Nat), .int .i64 (ed made : Nat)] /\ aX w0 nf (cJ made) /\ aX w0 cf (iq made)
theorem sQ (w0 : World) : dQ w0 false (.agg #[.func (.func 68) #[] #[], .func (.func 69) #[] #[], .int .i64 8, .int .i64 24]) := ⟨_, _, rfl, Dl w0, Fc w0⟩
theorem uS (w0 : World) : dQ w0 true (.agg #[.func (.func 70) #[] #[], .func (.func 72) #[] #[], .int .i64 32, .int .i64 9223372036854775807]) := ⟨_, _, rfl, tA w0, vT w0⟩
def zq (made : Bool) (w : World) (e : Ending) (w' : World) : Prop := ∃ rv, e = .returned rv /\ Below w.heap.size w w' /\ ∀ w0, dQ w0 made rv
theorem uT : (prog.info? 84).map (·.size) = some 4 := by kernel_rfl
theorem jG {tmps : Array Value} {w : World} {N : Nat} {x0 x1 x2 x3 : Value} (hp : tmps.getD 2 undef = .pointer (some ⟨N, 0, none⟩)) (hg : w.heap[N]? = some (.cells #[x0, x1, x2, x3] 84 (0, 0))) :
  (results f31 tmps).run prog w = .ok (.agg #[x0, x1, x2, x3]) w :=
 results_cell_row results31 tmps w N 84 _ (0, 0) _ hp hg underlying84 rfl uT
theorem rl (made : Bool) (w : World) : Calls prog 31 #[.bool made] w (zq made w) := by
 cases made
 . go_enter func31, ntmps31
   go_wp2_with fail
   exact bodyPost_ret (jG rfl (heap_alloc_new w _)) rfl ⟨_, rfl, (Below.refl _ _).alloc (Nat.le_refl _) _, λ w0 => sQ w0⟩
 . go_enter func31, ntmps31
   go_wp2_with fail
   exact bodyPost_ret (jG rfl (heap_alloc_new w _)) rfl ⟨_, rfl, (Below.refl _ _).alloc (Nat.le_refl _) _, λ w0 => uS w0⟩
theorem dv {a b : Bool} (h : a = b) {f : FuncId} {args : Array Value} {w : World} (hc : Calls prog f args w (ax a w)) : Calls prog f args w (ax b w) := h ▸ hc
theorem cY {X : Type} {f : X -> Bool} (l : List X) (least most : Nat) (lo hi : Int) (h1 : lo = least) (h2 : hi = most) : (decide (lo <= l.length) && decide ((l.length : Int) <= hi) && l.all f) = fJ l least most f := by
 subst h1 h2; unfold fJ; congr 2 <;> (rw [Bool.eq_iff_iff]; simp)
theorem len_eq {X : Type} (l : List X) (a : Nat) : (decide ((a : Int) <= l.length) && decide ((l.length : Int) <= a)) = (l.length == a) := by
 rw [Bool.eq_iff_iff]; simp; omega
theorem kY {X : Type} (l : List X) : (decide ((0 : Int) <= l.length) && decide ((l.length : Int) <= 0)) = l.isEmpty := by
 rw [Bool.eq_iff_iff]; cases l <;> simp <;> omega
theorem da (n : Int) : (decide (0 <= n) && decide (n <= 0)) = (n == 0) := by rw [Bool.eq_iff_iff]; simp; omega
theorem Df (n : Int) (h : gQ n) : (decide (0 <= n) && decide (n <= 9223372036854775807)) = decide (0 <= n) := by
 obtain ⟨_, h⟩ := h; simp [h]
def cZ (made : Bool) (op : Int) (P0 P1 P2 P3 : Ex -> Bool) : Prop := ∀ nm n cs ks, gQ n -> (P0 (.mk op nm n cs ks) && (P1 (.mk op nm n cs ks) && (P2 (.mk op nm n cs ks) && P3 (.mk op nm n cs ks)))) = bt made op nm n cs ks
theorem ga (a b c d : Bool) : (a && (b && (c && d))) = (a && b && c && d) := by simp [Bool.and_assoc]
theorem vy {X : Type} (l : List X) : (decide ((1 : Int) <= l.length) && decide ((l.length : Int) <= 1)) = (l.length == 1) := by rw [Bool.eq_iff_iff]; simp; omega
theorem vx {X : Type} (l : List X) : (decide ((2 : Int) <= l.length) && decide ((l.length : Int) <= 2)) = (l.length == 2) := by rw [Bool.eq_iff_iff]; simp; omega
theorem EO {X : Type} (l : List X) : (decide ((3 : Int) <= l.length) && decide ((l.length : Int) <= 3)) = (l.length == 3) := by rw [Bool.eq_iff_iff]; simp; omega
theorem EP {X : Type} (l : List X) : (decide ((1 : Int) <= l.length) && decide ((l.length : Int) <= 6)) = (decide (1 <= l.length) && decide (l.length <= 6)) := by rw [Bool.eq_iff_iff]; simp; omega
theorem E7 (made : Bool) : cZ made 1 eB (λ x => decide (0 <= x.num) && decide (x.num <= 9223372036854775807)) cN jc := by
 intro nm n cs ks h; show ((nm == []) && ((decide (0 <= n) && decide (n <= 9223372036854775807)) && ((cs.isEmpty) && (decide ((0 : Int) <= ks.length) && decide ((ks.length : Int) <= 0))))) = bt made 1 nm n cs ks; rw [Df n h, kY ks]; simp only [bt, ↓reduceIte]; rw [ga]
theorem EZ (made : Bool) : cZ made 2 eB (λ x => decide (0 <= x.num) && decide (x.num <= 1)) cN jc := by
 intro nm n cs ks _; show ((nm == []) && ((decide (0 <= n) && decide (n <= 1)) && ((cs.isEmpty) && (decide ((0 : Int) <= ks.length) && decide ((ks.length : Int) <= 0))))) = bt made 2 nm n cs ks; rw [kY ks]; simp only [bt, Int.reduceEq, ↓reduceIte]; rw [ga]
theorem EY (made : Bool) : cZ made 3 (λ x => (iq made) x.name) cl cN jc := by
 intro nm n cs ks _; show (((iq made) nm) && ((decide (0 <= n) && decide (n <= 0)) && ((cs.isEmpty) && (decide ((0 : Int) <= ks.length) && decide ((ks.length : Int) <= 0))))) = bt made 3 nm n cs ks; rw [da n, kY ks]; simp only [bt, Int.reduceEq, ↓reduceIte]; rw [ga]
theorem EX (made : Bool) : cZ made 4 (λ x => (cJ made) x.name) cl cN jc := by
 intro nm n cs ks _; show (((cJ made) nm) && ((decide (0 <= n) && decide (n <= 0)) && ((cs.isEmpty) && (decide ((0 : Int) <= ks.length) && decide ((ks.length : Int) <= 0))))) = bt made 4 nm n cs ks; rw [da n, kY ks]; simp only [bt, Int.reduceEq, ↓reduceIte]; rw [ga]
theorem EW (made : Bool) : cZ made 5 (λ x => [[110, 111, 116], [45]].contains x.name) cl cN (λ x => decide ((1 : Int) <= x.kids.length) && decide ((x.kids.length : Int) <= 1)) := by
 intro nm n cs ks _; show (([[110, 111, 116], [45]].contains nm) && ((decide (0 <= n) && decide (n <= 0)) && ((cs.isEmpty) && (decide ((1 : Int) <= ks.length) && decide ((ks.length : Int) <= 1))))) = bt made 5 nm n cs ks; rw [da n, vy ks]; simp only [bt, Int.reduceEq, ↓reduceIte]; rw [ga]
theorem EV (made : Bool) : cZ made 6 (λ x => ug.contains x.name) cl cN (λ x => decide ((2 : Int) <= x.kids.length) && decide ((x.kids.length : Int) <= 2)) := by
 intro nm n cs ks _; show ((ug.contains nm) && ((decide (0 <= n) && decide (n <= 0)) && ((cs.isEmpty) && (decide ((2 : Int) <= ks.length) && decide ((ks.length : Int) <= 2))))) = bt made 6 nm n cs ks; rw [da n, vx ks]; simp only [bt, Int.reduceEq, ↓reduceIte]; rw [ga]
theorem EU (made : Bool) : cZ made 7 eB cl cN (λ x => decide ((3 : Int) <= x.kids.length) && decide ((x.kids.length : Int) <= 3)) := by
 intro nm n cs ks _; show ((nm == []) && ((decide (0 <= n) && decide (n <= 0)) && ((cs.isEmpty) && (decide ((3 : Int) <= ks.length) && decide ((ks.length : Int) <= 3))))) = bt made 7 nm n cs ks; rw [da n, EO ks]; simp only [bt, Int.reduceEq, ↓reduceIte]; rw [ga]
theorem ET (made : Bool) : cZ made 8 eB cl cN (λ x => decide ((2 : Int) <= x.kids.length) && decide ((x.kids.length : Int) <= 2)) := by
 intro nm n cs ks _; show ((nm == []) && ((decide (0 <= n) && decide (n <= 0)) && ((cs.isEmpty) && (decide ((2 : Int) <= ks.length) && decide ((ks.length : Int) <= 2))))) = bt made 8 nm n cs ks; rw [da n, vx ks]; simp only [bt, Int.reduceEq, ↓reduceIte]; rw [ga]
theorem ES (made : Bool) : cZ made 9 eB cl cN (λ x => decide ((1 : Int) <= x.kids.length) && decide ((x.kids.length : Int) <= 1)) := by
 intro nm n cs ks _; show ((nm == []) && ((decide (0 <= n) && decide (n <= 0)) && ((cs.isEmpty) && (decide ((1 : Int) <= ks.length) && decide ((ks.length : Int) <= 1))))) = bt made 9 nm n cs ks; rw [da n, vy ks]; simp only [bt, Int.reduceEq, ↓reduceIte]; rw [ga]
theorem DA (made : Bool) : cZ made 10 eB cl cN (λ x => decide ((2 : Int) <= x.kids.length) && decide ((x.kids.length : Int) <= 2)) := by
 intro nm n cs ks _; show ((nm == []) && ((decide (0 <= n) && decide (n <= 0)) && ((cs.isEmpty) && (decide ((2 : Int) <= ks.length) && decide ((ks.length : Int) <= 2))))) = bt made 10 nm n cs ks; rw [da n, vx ks]; simp only [bt, Int.reduceEq, ↓reduceIte]; rw [ga]
theorem Dz (made : Bool) : cZ made 11 (λ x => (cJ made) x.name) cl (λ x => decide ((1 : Int) <= x.cons.length) && decide ((x.cons.length : Int) <= 1) && x.cons.all (iq made)) (λ x => decide ((1 : Int) <= x.kids.length) && decide ((x.kids.length : Int) <= 1)) := by
 intro nm n cs ks _; show (((cJ made) nm) && ((decide (0 <= n) && decide (n <= 0)) && ((decide ((1 : Int) <= cs.length) && decide ((cs.length : Int) <= 1) && cs.all (iq made)) && (decide ((1 : Int) <= ks.length) && decide ((ks.length : Int) <= 1))))) = bt made 11 nm n cs ks; rw [da n, vy ks, cY cs 1 1 1 1 rfl rfl]; simp only [bt, Int.reduceEq, ↓reduceIte]; rw [ga]
theorem Dy (made : Bool) : cZ made 12 (λ x => (cJ made) x.name) cl (λ x => decide ((1 : Int) <= x.cons.length) && decide ((x.cons.length : Int) <= 8) && x.cons.all (iq made)) (λ x => x.kids.length == x.cons.length) := by
 intro nm n cs ks _; show (((cJ made) nm) && ((decide (0 <= n) && decide (n <= 0)) && ((decide ((1 : Int) <= cs.length) && decide ((cs.length : Int) <= 8) && cs.all (iq made)) && (ks.length == cs.length)))) = bt made 12 nm n cs ks; rw [da n, cY cs 1 8 1 8 rfl rfl]; simp only [bt, Int.reduceEq, ↓reduceIte]; rw [ga]
theorem Dx (made : Bool) : cZ made 13 (λ x => (cJ made) x.name) cl (λ x => decide ((1 : Int) <= x.cons.length) && decide ((x.cons.length : Int) <= 8) && x.cons.all (iq made)) (λ x => x.kids.length == x.cons.length) := by
 intro nm n cs ks _; show (((cJ made) nm) && ((decide (0 <= n) && decide (n <= 0)) && ((decide ((1 : Int) <= cs.length) && decide ((cs.length : Int) <= 8) && cs.all (iq made)) && (ks.length == cs.length)))) = bt made 13 nm n cs ks; rw [da n, cY cs 1 8 1 8 rfl rfl]; simp only [bt, Int.reduceEq, ↓reduceIte]; rw [ga]
theorem Dw (made : Bool) : cZ made 14 (λ x => (cJ made) x.name) cl (λ x => decide ((0 : Int) <= x.cons.length) && decide ((x.cons.length : Int) <= 6) && x.cons.all (cJ made)) (λ x => decide ((1 : Int) <= x.kids.length) && decide ((x.kids.length : Int) <= 6)) := by
 intro nm n cs ks _; show (((cJ made) nm) && ((decide (0 <= n) && decide (n <= 0)) && ((decide ((0 : Int) <= cs.length) && decide ((cs.length : Int) <= 6) && cs.all (cJ made)) && (decide ((1 : Int) <= ks.length) && decide ((ks.length : Int) <= 6))))) = bt made 14 nm n cs ks; rw [da n, EP ks, cY cs 0 6 0 6 rfl rfl]; simp only [bt, Int.reduceEq, ↓reduceIte]; rw [ga]
theorem Dv (made : Bool) : cZ made 15 eB cl cN (λ x => x.kids.length == 2 && (x.kids.headD qo).op == 14) := by
 intro nm n cs ks _; show ((nm == []) && ((decide (0 <= n) && decide (n <= 0)) && ((cs.isEmpty) && (ks.length == 2 && (ks.headD qo).op == 14)))) = bt made 15 nm n cs ks; rw [da n]; simp only [bt, Int.reduceEq, ↓reduceIte]; rw [ga]; rfl
def D0 (made : Bool) (op : Int) (w : World) (e : Ending) (w' : World) : Prop :=
 (∃ P0 P1 P2 P3, cZ made op P0 P1 P2 P3 /\ dU P0 P1 P2 P3 w e w') ∨
 (e = .returned (.tuple #[.agg #[.nilFunc, .nilFunc, .nilFunc, .nilFunc], .bool false]) /\ Below w.heap.size w w' /\ ∀ nm n cs ks, bt made op nm n cs ks = false)
theorem Af {gn gc : FuncId} {cn cc : Array Value} (en it op : Int) (w : World) (h1 : op ≠ 1) (h2 : op ≠ 2) (h3 : op ≠ 3) (h4 : op ≠ 4) (h5 : op ≠ 5) (h6 : op ≠ 6) (h7 : op ≠ 7) (h8 : op ≠ 8) (h9 : op ≠ 9) (h10 : op ≠ 10) (h11 : op ≠ 11) (h12 : op ≠ 12) (h13 : op ≠ 13) (h14 : op ≠ 14) (h15 : op ≠ 15) :
  Calls prog 199 #[.agg #[.func (.func gn) #[] cn, .func (.func gc) #[] cc, .int .i64 en, .int .i64 it], .int .i64 op] w λ e w' => e = .returned (.tuple #[.agg #[.nilFunc, .nilFunc, .nilFunc, .nilFunc], .bool false]) /\ Below w.heap.size w w' := by
 go_enter func199, ntmps199
 go_wp2_with (go_at_call 208; refine (db _).mono ?_; rintro e w' ⟨rfl, rfl⟩)
 exact bodyPost_ret (bk rfl rfl (by simp only [aq, Array.getElem?_push, Array.size_push]; repeat (first | rfl | rw [if_neg zO] | rw [if_pos zO]))) rfl ⟨rfl, by repeat (first | exact Below.refl _ _ | refine Below.drew ?_ | refine Below.alloc ?_ (by simp <;> omega) _)⟩
theorem CP {made : Bool} {rv : Value} {w0 w : World} (hr : dQ w0 made rv) (hw : Below w0.heap.size w0 w) (op : Int) : Calls prog 199 #[rv, .int .i64 op] w (D0 made op w) := by
 obtain ⟨nf, cf, rfl, hn, hc⟩ := hr; have hn := hn.under hw; have hc := hc.under hw; by_cases h1 : op = 1
 . subst h1; exact (FC _ _ w hn hc).mono λ e w' h => .inl ⟨_, _, _, _, E7 made, h⟩
 by_cases h2 : op = 2
 . subst h2; exact (FA _ _ w hn hc).mono λ e w' h => .inl ⟨_, _, _, _, EZ made, h⟩
 by_cases h3 : op = 3
 . subst h3; exact (Fz _ _ w hn hc).mono λ e w' h => .inl ⟨_, _, _, _, EY made, h⟩
 by_cases h4 : op = 4
 . subst h4; exact (Fy _ _ w hn hc).mono λ e w' h => .inl ⟨_, _, _, _, EX made, h⟩
 by_cases h5 : op = 5
 . subst h5; exact (Fx _ _ w hn hc).mono λ e w' h => .inl ⟨_, _, _, _, EW made, h⟩
 by_cases h6 : op = 6
 . subst h6; exact (Fw _ _ w hn hc).mono λ e w' h => .inl ⟨_, _, _, _, EV made, h⟩
 by_cases h7 : op = 7
 . subst h7; exact (Fv _ _ w hn hc).mono λ e w' h => .inl ⟨_, _, _, _, EU made, h⟩
 by_cases h8 : op = 8
 . subst h8; exact (Fu _ _ w hn hc).mono λ e w' h => .inl ⟨_, _, _, _, ET made, h⟩
 by_cases h9 : op = 9
 . subst h9; exact (Ft _ _ w hn hc).mono λ e w' h => .inl ⟨_, _, _, _, ES made, h⟩
 by_cases h10 : op = 10
 . subst h10; exact (EA _ _ w hn hc).mono λ e w' h => .inl ⟨_, _, _, _, DA made, h⟩
 by_cases h11 : op = 11
 . subst h11; exact (Ez _ _ w hn hc).mono λ e w' h => .inl ⟨_, _, _, _, Dz made, h⟩
 by_cases h12 : op = 12
 . subst h12; exact (Ey _ _ w hn hc).mono λ e w' h => .inl ⟨_, _, _, _, Dy made, h⟩
 by_cases h13 : op = 13
 . subst h13; exact (Ew _ _ w hn hc).mono λ e w' h => .inl ⟨_, _, _, _, Dx made, h⟩
 by_cases h14 : op = 14
 . subst h14; exact (Eu _ _ w hn hc).mono λ e w' h => .inl ⟨_, _, _, _, Dw made, h⟩
 by_cases h15 : op = 15
 . subst h15; exact (Et _ _ w hn hc).mono λ e w' h => .inl ⟨_, _, _, _, Dv made, h⟩
 obtain ⟨gn, cn, rfl, _⟩ := hn; obtain ⟨gc, cc, rfl, _⟩ := hc; refine (Af _ _ op w h1 h2 h3 h4 h5 h6 h7 h8 h9 h10 h11 h12 h13 h14 h15).mono λ e w' h => .inr ⟨h.1, h.2, λ nm n cs ks => ?_⟩; simp only [bt, h1, h2, h3, h4, h5, h6, h7, h8, h9, h10, h11, h12, h13, h14, h15, if_false]
theorem x9 {w0 : World} {v0 v1 v2 v3 : Value} {P0 P1 P2 P3 : Ex -> Bool} {x : Ex} {L : List Value} (h0 : jF w0 v0 P0) (h1 : jF w0 v1 P1) (h2 : jF w0 v2 P2) (h3 : jF w0 v3 P3) (hL : aT w0 L x) :
  ∀ w, Below w0.heap.size w0 w -> Calls prog 200 #[.agg #[v0, v1, v2, v3], .agg L.toArray] w (ax (P0 x && (P1 x && (P2 x && P3 x))) w) := by
  intro w hw; obtain ⟨g0, c0, rfl, e0, h0⟩ := h0; obtain ⟨g1, c1, rfl, e1, h1⟩ := h1; obtain ⟨g2, c2, rfl, e2, h2⟩ := h2; obtain ⟨g3, c3, rfl, e3, h3⟩ := h3; have e0 : ∀ (args : Array Value) (W : World), (callFunc g0 args).run prog W = .ok (.enter g0 args) W := e0; have e1 : ∀ (args : Array Value) (W : World), (callFunc g1 args).run prog W = .ok (.enter g1 args) W := e1; have e2 : ∀ (args : Array Value) (W : World), (callFunc g2 args).run prog W = .ok (.enter g2 args) W := e2; have e3 : ∀ (args : Array Value) (W : World), (callFunc g3 args).run prog W = .ok (.enter g3 args) W := e3; have H0 := zH (λ w hw => h0 x L w hw (hL.under hw)); have H1 := zH (λ w hw => h1 x L w hw (hL.under hw)); have H2 := zH (λ w hw => h2 x L w hw (hL.under hw)); have H3 := zH (λ w hw => h3 x L w hw (hL.under hw)); obtain ⟨o1, s1, n1, A1, m1, k1, A2, m2, k2, rfl⟩ := hL.shape; have HW := zH hw; have hsz := hw.size; clear hw h0 h1 h2 h3 hL; go_enter func200, ntmps200
  go_wp2_with (first | (go_at_fn g0; (refine (H0.o _ ?hB).mono ?_); (case hB => exact (HW.o.alloc zO _).alloc (by simp; omega) _); rintro e w1 ⟨rfl, hb1⟩; have hs1 := hb1.size; simp at hs1; have HB1 := zH (((HW.o.alloc zO _).alloc (by simp; omega) _).trans (hb1.mono (by simp; omega))); have HC1 := zH ((((Below.refl _ _).alloc (Nat.le_refl _) _).alloc (by simp) _).trans (hb1.mono (by simp; omega))); have ba1 := fo hb1; have bb1 := fm hb1; obtain ⟨x1_0, x1_1, x1_2, x1_3⟩ := cG ba1; obtain ⟨y1_0, y1_1, y1_2, y1_3, y1_4⟩ := aN bb1; have BA1 := zH ba1; have BB1 := zH bb1; clear ba1 bb1; clear hb1) | (go_at_fn g1; (refine (H1.o _ ?hB).mono ?_); (case hB => exact HB1.o); rintro e w2 ⟨rfl, hb2⟩; have hs2 := hb2.size; have HB2 := zH ((HB1.o).trans (hb2.mono zO)); have HC2 := zH ((HC1.o).trans (hb2.mono zO)); have ba2 := ag hb2 BA1.o; have bb2 := ag hb2 BB1.o; obtain ⟨x2_0, x2_1, x2_2, x2_3⟩ := cG ba2; obtain ⟨y2_0, y2_1, y2_2, y2_3, y2_4⟩ := aN bb2; have BA2 := zH ba2; have BB2 := zH bb2; clear ba2 bb2; clear hb2) | (go_at_fn g2; (refine (H2.o _ ?hB).mono ?_); (case hB => exact HB2.o); rintro e w3 ⟨rfl, hb3⟩; have hs3 := hb3.size; have HB3 := zH ((HB2.o).trans (hb3.mono zO)); have HC3 := zH ((HC2.o).trans (hb3.mono zO)); have ba3 := ag hb3 BA2.o; have bb3 := ag hb3 BB2.o; obtain ⟨x3_0, x3_1, x3_2, x3_3⟩ := cG ba3; obtain ⟨y3_0, y3_1, y3_2, y3_3, y3_4⟩ := aN bb3; have BA3 := zH ba3; have BB3 := zH bb3; clear ba3 bb3; clear hb3) | (go_at_fn g3; (refine (H3.o _ ?hB).mono ?_); (case hB => exact HB3.o); rintro e w4 ⟨rfl, hb4⟩; have hs4 := hb4.size; have HB4 := zH ((HB3.o).trans (hb4.mono zO)); have HC4 := zH ((HC3.o).trans (hb4.mono zO)); clear hb4))
  all_goals go_ret
  all_goals refine ⟨aj ?_, ?_⟩
  all_goals first | exact HC4.o | exact HC3.o | exact HC2.o | exact HC1.o | exact ((Below.refl _ _).alloc (Nat.le_refl _) _).alloc (by simp) _ | skip
  all_goals simp_all
theorem tT {made : Bool} {rv : Value} {w0 : World} (hr : dQ w0 made rv) : ∀ (x : Ex) (L : List Value), aT w0 L x -> ∀ w, Below w0.heap.size w0 w -> Calls prog 180 #[rv, .agg L.toArray] w (ax (d7 made x) w) := by
 intro x; induction x using Ex.ind with
 | h op nm n cs ks ih =>
   intro L hL w hw; obtain ⟨cv, kv, rfl, hop, hnm, hn, hcs, hks⟩ := hL.open_; have HR := zH (λ w hw => CP hr hw op (w := w)); have HS := zH (λ w (hw : Below w0.heap.size w0 w) => hL.under hw); have hA0 := λ w hw => dv (cY _ 0 9223372036854775807 0 9223372036854775807 rfl rfl) (Ch (lo := 0) (hi := 9223372036854775807) (f := d7 made) (rv := rv) hks (λ y hy L hx => ih y hy L hx) w hw); have hle : ks.length <= 9223372036854775807 := (by obtain ⟨_, _, _, h1, h2, _⟩ := hks; unfold maxLen at h2; omega); have hA := zH (λ w hw => dv (show fJ ks 0 9223372036854775807 (d7 made) = kF made ks by rw [mo, fJ]; simp [hle]) (hA0 w hw)); have HN := zH hn; obtain ⟨nf, cf, rfl, ⟨gn, cn, rfl, _⟩, ⟨gc, cc, rfl, _⟩⟩ := hr; obtain ⟨A1, n1, k1, rfl⟩ := aw.shape hcs; obtain ⟨A2, n2, k2, rfl⟩ := aw.shape hks; have HW := zH hw; have hsz := hw.size; generalize ((ed made : Nat) : Int) = NI at *; generalize ((eh made : Nat) : Int) = NE at *; clear hw hcs hks hL ih hA0 hn hop hnm hle; go_enter func180, ntmps180
   go_wp2_with (first | (go_at_call 199; refine (HR.o _ ((HW.o.alloc zO _).alloc (by simp; omega) _)).mono ?_; intro e w1 hrow; rcases hrow with ⟨P0, P1, P2, P3, hfit, v0, v1, v2, v3, rfl, hb1, f0, f1, f2, f3⟩ | ⟨rfl, hb1, hno⟩ <;> (have hs1 := hb1.size; simp at hs1; have hlt0 : w.heap.size < w1.heap.size := zO; have hlt1 : w.heap.size + 1 < w1.heap.size := zO; have hne0 : w.heap.size ≠ w1.heap.size := zO; have hne1 : w.heap.size + 1 ≠ w1.heap.size := zO; have HB1 := zH (((HW.o.alloc zO _).alloc (by simp; omega) _).trans (hb1.mono (by simp; omega))); have HC1 := zH ((((Below.refl _ _).alloc (Nat.le_refl _) _).alloc (by simp) _).trans (hb1.mono (by simp; omega))); have ba1 := fo hb1; have bb1 := fm hb1; obtain ⟨x1_0, x1_1, x1_2, x1_3⟩ := cG ba1; obtain ⟨y1_0, y1_1, y1_2, y1_3, y1_4⟩ := aN bb1; have BA1 := zH ba1; have BB1 := zH bb1; clear ba1 bb1 hb1) <;> first | (have HFT := zH (λ w' hw' => dv (hfit nm n cs ks HN.o) (x9 f0 f1 f2 f3 (HS.o w1 HB1.o) w' hw')); obtain ⟨g0, c0, rfl, _⟩ := f0; obtain ⟨g1, c1, rfl, _⟩ := f1; obtain ⟨g2, c2, rfl, _⟩ := f2; obtain ⟨g3, c3, rfl, _⟩ := f3; clear hfit) | (have hno1 := hno nm n cs ks; clear hno)) | (go_at_call 200; refine (HFT.o _ ((Below.refl _ _).alloc (Nat.le_refl _) _)).mono ?_; rintro e w2 ⟨rfl, hb2⟩; have hs2 := hb2.size; simp at hs2; have HB2 := zH ((HB1.o.alloc zO _).trans (hb2.mono (by simp; omega))); have HC2 := zH ((HC1.o.alloc zO _).trans (hb2.mono (by simp; omega))); have ba2 := (hb2.block _ (by simp; omega)).trans ((Below.heap_alloc w1 _ _ (ar BA1.o)).trans BA1.o); have bb2 := (hb2.block _ (by simp; omega)).trans ((Below.heap_alloc w1 _ _ (ar BB1.o)).trans BB1.o); obtain ⟨x2_0, x2_1, x2_2, x2_3⟩ := cG ba2; obtain ⟨y2_0, y2_1, y2_2, y2_3, y2_4⟩ := aN bb2; clear ba2 bb2 hb2) | (go_at_call 201; refine (hA.o _ HB2.o).mono ?_; rintro e w3 ⟨rfl, hb3⟩; have HC3 := zH (HC2.o.trans (hb3.mono zO)); clear hb3))
   all_goals go_ret
   all_goals refine ⟨aj ?_, ?_⟩
   all_goals first | exact HC3.o | exact HC2.o | exact HC1.o.alloc zO _ | skip
   all_goals simp_all [d7]
end Go.Proofs.YtdcjlihaldhhjaaGreatDoor
