import Derived.Test.YtiholfmmphcbeaaGreatDoorKm17
import Derived.Test.YtiholfmmphcbeaaGreatDoorKm40
set_option maxHeartbeats 6000000
set_option maxRecDepth 100000
namespace Go.Proofs.YtiholfmmphcbeaaGreatDoor
open Go.RowKit (zH zO zD zK zW zA zB zG)
open _root_.Go.Proofs.Tryz
def sgN (s : SgE) : Nat := s.ins.length + s.outs.length
def gO : List SgE -> Nat
 | [] => 0
 | s :: r => sgN s + gO r
def qN (q : bz) : Nat := gO q.funs + sgN q.sg
def bR (t u : TSt) (k : Nat) : Prop := u.vars = t.vars /\ u.funs = t.funs /\ u.ks.n <= t.ks.n + k
theorem bR.refl (t : TSt) (k : Nat) : bR t t k := ⟨rfl, rfl, Nat.le_add_right _ _⟩
theorem bR.trans {t u v : TSt} {a b c : Nat} (h : bR t u a) (g : bR u v b) (hc : a + b <= c) : bR t v c := by
 obtain ⟨h1, h2, h3⟩ := h; obtain ⟨g1, g2, g3⟩ := g; exact ⟨g1.trans h1, g2.trans h2, by omega⟩
theorem bR.mono {t u : TSt} {a b : Nat} (h : bR t u a) (hb : a <= b) : bR t u b := ⟨h.1, h.2.1, by have := h.2.2; omega⟩
namespace TSt
open Go.RowKit (zH zO zD zK zW zA zB zG)
open _root_.Go.Proofs.Tryz
theorem Az (a : Int) (l : List Int) : ∀ t : TSt, bR t (t.ties a l) 0 := by
 induction l with
 | nil => intro t; exact bR.refl _ _
 | cons b r ih => intro t; exact bR.trans (b := 0) (a := 0) (u := t.tie a b) ⟨rfl, rfl, by show (lJ t.ks a b).n <= _; rw [th]; omega⟩ (ih _) zO
theorem kL (t : TSt) (l : List Int) : bR t (t.same l).1 0 := Az _ _ _
theorem is_stay (t : TSt) (a m : Int) : bR t (t.is a m) 0 := ⟨rfl, rfl, by show (gy t.ks a m).n <= _; rw [pg]; omega⟩
theorem yq (m : Int) (l : List Int) : ∀ t : TSt, bR t (t.isAll m l) 0 := by
 induction l with
 | nil => intro t; exact bR.refl _ _
 | cons b r ih => intro t; exact bR.trans (is_stay t b m) (ih _) zO
theorem gX (t : TSt) (m : Int) : bR t (t.known m) 1 := ⟨rfl, rfl, by show (gy (kD t.ks) _ _).n <= _; rw [pg]; exact Nat.le_refl _⟩
theorem lF : ∀ (l m : List Int) (t : TSt), bR t (t.agreeAll l m) 0
 | [], m, t => by cases m <;> exact bR.refl _ _
 | _ :: _, [], t => bR.refl _ _
 | a :: l, b :: m, t => bR.trans (a := 0) (b := 0) (u := t.tie a b) ⟨rfl, rfl, by show (lJ t.ks a b).n <= _; rw [th]; omega⟩ (lF l m _) zO
theorem oI (t : TSt) (l m : List Int) : bR t (t.agreeL l m) 0 := by
 unfold agreeL; split
 . exact lF _ _ _
 . exact ⟨rfl, rfl, Nat.le_refl _⟩
theorem agree_stay (t : TSt) (r s : SgE) : bR t (t.agree r s) 0 := bR.trans (oI _ _ _) (oI _ _ _) zO
theorem inst1_stay (t : TSt) (fr : List (Int × Int)) (s : SgE) : bR t (t.inst1 fr s).1 (sgN s) /\ (t.inst1 fr s).2.2.ins.length = s.ins.length /\ (t.inst1 fr s).2.2.outs.length = s.outs.length := by
 obtain ⟨h1, h2, h3, h4⟩ := ic s.ins t fr; obtain ⟨g1, g2, g3, g4⟩ := ic s.outs (t.elems fr s.ins).1 (t.elems fr s.ins).2.1; exact ⟨bR.trans ⟨h1, h2, h3⟩ ⟨g1, g2, g3⟩ (Nat.le_refl _), h4, g4⟩
theorem insts_stay (l : List SgE) : ∀ (t : TSt) (fr : List (Int × Int)), bR t (t.insts fr l).1 (gO l) /\ (t.insts fr l).2.2.length = l.length := by
 induction l with
 | nil => intro t fr; exact ⟨bR.refl _ _, rfl⟩
 | cons s r ih =>
   intro t fr; obtain ⟨h1, h2⟩ := ih (t.inst1 fr s).1 (t.inst1 fr s).2.1; exact ⟨bR.trans (inst1_stay t fr s).1 h1 (Nat.le_refl _), by show (_ :: _).length = _; simp [h2]⟩
theorem insts_snoc (s : SgE) (l : List SgE) : ∀ (t : TSt) (fr : List (Int × Int)), t.insts fr (l ++ [s]) = (((t.insts fr l).1.inst1 (t.insts fr l).2.1 s).1, ((t.insts fr l).1.inst1 (t.insts fr l).2.1 s).2.1, (t.insts fr l).2.2 ++ [((t.insts fr l).1.inst1 (t.insts fr l).2.1 s).2.2]) := by
 induction l with
 | nil => intro t fr; rfl
 | cons x r ih => intro t fr; rw [List.cons_append, insts, ih, insts]; rfl
theorem inst_stay (t : TSt) (q : bz) : bR t (t.inst q).1 (qN q) /\ (t.inst q).2.1.length = q.funs.length :=
 ⟨bR.trans (insts_stay q.funs t []).1 (inst1_stay _ _ _).1 (Nat.le_refl _), (insts_stay q.funs t []).2⟩
theorem adds_stay (t : TSt) (n : Nat) : bR t (t.adds n) n := ⟨(adds_vars t n).1, (adds_vars t n).2.1, by rw [adds_n]; exact Nat.le_refl _⟩
theorem AT (t : TSt) (nm : Tx) (l : List Int) : bR t (t.oper nm l).1 1 := by
 unfold oper; simp only; split
 . exact bR.trans (kL _ _) (gX _ _) zO
 . exact bR.trans (yq _ _ _) (gX _ _) zO
theorem value_stay (cx : TCx) (t : TSt) (op : Int) (nm : Tx) (cs : List Tx) (l : List Int) : bR t (t.value cx op nm cs l).1 1 := by
 unfold value; repeat' split
 . exact gX _ _
 . exact gX _ _
 . exact gX _ _
 . exact bR.refl _ _
 . exact AT _ _ _
 . exact bR.trans (is_stay _ _ _) (kL _ _) zO
 . exact bR.trans (is_stay _ _ _) (kL _ _) zO
 . exact (kL _ _).mono zO
section
variable {cx : TCx} {D : Nat}
theorem den_stay (hD : ∀ nm q, cx.sig nm = some q -> qN q <= D) (t : TSt) (nm : Tx) : bR t (t.den cx nm).1 D := by
 unfold den; split
 . exact bR.refl _ _
 . split
   . next q hq => exact (inst_stay t q).1.mono (hD _ _ hq)
   . exact bR.refl _ _
theorem pass_stay (hD : ∀ nm q, cx.sig nm = some q -> qN q <= D) : ∀ (fs : List SgE) (cs : List Tx) (t : TSt), bR t (t.pass cx fs cs) (D * cs.length)
 | [], cs, t => by cases cs <;> exact bR.refl _ _
 | _ :: _, [], t => bR.refl _ _
 | f :: fs, c :: cs, t => by
   have h1 := (den_stay hD t c).trans (agree_stay _ f (t.den cx c).2.2) (Nat.le_refl _)
   exact h1.trans (pass_stay hD fs cs _) (by rw [List.length_cons, Nat.mul_succ]; omega)
theorem pass_snoc (c : Tx) (cs : List Tx) : ∀ (fs : List SgE) (t : TSt) (f : SgE) (rest : List SgE), fs.length = cs.length -> t.pass cx (fs ++ f :: rest) (cs ++ [c]) = ((t.pass cx fs cs).den cx c).1.agree f ((t.pass cx fs cs).den cx c).2.2 := by
 induction cs with
 | nil => intro fs t f rest h; obtain rfl : fs = [] := List.eq_nil_of_length_eq_zero h; cases rest <;> rfl
 | cons x r ih =>
   intro fs t f rest h; cases fs with
   | nil => simp at h
   | cons g fs => exact ih fs _ f rest (by simpa using h)
theorem pass_cut (cs : List Tx) : ∀ (fs rest : List SgE) (t : TSt), fs.length = cs.length -> t.pass cx (fs ++ rest) cs = t.pass cx fs cs := by
 induction cs with
 | nil => intro fs rest t h; obtain rfl : fs = [] := List.eq_nil_of_length_eq_zero h; cases rest <;> rfl
 | cons x r ih =>
   intro fs rest t h; cases fs with
   | nil => simp at h
   | cons g fs => exact ih fs rest _ (by simpa using h)
end
end TSt
section
variable {cx : TCx} {D : Nat}
theorem kP (hD : ∀ nm q, cx.sig nm = some q -> qN q <= D) : ∀ x : Ex, ∀ (t : TSt) (n : Nat), n <= 6 -> bR t (dA cx t n x).1 (gh D x) := by
 refine Ex.ind λ op nm m cs ks ih => ?_; have hks : ∀ (l : List Ex), (∀ k ∈ l, k ∈ ks) -> ∀ t : TSt, bR t (bt cx t l).1 (bQ D l) := by
  intro l; induction l with
  | nil => intro _ t; exact bR.refl _ _
  | cons k r ihr =>
    intro hl t; rw [bt, bQ]; exact (ih k (hl k (by simp)) t 1 zO).trans (ihr (λ k hk => hl k (by simp [hk])) _) (Nat.le_refl _)
 intro t n hn; rw [dA, gh]; split
 . simp only; have h1 := (TSt.den_stay hD t nm).trans (TSt.pass_stay hD (t.den cx nm).2.1 cs (t.den cx nm).1) (Nat.le_refl _); have h2 := h1.trans (hks ks (λ _ h => h) _) (Nat.le_refl _); have h3 := h2.trans (TSt.adds_stay _ n) (Nat.le_refl _); refine h3.trans (TSt.agree_stay _ _ _) ?_; rw [Nat.mul_succ]; omega
 . split
   . match ks, ih with
     | [a, b], ih =>
       rw [qz]; simp only [bQ]; have h1 := (ih b (by simp) t 1 zO).trans (TSt.is_stay _ ((dA cx t 1 b).2.headD 0) 2) (Nat.le_refl _); exact h1.trans (ih a (by simp) _ n hn) zO
     | [], _ => exact bR.refl _ _
     | [_], _ => exact bR.refl _ _
     | _ :: _ :: _ :: _, _ => exact bR.refl _ _
   . simp only; exact (hks ks (λ _ h => h) t).trans (TSt.value_stay _ _ _ _ _ _) zO
theorem pT (hD : ∀ nm q, cx.sig nm = some q -> qN q <= D) (l : List Ex) : ∀ t : TSt, bR t (bt cx t l).1 (bQ D l) := by
 induction l with
 | nil => intro t; exact bR.refl _ _
 | cons k r ihr =>
   intro t; rw [bt, bQ]; exact (kP hD k t 1 zO).trans (ihr _) (Nat.le_refl _)
end
def nM (fs : List (Tx × SgE)) (sig : Tx -> Option bz) (c : Tx) : Prop := bl fs c ≠ none ∨ sig c ≠ none
def okE (fs : List (Tx × SgE)) (sig : Tx -> Option bz) (op : Int) (nm : Tx) (cs : List Tx) (ks : List Ex) : Prop :=
 ks.length <= 1048576 /\
 ((op = 11 ∨ op = 12) -> cs ≠ []) /\
 (op ≠ 1 -> op ≠ 2 -> op ≠ 3 -> op ≠ 4 -> ks ≠ []) /\
 (op = 7 -> 2 <= ks.length) /\
 (op = 14 -> (∀ c ∈ cs, nM fs sig c) /\ nM fs sig nm /\ (bl fs nm ≠ none -> cs = []) /\ (bl fs nm = none -> ∀ q, sig nm = some q -> cs.length <= q.funs.length)) /\
 (op = 15 -> ∃ a b, ks = [a, b])
mutual
def okX (fs : List (Tx × SgE)) (sig : Tx -> Option bz) : Ex -> Prop
 | .mk op nm _ cs ks => okE fs sig op nm cs ks /\ Bb fs sig ks
def Bb (fs : List (Tx × SgE)) (sig : Tx -> Option bz) : List Ex -> Prop
 | [] => True
 | k :: r => okX fs sig k /\ Bb fs sig r
end
theorem vt {fs : List (Tx × SgE)} {sig : Tx -> Option bz} {l : List Ex} (h : Bb fs sig l) : ∀ k ∈ l, okX fs sig k := by
 induction l with
 | nil => intro k hk; cases hk
 | cons x r ih =>
   intro k hk; rw [Bb] at h; rcases List.mem_cons.1 hk with rfl | hk
   . exact h.1
   . exact ih h.2 k hk
theorem r9 {cx : TCx} (t : TSt) (n : Nat) (nm : Tx) (m : Int) (cs : List Tx) (ks : List Ex) : (dA cx t n (.mk 14 nm m cs ks)).2.length = n := by
 rw [dA, if_pos rfl]; exact TSt.news_len _ _
end Go.Proofs.YtiholfmmphcbeaaGreatDoor
namespace Go.Proofs.YtiholfmmphcbeaaGreatDoor
open _root_.Go.Proofs.Tryz
open Go.RowKit
section
variable {B F : Nat} {w : World} {H : TyH} {kv : Value} {t : TSt}
theorem cy.butR {C R : Nat} {W X : World} {cs : Array Value} {v : Value} {l : List Int} (h : cy C W v l) (hR : W.heap[R]? = some (.cells cs 105 (0, 0))) (hk : ba (· = R) W X) : cy C X v l := jQ h λ g o hg ho => hk.heap ho λ e => by
 obtain ⟨_, _, cur, hc⟩ := et h hg
 subst e
 rw [hR] at hc
 injection hc with hc
 injection hc with _ hc _
 exact absurd hc zD
theorem ax.butR {R m : Nat} {W X : World} {cs : Array Value} {l : List (Tx × Value)} (h : ax W m l) (hR : W.heap[R]? = some (.cells cs 105 (0, 0))) (hk : ba (· = R) W X) : ax X m l := by
 obtain ⟨es, c, hb, hr⟩ := h; exact ⟨es, c, hk.heap hb (λ e => by subst e; rw [hR] at hb; cases hb), hr⟩
theorem aU.butR {R m : Nat} {W X : World} {cs : Array Value} {l : List (Int × Value)} (h : aU W m l) (hR : W.heap[R]? = some (.cells cs 105 (0, 0))) (hk : ba (· = R) W X) : aU X m l := by
 obtain ⟨es, c, hb, hr⟩ := h; exact ⟨es, c, hk.heap hb (λ e => by subst e; rw [hR] at hb; cases hb), hr⟩
theorem aJ.butR {R : Nat} {W X : World} {cs : Array Value} (h : aJ B W H kv t) (hR : W.heap[R]? = some (.cells cs 105 (0, 0))) (hk : ba (· = R) W X) : aJ B X H kv t := by
 refine ⟨hk.heap h.box λ e => ?_, h.knot.kept hk λ b hb e => ?_, h.low, h.vars.butR hR hk, ?_⟩
 . have hb := h.box; rw [show H.N = R from e, hR] at hb; injection hb with hb; injection hb with _ hb _; exact absurd hb zD
 . have e : b = R := e; subst e; obtain ⟨cs', h3 | h3⟩ := h.knot.foot hb <;>
   . rw [hR] at h3; injection h3 with h3; injection h3 with _ h3 _; exact absurd h3 zD
 . obtain ⟨L, f1, f2, f3⟩ := h.funs; refine ⟨L, f1.butR hR hk, f2, λ i p q hp hq => ?_⟩; obtain ⟨a, b, e, g1, g2⟩ := f3 i p q hp hq; exact ⟨a, b, e, g1.butR hR hk, g2.butR hR hk⟩
theorem aE.after {W X : World} (h : aE F B w W) (hb : Below w.heap.size W X) (hB : B <= w.heap.size) : aE F B w X :=
 ⟨h.below.trans (hb.mono hB), λ g cs T0 n1 n2 n3 hg => (hb.block g (ab hg)).trans (h.cells g cs T0 n1 n2 n3 hg), λ g es c hn hg => (hb.block g (ab hg)).trans (h.maps g es c hn hg)⟩
def EO (B F : Nat) (H : TyH) (u : TSt × List (Int × Int) × SgE) (W : World) (e : Ending) (w' : World) : Prop :=
 ∃ v, e = .returned v /\ uj B w' v u.2.2 /\ aU w' F (cD u.2.1) /\ (∃ kv', aJ B w' H kv' u.1) /\ aE F B W w'
theorem zi : (prog.info? 105).map (·.size) = some 3 := by kernel_rfl
theorem mQ {tmps : Array Value} {w : World} {N : Nat} {x0 x1 x2 : Value} (hp : tmps.getD 6 undef = .pointer (some ⟨N, 0, none⟩)) (hg : w.heap[N]? = some (.cells #[x0, x1, x2] 105 (0, 0))) :
  (results f170 tmps).run prog w = .ok (.agg #[x0, x1, x2]) w :=
 results_cell_row results170 tmps w N 105 _ (0, 0) _ hp hg underlying105 rfl zi
theorem uC (h : aJ B w H kv t) (hB : B <= w.heap.size) (hBF : B <= F) (h1 : H.mv ≠ F) (h2 : H.mf ≠ F) {iv ov : Value} {s : SgE} {fr : List (Int × Int)} (hi : dH w iv s.ins) (ho : dH w ov s.outs) (hwi : ∀ m ∈ s.ins, (Lit.int .i64 m).wf = true) (hwo : ∀ m ∈ s.outs, (Lit.int .i64 m).wf = true) (hM : aU w F (cD fr)) (hn : t.ks.n + s.ins.length + s.outs.length < 4194303) :
  Calls prog 170 #[.pointer (some ⟨H.N, 0, none⟩), .agg #[.slice none 0 0, iv, ov], .map (some F)] w (EO B F H (t.inst1 fr s) w) := by
 have HB := zH hB; have H0 := zH h; have hal := (zA w (.cells #[.slice none 0 0, iv, ov] 38)).alloc (by simp) (.cells #[.slice none 0 0, .slice none 0 0, .slice none 0 0] 105); have HA := zH hal; have BS := zH (az (o := .cells #[.slice none 0 0, .slice none 0 0, .slice none 0 0] 105) (heap_alloc_new w (.cells #[.slice none 0 0, iv, ov] 38))); have BR := zH (bh (w := w.alloc (.cells #[.slice none 0 0, iv, ov] 38)) (o := .cells #[.slice none 0 0, .slice none 0 0, .slice none 0 0] 105) (n := w.heap.size + 1) (by simp)); have HE0 := zH ((au.of_below hal hB).but F); have HT0 := zH (h.under hal hB); have HM0 := zH (hM.under hal); have HI0 := zH (HE0.o.typs hi); have HO0 := zH (HE0.o.typs ho); have HWI := zH hwi; have HWO := zH hwo; have HN := zH hn; have HB0 := zH (Nat.le_trans hB hal.size); obtain ⟨A1, c1, rfl, _⟩ := hi.shape; obtain ⟨A2, c2, rfl, _⟩ := ho.shape; obtain ⟨p0, p1, p2⟩ := bo BS.o; clear h hB hi ho hwi hwo hM hn hal; go_enter func170, ntmps170
 go_wp2_with fail
 obtain ⟨R, hR⟩ : ∃ R, R = w.heap.size + 1 := ⟨_, rfl⟩; rw [<- hR] at BR; rw [<- hR]; have HRN := zH hR; clear p0 p1 p2 hR; generalize (w.alloc (.cells #[.slice none 0 0, .slice A1 s.ins.length c1, .slice A2 s.outs.length c2] 38)).alloc (.cells #[.slice none 0 0, .slice none 0 0, .slice none 0 0] 105) = V0 at *; go_loopg [7, 13] 0 (λ g fv v wr => g = 0 /\ fv = .slice none 0 0 /\ v = .int .i64 0 /\ wr = V0)
 case atStart => exact ⟨rfl, rfl, rfl, rfl⟩
 case round =>
  obtain ⟨_, rfl, rfl, rfl⟩ := hrel; obtain ⟨V1, rfl⟩ := zW wr; obtain ⟨p0, p1, p2⟩ := bo BS.o; have HTD := zH (HT0.o.under (zB V1).drew HB0.o); have HC := zH (ix (F := F) (w := V1.drew) HTD.o HB0.o hBF h1 h2 (l := s.ins) (fr := fr) HI0.o HWI.o (HM0.o.under (zB V1).drew) (by have := HN.o; omega)); go_wp2_with fail
  have KT := zH (show (λ W : World => W.cell? ⟨w.heap.size, 1, none⟩ = some (.slice A1 s.ins.length c1) /\ W.cell? ⟨w.heap.size, 2, none⟩ = some (.slice A2 s.outs.length c2)) V1.drew from ⟨p1, p2⟩); refine wp_region_held_drew (S := (λ W : World => W.cell? ⟨w.heap.size, 1, none⟩ = some (.slice A1 s.ins.length c1) /\ W.cell? ⟨w.heap.size, 2, none⟩ = some (.slice A2 s.outs.length c2))) zK ?_ (λ hHeld => ?_)
  . exact KT.o
  refine aa 0 ?_; refine aa 1 ?_; refine aa 2 ?_; refine aa 3 ?_; refine aa 4 ?_; refine aa 6 ?_; refine aa 7 ?_; refine aa 8 ?_; refine aa 9 ?_; refine aq 5 zK rfl (λ K hK => ?_); go_simp
  (go_at_call 190
   (with_reducible refine HC.o.mono ?_); rintro e w8 ⟨v8, rfl, ho8, hm8, ⟨kv8, ht8⟩, hk8⟩; obtain ⟨V8, rfl⟩ := zW w8; have HK8 := zH hk8; have HO8 := zH ho8; have HB8 := zH (Nat.le_trans HB0.o hk8.below.size); have BS8 := zH (hk8.cells _ _ _ zD zD zD BS.o); have BR8 := zH (hk8.cells _ _ _ zD zD zD BR.o); have HC8 := zH (ix (F := F) (w := V8) ht8 HB8.o hBF h1 h2 (l := s.outs) (hk8.typs HO0.o) HWO.o hm8 (by have h1 := HN.o; have h2 := (ic s.ins t fr).2.2.1; omega)); obtain ⟨q0, q1, q2⟩ := bo BS8.o; obtain ⟨A5, n5, c5, rfl, rfl⟩ := ho8.shape; clear ho8 hm8 ht8 hk8 HC)
  refine hK.out _ _ (⟨q1, q2⟩) (λ hHeld => ?_); clear hK K; try simp only [Act.put, aO, aM, aN]
  refine aq 10 zK rfl (λ K hK => ?_); go_simp
  (go_at_call 190
   (with_reducible refine HC8.o.mono ?_); rintro e w9 ⟨v9, rfl, ho9, hm9, ⟨kv9, ht9⟩, hk9⟩; obtain ⟨V9, rfl⟩ := zW w9; have HO9 := zH ho9; have HM9 := zH hm9; have HT9 := zH ht9; have HK9 := zH ((HE0.o.trans ((au.of_below (zB V1).drew HB0.o).but F)).trans (HK8.o.trans hk9)); have HO89 := zH (hk9.own HO8.o); have BS9 := zH (hk9.cells _ _ _ zD zD zD BS8.o); have BR9 := zH (hk9.cells _ _ _ zD zD zD BR8.o); obtain ⟨r0, r1, r2⟩ := bo BS9.o; obtain ⟨A6, n6, c6, rfl, rfl⟩ := ho9.shape; clear ho9 hm9 ht9 hk9 HC8)
  refine hK.out _ _ (⟨r1, r2⟩) (λ hHeld => ?_); clear hK K; try simp only [Act.put, aO, aM, aN]
  refine aa 11 ?_; obtain ⟨m, hm⟩ : ∃ m, m = (t.elems fr s.ins).2.2.length := ⟨_, rfl⟩; obtain ⟨b0, b1, b2⟩ := bo BR9.o; have f0 := bc BR9.o 0; have s1 := heap_setCell_same V9 R 0 _ _ (.slice none 0 0) BR9.o; have s2 := heap_setCell_same _ R 1 _ _ (.slice A5 (t.elems fr s.ins).2.2.length c5) s1; have HX := zH (heap_setCell_same _ R 2 _ _ (.slice A6 ((t.elems fr s.ins).1.elems (t.elems fr s.ins).2.1 s.outs).2.2.length c6) s2); obtain ⟨_, d1, _⟩ := bo s1; have f1 := bc s1 1; obtain ⟨_, _, d2⟩ := bo s2; have f2 := bc s2 2; have HKX := zH ((((ba.refl (· = R) V9).set (a := ⟨R, 0, none⟩) (.inl rfl) (.slice none 0 0)).set (a := ⟨R, 1, none⟩) (.inl rfl) (.slice A5 (t.elems fr s.ins).2.2.length c5)).set (a := ⟨R, 2, none⟩) (.inl rfl) (.slice A6 ((t.elems fr s.ins).1.elems (t.elems fr s.ins).2.1 s.outs).2.2.length c6)); clear s1 s2 hm
  have HSX := zH (show (λ W : World => W.cell? ⟨w.heap.size, 1, none⟩ = some (.slice A1 s.ins.length c1) /\ W.cell? ⟨w.heap.size, 2, none⟩ = some (.slice A2 s.outs.length c2)) (((V9.setCell ⟨R, 0, none⟩ (.slice none 0 0)).setCell ⟨R, 1, none⟩ (.slice A5 (t.elems fr s.ins).2.2.length c5)).setCell ⟨R, 2, none⟩ (.slice A6 ((t.elems fr s.ins).1.elems (t.elems fr s.ins).2.1 s.outs).2.2.length c6)) from by
   obtain ⟨_, e1, e2⟩ := bo (HKX.o.heap BS9.o (λ e => by have := HRN.o; have e : w.heap.size = R := e; omega)); exact ⟨e1, e2⟩)
  have HKB := zH ((((Below.refl w.heap.size V9).setCell (p := ⟨R, 0, none⟩) (by have := HRN.o; simp; omega) (.slice none 0 0)).setCell (p := ⟨R, 1, none⟩) (by have := HRN.o; simp; omega) (.slice A5 (t.elems fr s.ins).2.2.length c5)).setCell (p := ⟨R, 2, none⟩) (by have := HRN.o; simp; omega) (.slice A6 ((t.elems fr s.ins).1.elems (t.elems fr s.ins).2.1 s.outs).2.2.length c6)); refine aq 12 zK rfl (λ K hK => ?_); go_simp
  refine hK.out _ _ (HSX.o) (λ hHeld => ?_); clear hK K; try simp only [Act.put, aO, aM, aN]
  refine wpAnyH_done zK ?_ _; go_wp2_with fail
  refine bodyPost_ret (mQ rfl HX.o) rfl ⟨_, rfl, ⟨_, _, rfl, (HO89.o.butR BR9.o HKX.o).mono (Nat.le_refl _), HO9.o.butR BR9.o HKX.o⟩, HM9.o.butR BR9.o HKX.o, ⟨kv9, HT9.o.butR BR9.o HKX.o⟩, HK9.o.after HKB.o HB.o⟩
end
def SgL (B : Nat) (w : World) (L : List Value) (s : SgE) : Prop := ∃ a b, L = [.slice none 0 0, a, b] /\ cy B w a s.ins /\ cy B w b s.outs
def jb (C B : Nat) (w : World) (v : Value) (l : List SgE) : Prop := aS (SgL B w) C 105 3 w v l
def SgQ (C B : Nat) (w : World) (v : Value) (fs : List SgE) (s : SgE) : Prop := ∃ fv a b, v = .agg #[fv, a, b] /\ jb C B w fv fs /\ cy B w a s.ins /\ cy B w b s.outs
def nL (l : List Int) : Prop := ∀ m ∈ l, (Lit.int .i64 m).wf = true
def Jq (w : World) (L : List Value) (s : SgE) : Prop := ∃ iv ov, L = [.slice none 0 0, iv, ov] /\ dH w iv s.ins /\ dH w ov s.outs /\ nL s.ins /\ nL s.outs
theorem Ff : (prog.info? 105).map (λ i => (i.zero, i.size, i.bytes)) = some (some (.agg #[.slice none 0 0, .slice none 0 0, .slice none 0 0]), 3, 72) := by kernel_rfl
theorem SgL.len {B : Nat} {w : World} (L : List Value) (s : SgE) (h : SgL B w L s) : L.length = 3 := by
 obtain ⟨a, b, rfl, _⟩ := h; rfl
theorem SgL.one {B : Nat} {w : World} (L : List Value) (s : SgE) (h : SgL B w L s) : ∀ u ∈ L, u.oneCell' = true := by
 obtain ⟨a, b, rfl, h1, h2⟩ := h; obtain ⟨_, _, _, rfl, _⟩ := h1.shape; obtain ⟨_, _, _, rfl, _⟩ := h2.shape; intro u hu; simp at hu; rcases hu with rfl | rfl | rfl <;> rfl
theorem dH.under {w w' : World} {v : Value} {l : List Int} (h : dH w v l) (hb : Below w.heap.size w w') : dH w' v l := ((au.of_below hb (Nat.le_refl _)).but 0).typs h
section
variable {B F : Nat} {w : World} {H : TyH} {kv : Value} {t : TSt}
theorem aE.sgs {C D : Nat} {w' : World} {v : Value} {l : List SgE} (h : aE F B w w') (hS : jb C D w v l) : jb C D w' v l :=
 aS.keepR hS (λ g o hg ho => by
  obtain ⟨_, _, cur, hc⟩ := hS.blk hg
  rw [hc] at ho
  cases ho
  exact h.cells g cur _ zD zD zD hc) λ L s _ ⟨a, b, e, h1, h2⟩ => ⟨a, b, e, h.own h1, h.own h2⟩
theorem jb.under {C D : Nat} {w' : World} {v : Value} {l : List SgE} (hS : jb C D w v l) (hb : Below w.heap.size w w') : jb C D w' v l := ((au.of_below hb (Nat.le_refl _)).but 0).sgs hS
theorem jb.grown {C D : Nat} {w' : World} {v v' : Value} {l m : List SgE} (hS : jb C D w v l) (hO : aS (SgL D w) C 105 3 w' v' m) (hg : w.grownBy w' v.ownBlock) : jb C D w' v' m :=
 aS.keepR hO (λ _ _ _ h => h) λ L s _ ⟨a, b, e, h1, h2⟩ => by
  have hk : ∀ (u : Value) (k : List Int), cy D w u k -> cy D w' u k := λ u k hu => jQ hu λ g o hgu ho => (hg.block g (ab ho) λ e => by
   obtain ⟨_, _, c1, hc1⟩ := et hu hgu
   obtain ⟨_, _, c2, hc2⟩ := hS.blk e.symm
   rw [hc1] at hc2
   injection hc2 with hc2
   injection hc2 with _ hc2 _
   exact absurd hc2 zD).trans ho
  exact ⟨a, b, e, hk a _ h1, hk b _ h2⟩
theorem aJ.growG {W w' : World} {kv0 v : Value} {t0 : TSt} {T1 : TypeId} (h0 : aJ B w H kv0 t0) (h : aJ B W H kv t) (hf : t.funs = t0.funs) (h2 : H.mf ≠ F) (hk : aE F B w W) (n1 : T1 ≠ 146) (n2 : T1 ≠ 150) (n3 : T1 ≠ 94)
  (hlow : ∀ g, v.ownBlock = some g -> w.heap.size <= g /\ ∃ cur, W.heap[g]? = some (.cells cur T1 (0, 0))) (hg : W.grownBy w' v.ownBlock) : aJ B w' H kv t /\ aE F B w w' /\ ∀ L, aU W F L -> aU w' F L := by
 have hkept : aE F B w w' := by
  refine ⟨hk.below.trans ((Below.refl w.heap.size W).grown hg hk.below.size (λ g hg => (hlow g hg).1) |>.mono ?_), λ g cs T0 n1 n2 n3 h4 => ?_, λ g es c h3 h4 => ?_⟩
  . have := h0.low; have := ab h0.box; omega
  . exact (hg.block g (ab (hk.cells g cs T0 n1 n2 n3 h4)) (λ e => by have := (hlow g e.symm).1; have := ab h4; omega)).trans (hk.cells g cs T0 n1 n2 n3 h4)
  . exact (hg.block g (ab (hk.maps g es c h3 h4)) (λ e => by have := (hlow g e.symm).1; have := ab h4; omega)).trans (hk.maps g es c h3 h4)
 refine ⟨⟨?_, ?_, h.low, ?_, ?_⟩, hkept, λ L hL => ?_⟩
 . refine (hg.block _ (ab h.box) λ e => ?_).trans h.box; obtain ⟨_, cur, h1⟩ := hlow _ e.symm; rw [h.box] at h1; injection h1 with h1; injection h1 with _ h1 _; exact n3 h1.symm
 . refine h.knot.kept (M := λ b => v.ownBlock = some b) (ba.of_grown hg λ k e => e) λ b hb e => ?_; obtain ⟨_, cur, h1⟩ := hlow _ e; obtain ⟨cs, h2 | h2⟩ := h.knot.foot hb
   . rw [h2] at h1; injection h1 with h1; injection h1 with _ h1 _; exact n1 h1.symm
   . rw [h2] at h1; injection h1 with h1; injection h1 with _ h1 _; exact n2 h1.symm
 . obtain ⟨es, c, hb, hr⟩ := h.vars; refine ⟨es, c, (hg.block _ (ab hb) λ e => ?_).trans hb, hr⟩; obtain ⟨_, cur, h1⟩ := hlow _ e.symm; rw [hb] at h1; cases h1
 . rw [hf]; exact hkept.funsAt h2 h0.funs
 . obtain ⟨es, c, hb, hr⟩ := hL; refine ⟨es, c, (hg.block _ (ab hb) λ e => ?_).trans hb, hr⟩; obtain ⟨_, cur, h1⟩ := hlow _ e.symm; rw [hb] at h1; cases h1
theorem jb.butR {C D R : Nat} {W X : World} {cs : Array Value} {v : Value} {l : List SgE} (h : jb C D W v l) (hR : W.heap[R]? = some (.cells cs 105 (0, 0))) (hk : ba (· = R) W X) (hC : R < C) : jb C D X v l :=
 aS.keepR h (λ g o hg ho => hk.heap ho λ e => by have := (h.blk hg).1; have e : g = R := e; omega) λ L s _ ⟨a, b, e, h1, h2⟩ => ⟨a, b, e, h1.butR hR hk, h2.butR hR hk⟩
theorem r5 (l : List SgE) : ∀ j x, l[j]? = some x -> gO (l.take (j + 1)) = gO (l.take j) + sgN x /\ gO (l.take (j + 1)) <= gO l := by
 induction l with
 | nil => intro j x h; simp at h
 | cons k r ih =>
   intro j x h; cases j with
   | zero => simp at h; subst h; simp [gO]
   | succ j =>
     obtain ⟨h1, h2⟩ := ih j x (by simpa using h); simp only [List.take_succ_cons, gO]; omega
theorem xf {w0 : World} (h : aJ B w H kv t) (hB : B <= w.heap.size) (hBF : B <= F) (h1 : H.mv ≠ F) (h2 : H.mf ≠ F) {fv iv ov : Value} {q : bz} (hb : Below w0.heap.size w0 w) (hf : ak w0 (Jq w0) fv q.funs) (hi : dH w0 iv q.sg.ins) (ho : dH w0 ov q.sg.outs) (hwi : nL q.sg.ins) (hwo : nL q.sg.outs) (hfl : q.funs.length <= 1048576) (hM : aU w F (cD [])) (hn : t.ks.n + qN q < 4194303) (hwB : w0.heap.size <= B) :
  Calls prog 170 #[.pointer (some ⟨H.N, 0, none⟩), .agg #[fv, iv, ov], .map (some F)] w (λ e w' => ∃ v, e = .returned v /\ SgQ w.heap.size B w' v (t.inst q).2.1 (t.inst q).2.2 /\ (∃ kv', aJ B w' H kv' (t.inst q).1) /\ aE F B w w') := by
 obtain ⟨A0, c0, rfl, hc0, hm0, hel⟩ := hf; have HB := zH hB; have H0 := zH h; have hal := (zA w (.cells #[.slice A0 q.funs.length c0, iv, ov] 38)).alloc (by simp) (.cells #[.slice none 0 0, .slice none 0 0, .slice none 0 0] 105); have HA := zH hal; have BS := zH (az (o := .cells #[.slice none 0 0, .slice none 0 0, .slice none 0 0] 105) (heap_alloc_new w (.cells #[.slice A0 q.funs.length c0, iv, ov] 38))); have BR := zH (bh (w := w.alloc (.cells #[.slice A0 q.funs.length c0, iv, ov] 38)) (o := .cells #[.slice none 0 0, .slice none 0 0, .slice none 0 0] 105) (n := w.heap.size + 1) (by simp)); have HE0 := zH ((au.of_below hal hB).but F); have HT0 := zH (h.under hal hB); have HM0 := zH (hM.under hal); have HBW := zH (hb.trans (hal.mono hb.size)); have HI := zH hi; have HO := zH ho; have HWI := zH hwi; have HWO := zH hwo; have HN := zH hn; have HEL := zH hel; have HWB := zH hwB; have HFL := zH hfl; have hfl2 : q.funs.length <= 9223372036854775807 := zO; obtain ⟨A1, c1, rfl, _⟩ := hi.shape; obtain ⟨A2, c2, rfl, _⟩ := ho.shape; have HZ0 := zH (Nat.le_trans hB hal.size); have HZA := zH (show w.heap.size + 2 <= ((w.alloc (.cells #[.slice A0 q.funs.length c0, .slice A1 q.sg.ins.length c1, .slice A2 q.sg.outs.length c2] 38)).alloc (.cells #[.slice none 0 0, .slice none 0 0, .slice none 0 0] 105)).heap.size by simp); obtain ⟨p0, p1, p2⟩ := bo BS.o; clear h hB hi ho hwi hwo hM hn hal hel hb hwB hfl; go_enter func170, ntmps170
 go_wp2_with fail
 obtain ⟨R, hR⟩ : ∃ R, R = w.heap.size + 1 := ⟨_, rfl⟩; rw [<- hR] at BR; rw [<- hR]; have HRN := zH hR; clear p0 p1 p2 hR; generalize (w.alloc (.cells #[.slice A0 q.funs.length c0, .slice A1 q.sg.ins.length c1, .slice A2 q.sg.outs.length c2] 38)).alloc (.cells #[.slice none 0 0, .slice none 0 0, .slice none 0 0] 105) = V0 at *; go_loopg [7, 13] q.funs.length (λ g fv v wr => ∃ j : Nat, j + g = q.funs.length /\ v = .int .i64 j /\ jb V0.heap.size B wr fv (t.insts [] (q.funs.take j)).2.2 /\ aU wr F (cD (t.insts [] (q.funs.take j)).2.1) /\ (∃ kv', aJ B wr H kv' (t.insts [] (q.funs.take j)).1) /\ aE F B V0 wr)
 case atStart => exact ⟨0, by omega, rfl, aS.nil _, HM0.o, ⟨kv, HT0.o⟩, (au.refl _ _).but F⟩
 case round =>
  obtain ⟨j, hjg, rfl, hown, hmp, ⟨kv1, hty⟩, hke⟩ := hrel; obtain ⟨wz, rfl⟩ := zW wr; have HK := zH hjg; have HT := zH hty; have HE := zH hke; have HS := zH hown; have HMP := zH hmp; have HBZ := zH (Nat.le_trans HZ0.o hke.below.size); have hjl : j <= q.funs.length := zO; have HIS := zH (TSt.insts_stay (q.funs.take j) t []); obtain ⟨A5, n5, c5, rfl, hn5⟩ := hown.shape; rw [HIS.o.2, List.length_take, Nat.min_eq_left hjl] at hn5; subst hn5; have BSZ := zH (hke.cells _ _ _ zD zD zD BS.o); have BRZ := zH (hke.cells _ _ _ zD zD zD BR.o); have HBW1 := zH (HBW.o.trans (hke.below.mono HWB.o)); obtain ⟨p0, p1, p2⟩ := bo BSZ.o; clear hjg hty hke hown hmp; by_cases hlt : n5 < q.funs.length
  . obtain ⟨s, hs⟩ := zG hlt; obtain ⟨L, hEl, iv1, ov1, rfl, hi1, ho1, hw1, hw2⟩ := HEL.o n5 s hs; obtain ⟨a, ea, ha, haa, d0, d1, d2⟩ := gz (hEl.under HBW1.o); subst ea; obtain ⟨A6, c6, rfl, _⟩ := hi1.shape; obtain ⟨A7, c7, rfl, _⟩ := ho1.shape
    have HST := zH (show t.insts [] (q.funs.take (n5 + 1)) = (((t.insts [] (q.funs.take n5)).1.inst1 (t.insts [] (q.funs.take n5)).2.1 s).1, ((t.insts [] (q.funs.take n5)).1.inst1 (t.insts [] (q.funs.take n5)).2.1 s).2.1, (t.insts [] (q.funs.take n5)).2.2 ++ [((t.insts [] (q.funs.take n5)).1.inst1 (t.insts [] (q.funs.take n5)).2.1 s).2.2]) by
     obtain ⟨_, rfl⟩ := List.getElem?_eq_some_iff.1 hs; rw [List.take_succ_eq_append_getElem hlt, TSt.insts_snoc])
    have hbd := r5 q.funs n5 s hs; have hal1 := zA wz (.cells #[.slice none 0 0, .slice A6 s.ins.length c6, .slice A7 s.outs.length c7] 38); have HAL := zH hal1; have HCX := zH (uC (F := F) (HT.o.under hal1 HBZ.o) (Nat.le_trans HBZ.o hal1.size) hBF h1 h2 ((hi1.under HBW1.o).under hal1) ((ho1.under HBW1.o).under hal1) hw1 hw2 (HMP.o.under hal1) (by have h1 := HIS.o.1.2.2; have h2 := HN.o; unfold qN at h2; unfold sgN at hbd; omega)); have HFQ := zH (show ((t.insts [] (q.funs.take n5)).1.inst1 (t.insts [] (q.funs.take n5)).2.1 s).1.funs = t.funs from (TSt.inst1_stay _ _ _).1.2.1.trans HIS.o.1.2.1); have HFL1 := zH (show (t.insts [] (q.funs.take n5)).2.2.length <= 4194303 by have := HFL.o; rw [HIS.o.2, List.length_take]; omega); clear hs hEl hi1 ho1 hw1 hw2 hbd hal1
    go_wp2_with (first
     | (go_at_call 170; (with_reducible refine HCX.o.mono ?_); rintro e w8 ⟨v8, rfl, ⟨a8, b8, rfl, ho8, hp8⟩, hm8, ⟨kv8, ht8⟩, hk8⟩; obtain ⟨V8, rfl⟩ := zW w8; have HK8 := zH (((au.of_below HAL.o HBZ.o).but F).trans hk8); have hal := zA V8 (.cells #[.slice none 0 0, a8, b8] 105); have hB8 := Nat.le_trans HBZ.o HK8.o.below.size; have HT8 := zH (ht8.under hal hB8); have HE8 := zH ((HE.o.trans HK8.o).trans ((au.of_below hal hB8).but F)); have HO8 := zH ((HK8.o.sgs HS.o).under hal); have HM8 := zH (hm8.under hal); have HX8 := zH (show SgL B (V8.alloc (.cells #[.slice none 0 0, a8, b8] 105)) [.slice none 0 0, a8, b8] ((t.insts [] (q.funs.take n5)).1.inst1 (t.insts [] (q.funs.take n5)).2.1 s).2.2 from ⟨a8, b8, rfl, ho8.under hal, hp8.under hal⟩); obtain ⟨_, _, _, rfl, rfl⟩ := ho8.shape; obtain ⟨_, _, _, rfl, rfl⟩ := hp8.shape; clear ht8 hk8 hal hB8 hm8 ho8 hp8)
     | (at_builtin
        refine uf underlying102 Ff rfl zD zD SgL.len SgL.one rfl _ _ rfl rfl rfl (heap_alloc_new _ _) HX8.o HO8.o HFL1.o HE8.o.below.size ?_; intro v5 w5 h5 g5; obtain ⟨V5, rfl⟩ := zW w5; have HN5 := zH (HO8.o.grown h5 g5); have HT5 := zH (HT0.o.growG HT8.o HFQ.o h2 HE8.o (T1 := 105) zD zD zD (λ g hg => ⟨(HO8.o.blk hg).1, (HO8.o.blk hg).2.2⟩) g5); obtain ⟨B6, m6, c6', rfl, hm6⟩ := HN5.o.shape; clear h5 g5))
    go_roundg (q.funs.length - (n5 + 1))
    case measure => have := HK.o; omega
    case rel => exact ⟨n5 + 1, by omega, by go_num, by rw [HST.o]; have := HN5.o; rw [hm6, List.length_append] at this; exact this, by rw [HST.o]; exact HT5.o.2.2 _ HM8.o, ⟨kv8, by rw [HST.o]; exact HT5.o.1⟩, HT5.o.2.1⟩
  . have hje : n5 = q.funs.length := by omega
    subst hje; rw [List.take_length] at HS HMP HT HIS; obtain ⟨u, hu⟩ : ∃ u, t.insts [] q.funs = u := ⟨_, rfl⟩; have HQ := zH (show t.inst q = ((u.1.inst1 u.2.1 q.sg).1, u.2.2, (u.1.inst1 u.2.1 q.sg).2.2) by unfold TSt.inst; simp only; rw [hu]); rw [hu] at HS HMP HT HIS; clear hu; have HI0 := zH (HI.o.under HBW1.o); have HO0 := zH (HO.o.under HBW1.o); have HNB := zH (show u.1.ks.n + q.sg.ins.length + q.sg.outs.length < 4194303 by have h1 := HIS.o.1.2.2; have h2 := HN.o; unfold qN sgN at h2; omega); have HTD := zH (HT.o.under (zB wz).drew HBZ.o); have HC := zH (ix (F := F) (w := wz.drew) HTD.o HBZ.o hBF h1 h2 (l := q.sg.ins) (fr := u.2.1) (HI0.o.under (zB wz).drew) HWI.o (HMP.o.under (zB wz).drew) (by have := HNB.o; omega)); have HSD := zH (HS.o.under (zB wz).drew); have HKD := zH (HE.o.trans ((au.of_below (zB wz).drew HBZ.o).but F)); have BSD := zH (show wz.drew.heap[w.heap.size]? = _ from BSZ.o); have BRD := zH (show wz.drew.heap[R]? = _ from BRZ.o); go_wp2_with fail
    have KT := zH (show (λ W : World => W.cell? ⟨w.heap.size, 1, none⟩ = some (.slice A1 q.sg.ins.length c1) /\ W.cell? ⟨w.heap.size, 2, none⟩ = some (.slice A2 q.sg.outs.length c2)) wz.drew from ⟨p1, p2⟩); refine wp_region_held_drew (S := (λ W : World => W.cell? ⟨w.heap.size, 1, none⟩ = some (.slice A1 q.sg.ins.length c1) /\ W.cell? ⟨w.heap.size, 2, none⟩ = some (.slice A2 q.sg.outs.length c2))) zK ?_ (λ hHeld => ?_)
    . exact KT.o
    refine aa 0 ?_; refine aa 1 ?_; refine aa 2 ?_; refine aa 3 ?_; refine aa 4 ?_; refine aa 6 ?_; refine aa 7 ?_; refine aa 8 ?_; refine aa 9 ?_; refine aq 5 zK rfl (λ K hK => ?_); go_simp
    (go_at_call 190
     (with_reducible refine HC.o.mono ?_); rintro e w8 ⟨v8, rfl, ho8, hm8, ⟨kv8, ht8⟩, hk8⟩; obtain ⟨V8, rfl⟩ := zW w8; have HK8 := zH (HKD.o.trans hk8); have HO8 := zH ho8; have HS8 := zH (hk8.sgs HSD.o); have HB8 := zH (Nat.le_trans HBZ.o hk8.below.size); have BS8 := zH (hk8.cells _ _ _ zD zD zD BSD.o); have BR8 := zH (hk8.cells _ _ _ zD zD zD BRD.o); have HC8 := zH (ix (F := F) (w := V8) ht8 HB8.o hBF h1 h2 (l := q.sg.outs) (hk8.typs (HO0.o.under (zB wz).drew)) HWO.o hm8 (by have h1 := HNB.o; have h2 := (ic q.sg.ins u.1 u.2.1).2.2.1; omega)); obtain ⟨q0, q1, q2⟩ := bo BS8.o; obtain ⟨A6, n6, c6, rfl, rfl⟩ := ho8.shape; clear ho8 hm8 ht8 hk8 HC)
    refine hK.out _ _ (⟨q1, q2⟩) (λ hHeld => ?_); clear hK K; try simp only [Act.put, aO, aM, aN]
    refine aq 10 zK rfl (λ K hK => ?_); go_simp
    (go_at_call 190
     (with_reducible refine HC8.o.mono ?_); rintro e w9 ⟨v9, rfl, ho9, hm9, ⟨kv9, ht9⟩, hk9⟩; obtain ⟨V9, rfl⟩ := zW w9; have HO9 := zH ho9; have HT9 := zH ht9; have HK9 := zH (HE0.o.trans (HK8.o.trans hk9)); have HS9 := zH (hk9.sgs HS8.o); have HO89 := zH (hk9.own HO8.o); have BS9 := zH (hk9.cells _ _ _ zD zD zD BS8.o); have BR9 := zH (hk9.cells _ _ _ zD zD zD BR8.o); obtain ⟨r0, r1, r2⟩ := bo BS9.o; obtain ⟨A7, n7, c7, rfl, rfl⟩ := ho9.shape; clear ho9 hm9 ht9 hk9 HC8)
    refine hK.out _ _ (⟨r1, r2⟩) (λ hHeld => ?_); clear hK K; try simp only [Act.put, aO, aM, aN]
    refine aa 11 ?_; obtain ⟨b0, b1, b2⟩ := bo BR9.o; have f0 := bc BR9.o 0; have s1 := heap_setCell_same V9 R 0 _ _ (.slice A5 q.funs.length c5) BR9.o; have s2 := heap_setCell_same _ R 1 _ _ (.slice A6 (u.1.elems u.2.1 q.sg.ins).2.2.length c6) s1; have HX := zH (heap_setCell_same _ R 2 _ _ (.slice A7 ((u.1.elems u.2.1 q.sg.ins).1.elems (u.1.elems u.2.1 q.sg.ins).2.1 q.sg.outs).2.2.length c7) s2); obtain ⟨_, d1, _⟩ := bo s1; have f1 := bc s1 1; obtain ⟨_, _, d2⟩ := bo s2; have f2 := bc s2 2; have HKX := zH ((((ba.refl (· = R) V9).set (a := ⟨R, 0, none⟩) (.inl rfl) (.slice A5 q.funs.length c5)).set (a := ⟨R, 1, none⟩) (.inl rfl) (.slice A6 (u.1.elems u.2.1 q.sg.ins).2.2.length c6)).set (a := ⟨R, 2, none⟩) (.inl rfl) (.slice A7 ((u.1.elems u.2.1 q.sg.ins).1.elems (u.1.elems u.2.1 q.sg.ins).2.1 q.sg.outs).2.2.length c7)); clear s1 s2
    have HSX := zH (show (λ W : World => W.cell? ⟨w.heap.size, 1, none⟩ = some (.slice A1 q.sg.ins.length c1) /\ W.cell? ⟨w.heap.size, 2, none⟩ = some (.slice A2 q.sg.outs.length c2)) (((V9.setCell ⟨R, 0, none⟩ (.slice A5 q.funs.length c5)).setCell ⟨R, 1, none⟩ (.slice A6 (u.1.elems u.2.1 q.sg.ins).2.2.length c6)).setCell ⟨R, 2, none⟩ (.slice A7 ((u.1.elems u.2.1 q.sg.ins).1.elems (u.1.elems u.2.1 q.sg.ins).2.1 q.sg.outs).2.2.length c7)) from by
     obtain ⟨_, e1, e2⟩ := bo (HKX.o.heap BS9.o (λ e => by have := HRN.o; have e : w.heap.size = R := e; omega)); exact ⟨e1, e2⟩)
    have HKB := zH ((((Below.refl w.heap.size V9).setCell (p := ⟨R, 0, none⟩) (by have := HRN.o; simp; omega) (.slice A5 q.funs.length c5)).setCell (p := ⟨R, 1, none⟩) (by have := HRN.o; simp; omega) (.slice A6 (u.1.elems u.2.1 q.sg.ins).2.2.length c6)).setCell (p := ⟨R, 2, none⟩) (by have := HRN.o; simp; omega) (.slice A7 ((u.1.elems u.2.1 q.sg.ins).1.elems (u.1.elems u.2.1 q.sg.ins).2.1 q.sg.outs).2.2.length c7)); refine aq 12 zK rfl (λ K hK => ?_); go_simp
    refine hK.out _ _ (HSX.o) (λ hHeld => ?_); clear hK K; try simp only [Act.put, aO, aM, aN]
    refine wpAnyH_done zK ?_ _; go_wp2_with fail
    refine bodyPost_ret (mQ rfl HX.o) rfl ⟨_, rfl, ⟨_, _, _, rfl, ?_, ?_, ?_⟩, ⟨kv9, ?_⟩, HK9.o.after HKB.o HB.o⟩
    . rw [HQ.o]; exact aS.low (HS9.o.butR BR9.o HKX.o (by have h1 := HZA.o; have h2 := HRN.o; omega)) (by have h1 := HZA.o; omega)
    . rw [HQ.o]; exact HO89.o.butR BR9.o HKX.o
    . rw [HQ.o]; exact HO9.o.butR BR9.o HKX.o
    . rw [HQ.o]; exact HT9.o.butR BR9.o HKX.o
end
def Jr (w : World) (L : List Value) (q : bz) : Prop := ∃ fv iv ov vv, L = [fv, iv, ov, vv] /\ ak w (Jq w) fv q.funs /\ dH w iv q.sg.ins /\ dH w ov q.sg.outs /\ nL q.sg.ins /\ nL q.sg.outs
structure lZ (H : TyH) (sig : Tx -> Option bz) (D : Nat) (w0 : World) : Prop where
 at_ : ∀ nm q, sig nm = some q -> ∃ (k : Nat) (qs : List bz), ak w0 (Jr w0) H.iv qs /\ qs[k]? = some q /\ ∀ W, Below w0.heap.size w0 W -> Calls prog 169 #[.agg #[H.ev, H.nv], .string (str nm)] W (λ e w' => e = .returned (.tuple #[.int .i64 (k : Int), .bool true]) /\ Below W.heap.size W w')
 small : ∀ nm q, sig nm = some q -> qN q <= D
 few : ∀ nm q, sig nm = some q -> q.funs.length <= 1048576
theorem Ea {w : World} {A : Option Addr} {k : Nat} {c0 c1 c2 c3 : Value} (h : eY w A k [c0, c1, c2, c3]) :
  ∃ a, A = some a /\ a.block < w.heap.size /\ (a.add (k * 4)).block < w.heap.size /\ w.cell? (a.add (k * 4)) = some c0 /\ w.cell? { block := (a.add (k * 4)).block, off := (a.add (k * 4)).off + 1 } = some c1 /\ w.cell? { block := (a.add (k * 4)).block, off := (a.add (k * 4)).off + 2 } = some c2 /\ w.cell? { block := (a.add (k * 4)).block, off := (a.add (k * 4)).off + 3 } = some c3 := by
 obtain ⟨a, rfl, h⟩ := h; have h : dk w (a.add (k * 4)) [c0, c1, c2, c3] := h; have h0 := h 0 _ rfl; rw [add_zero] at h0; refine ⟨a, rfl, ?_, h.lt (by simp), h0, ?_, ?_, ?_⟩
 . have := h.lt (by simp); rwa [dP] at this
 . rw [<- bk _ _ _ zO]; exact h 1 _ rfl
 . rw [<- bk _ _ _ zO]; exact h 2 _ rfl
 . rw [<- bk _ _ _ zO]; exact h 3 _ rfl
theorem Hc (w : World) : (zeroValue 105).run prog w = .ok (.agg #[.slice none 0 0, .slice none 0 0, .slice none 0 0]) w := by kernel_rfl
section
variable {B : Nat} {w : World} {H : TyH} {kv : Value} {t : TSt}
theorem iw.yes {m : Nat} {l : List (Tx × SgE)} (h : iw B w m l) {nm : Tx} {s : SgE} (hs : bl l nm = some s) : ∃ a b, cy B w a s.ins /\ cy B w b s.outs /\ ∀ W, Below w.heap.size w W -> (Instr.lookup 92 (.map (some m)) (.string (str nm)) true).run prog W = .ok (.tuple #[.agg #[.slice none 0 0, a, b], .bool true]) W /\ (Instr.lookup 92 (.map (some m)) (.string (str nm)) false).run prog W = .ok (.agg #[.slice none 0 0, a, b]) W := by
 obtain ⟨L, h1, h2, h3⟩ := h; unfold bl at hs; obtain ⟨p, hp, rfl⟩ := Option.map_eq_some_iff.1 hs; have hk : p.1 = nm := (by simpa using List.find?_some hp); obtain ⟨i, hi⟩ := List.getElem?_of_mem (List.mem_of_find?_eq_some hp); have hil : i < L.length := by
  have : L.length = l.length := by simpa using congrArg List.length h2
  rw [this]; exact (List.getElem?_eq_some_iff.1 hi).1
 have hLi : L[i]? = some L[i] := List.getElem?_eq_getElem hil; have hf : (L[i]).1 = nm := by
  have e1 : (L.map Prod.fst)[i]? = some (L[i]).1 := (by rw [List.getElem?_map, hLi]; rfl); rw [h2, List.getElem?_map, hi] at e1; injection e1 with e1; rw [<- e1]; exact hk
 obtain ⟨a, b, e, h4, h5⟩ := h3 i _ p hLi hi; have hm : (nm, (L[i]).2) ∈ L := (by rw [<- hf]; exact List.getElem_mem hil); rw [e] at hm; exact ⟨a, b, h4, h5, λ W hW => ⟨(h1.under hW).look_yes underlying92 hm, (h1.under hW).one_yes underlying92 hm⟩⟩
theorem iw.no {m : Nat} {l : List (Tx × SgE)} (h : iw B w m l) {nm : Tx} (hs : bl l nm = none) (hl : nm.length <= maxLen) : (Instr.lookup 92 (.map (some m)) (.string (str nm)) true).run prog w = .ok (.tuple #[.agg #[.slice none 0 0, .slice none 0 0, .slice none 0 0], .bool false]) w := by
 obtain ⟨L, h1, h2, _⟩ := h; refine h1.look_no underlying92 (Hc w) hl ?_; rw [h2]; unfold bl at hs; rw [Option.map_eq_none_iff, List.find?_eq_none] at hs; intro hm; obtain ⟨p, hp, e⟩ := List.mem_map.1 hm; exact hs p hp (by simpa using e)
def uo (B : Nat) (H : TyH) (d : TSt × List SgE × SgE) (W : World) (e : Ending) (w' : World) : Prop := ∃ v, e = .returned v /\ SgQ W.heap.size B w' v d.2.1 d.2.2 /\ (∃ kv', aJ B w' H kv' d.1) /\ au B W w'
theorem oz {tmps : Array Value} {w : World} {N : Nat} {x0 x1 x2 : Value} (hp : tmps.getD 4 undef = .pointer (some ⟨N, 0, none⟩)) (hg : w.heap[N]? = some (.cells #[x0, x1, x2] 105 (0, 0))) :
  (results f139 tmps).run prog w = .ok (.agg #[x0, x1, x2]) w :=
 results_cell_row results139 tmps w N 105 _ (0, 0) _ hp hg underlying105 rfl zi
theorem uF {cx : TCx} (h : aJ B w H kv t) (hB : B <= w.heap.size) {nm : Tx} {s : SgE} (hs : bl t.funs nm = some s) :
  Calls prog 139 #[.pointer (some ⟨H.N, 0, none⟩), .string (str nm)] w (uo B H (t.den cx nm) w) := by
 have HQ := zH (show t.den cx nm = (t, [], s) by unfold TSt.den; rw [hs]); have hal := zA w (.cells #[.slice none 0 0, .slice none 0 0, .slice none 0 0] 105); obtain ⟨c3, c4, c5, c6, f6⟩ := (h.under hal hB).cellsAt; obtain ⟨a, b, h4, h5, hr⟩ := h.funs.yes hs; have hrun := (hr _ hal).1; have H4 := zH h4; have H5 := zH h5; have H0 := zH h; have HB := zH hB; obtain ⟨A1, n1, k1, rfl, rfl⟩ := h4.shape; obtain ⟨A2, n2, k2, rfl, rfl⟩ := h5.shape; clear h hB h4 h5 hal hr; go_enter func139, ntmps139
 go_wp2_with fail
 have hal2 := (zA w (.cells #[.slice none 0 0, .slice A1 s.ins.length k1, .slice A2 s.outs.length k2] 105)).alloc (by simp) (.cells #[.slice none 0 0, .slice A1 s.ins.length k1, .slice A2 s.outs.length k2] 105); have HT2 := H0.o.under hal2 HB.o; refine bodyPost_ret (oz rfl (az (heap_alloc_new w _))) rfl ⟨_, rfl, ?_, ⟨kv, by rw [HQ.o]; exact HT2⟩, au.of_below hal2 HB.o⟩; rw [HQ.o]; exact ⟨_, _, _, rfl, aS.nil _, H4.o.under hal2, H5.o.under hal2⟩
theorem xi {cx : TCx} {w0 : World} {D : Nat} (h : aJ B w H kv t) (hB : B <= w.heap.size) (hS : lZ H cx.sig D w0) (hb : Below w0.heap.size w0 w) (hwB : w0.heap.size <= B) {nm : Tx} {q : bz} (hg : bl t.funs nm = none) (hs : cx.sig nm = some q) (hl : nm.length <= maxLen) (hn : t.ks.n + D < 4194303) :
  Calls prog 139 #[.pointer (some ⟨H.N, 0, none⟩), .string (str nm)] w (uo B H (t.den cx nm) w) := by
 have HQ := zH (show t.den cx nm = t.inst q by unfold TSt.den; rw [hg]; simp only; rw [hs]); have hal := zA w (.cells #[.slice none 0 0, .slice none 0 0, .slice none 0 0] 105); have hal2 := hal.alloc (by simp) (.cells #[.slice none 0 0, .slice none 0 0, .slice none 0 0] 105); have hrun := (h.under hal hB).funs.no hg hl; obtain ⟨k, qs, hqs, hk, hnode⟩ := hS.at_ nm q hs; have BR := zH (az (o := .cells #[.slice none 0 0, .slice none 0 0, .slice none 0 0] 105) (heap_alloc_new w (.cells #[.slice none 0 0, .slice none 0 0, .slice none 0 0] 105))); have HND := zH (hnode _ (hb.trans (hal2.mono hb.size))); have HBW := zH (hb.trans (hal2.mono hb.size)); have HE := zH (au.of_below hal2 hB); have HT := zH (h.under hal2 hB); have HB2 := zH (Nat.le_trans hB hal2.size); have HSM := zH (hS.small nm q hs); have HFW := zH (hS.few nm q hs); have HN := zH hn; have HWB := zH hwB; have HB := zH hB; obtain ⟨A0, c0, eiv, hc0, hm0, hel⟩ := hqs; obtain ⟨L, hEl, fv, iv, ov, vv, rfl, hf, hi, ho, hwi, hwo⟩ := hel k q hk; have hkl : k < qs.length := (List.getElem?_eq_some_iff.1 hk).1; have HEL := zH hEl; have HF := zH hf; have HI := zH hi; have HO := zH ho; have HWI := zH hwi; have HWO := zH hwo; have HIV := zH eiv; have hbx := HT.o.box; unfold uz at hbx; have e0 : World.cell? ((w.alloc (.cells #[.slice none 0 0, .slice none 0 0, .slice none 0 0] 105)).alloc (.cells #[.slice none 0 0, .slice none 0 0, .slice none 0 0] 105)) ⟨H.N, 0, none⟩ = some H.ev := (by simp only [World.cell?, hbx]; rfl); have e1 : World.cell? ((w.alloc (.cells #[.slice none 0 0, .slice none 0 0, .slice none 0 0] 105)).alloc (.cells #[.slice none 0 0, .slice none 0 0, .slice none 0 0] 105)) ⟨H.N, 1, none⟩ = some H.nv := (by simp only [World.cell?, hbx]; rfl); obtain ⟨c3, c4, c5, c6, f6⟩ := (h.under hal hB).cellsAt; clear h hB hS hb hwB hnode hal hal2 hel hEl hf hi ho hwi hwo hn hbx; go_enter func139, ntmps139
 go_wp2_with (first
  | (go_at_call 169; (with_reducible refine HND.o.mono ?_); rintro e w5 ⟨rfl, hb5⟩; obtain ⟨V5, rfl⟩ := zW w5; have HB5 := zH hb5; have BR5 := zH ((hb5.block _ (ab BR.o)).trans BR.o); have ht5 := HT.o.under hb5 HB2.o; have hbx5 := ht5.box; unfold uz at hbx5; rw [HIV.o] at hbx5; have e2 : V5.cell? ⟨H.N, 2, none⟩ = some (.slice A0 qs.length c0) := (by simp only [World.cell?, hbx5]; rfl); have hbw5 := HBW.o.trans (hb5.mono HBW.o.size); obtain ⟨a0, ea, ha, haa, d0, d1, d2, d3⟩ := Ea (HEL.o.under hbw5); subst ea; have hal5 := zA V5 (.map #[] 0); have hsz5 := Nat.le_trans HB2.o hb5.size; have hmm := @run_makeMap prog; have hm1 : H.mv ≠ V5.heap.size := λ e => by have := ht5.vars.lt; omega
     have hm2 : H.mf ≠ V5.heap.size := λ e => by
      obtain ⟨Lf, hf1, _⟩ := ht5.funs; have := hf1.lt; omega
     have HCI := zH (xf (F := V5.heap.size) (w := V5.alloc (.map #[] 0)) (q := q) (ht5.under hal5 hsz5) (Nat.le_trans hsz5 hal5.size) hsz5 hm1 hm2 (hbw5.trans (hal5.mono hbw5.size)) HF.o HI.o HO.o HWI.o HWO.o HFW.o (aU.made V5) (by have h1 := HSM.o; have h2 := HN.o; show t.ks.n + _ < _; omega) HWB.o); have HE5 := zH ((HE.o.trans (au.of_below hb5 HB2.o)).trans (au.of_below hal5 hsz5)); have BR6 := zH ((hal5.block _ (ab BR5.o)).trans BR5.o); have HF5 := zH (show w.heap.size <= V5.heap.size by have := hb5.size; simp at this; omega); have HS5 := zH (show w.heap.size < (V5.alloc (.map #[] 0)).heap.size by have := HF5.o; simp; omega); obtain ⟨A8, c8, efv, _⟩ := HF.o; obtain ⟨A9, c9, eiv9, _⟩ := HI.o.shape; obtain ⟨A7, c7, eov, _⟩ := HO.o.shape; subst efv eiv9 eov; clear hb5 ht5 hbx5 hbw5 hal5 hsz5 hm1 hm2)
  | (go_at_call 170; (with_reducible refine HCI.o.mono ?_); rintro e w6 ⟨v6, rfl, ⟨fv6, a6, b6, rfl, s6, x6, y6⟩, ⟨kv6, ht6⟩, hk6⟩; obtain ⟨V6, rfl⟩ := zW w6; have HS6 := zH s6; have HX6 := zH x6; have HY6 := zH y6; have HT6 := zH ht6; have HK6 := zH ((HE5.o.but V5.heap.size).trans hk6); have BR7 := zH (hk6.cells _ _ _ zD zD zD BR6.o); obtain ⟨A5, n5, c5, rfl, rfl⟩ := s6.shape; obtain ⟨A3, n3, c3, rfl, rfl⟩ := x6.shape; obtain ⟨A4, n4, c4, rfl, rfl⟩ := y6.shape; obtain ⟨b0, b1, b2⟩ := bo BR7.o; have f0 := bc BR7.o 0; have s1 := heap_setCell_same V6 w.heap.size 0 _ _ (.slice A5 (t.inst q).2.1.length c5) BR7.o; have s2 := heap_setCell_same _ w.heap.size 1 _ _ (.slice A3 (t.inst q).2.2.ins.length c3) s1; have HXX := zH (heap_setCell_same _ w.heap.size 2 _ _ (.slice A4 (t.inst q).2.2.outs.length c4) s2); obtain ⟨_, d1, _⟩ := bo s1; have f1 := bc s1 1; obtain ⟨_, _, d2⟩ := bo s2; have f2 := bc s2 2; have HKX := zH ((((ba.refl (· = w.heap.size) V6).set (a := ⟨w.heap.size, 0, none⟩) (.inl rfl) (.slice A5 (t.inst q).2.1.length c5)).set (a := ⟨w.heap.size, 1, none⟩) (.inl rfl) (.slice A3 (t.inst q).2.2.ins.length c3)).set (a := ⟨w.heap.size, 2, none⟩) (.inl rfl) (.slice A4 (t.inst q).2.2.outs.length c4)); have HKB := zH ((((Below.refl w.heap.size V6).setCell (p := ⟨w.heap.size, 0, none⟩) (by simp) (.slice A5 (t.inst q).2.1.length c5)).setCell (p := ⟨w.heap.size, 1, none⟩) (by simp) (.slice A3 (t.inst q).2.2.ins.length c3)).setCell (p := ⟨w.heap.size, 2, none⟩) (by simp) (.slice A4 (t.inst q).2.2.outs.length c4)); clear s1 s2 s6 x6 y6 ht6 hk6))
 refine bodyPost_ret (oz rfl HXX.o) rfl ⟨_, rfl, ⟨_, _, _, rfl, ?_, ?_, ?_⟩, ⟨kv6, ?_⟩, (HK6.o.after HKB.o HB.o).all HF5.o⟩
 . rw [HQ.o]; exact aS.low (HS6.o.butR BR7.o HKX.o HS5.o) (by have := HS5.o; omega)
 . rw [HQ.o]; exact HX6.o.butR BR7.o HKX.o
 . rw [HQ.o]; exact HY6.o.butR BR7.o HKX.o
 . rw [HQ.o]; exact HT6.o.butR BR7.o HKX.o
theorem rP {cx : TCx} {w0 : World} {D : Nat} (h : aJ B w H kv t) (hB : B <= w.heap.size) (hS : lZ H cx.sig D w0) (hb : Below w0.heap.size w0 w) (hwB : w0.heap.size <= B) {nm : Tx} (ho : nM t.funs cx.sig nm) (hl : nm.length <= maxLen) (hn : t.ks.n + D < 4194303) :
  Calls prog 139 #[.pointer (some ⟨H.N, 0, none⟩), .string (str nm)] w (uo B H (t.den cx nm) w) := by
 cases hg : bl t.funs nm with
 | some s => exact uF h hB hg
 | none =>
   rcases ho with ho | ho
   . exact absurd hg ho
   . cases hs : cx.sig nm with
     | none => exact absurd hs ho
     | some q => exact xi h hB hS hb hwB hg hs hl hn
end
end Go.Proofs.YtiholfmmphcbeaaGreatDoor
