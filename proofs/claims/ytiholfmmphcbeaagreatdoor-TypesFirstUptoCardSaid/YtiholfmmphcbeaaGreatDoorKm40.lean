import Derived.Test.YtiholfmmphcbeaaGreatDoorKm19
import Derived.Test.YtiholfmmphcbeaaGreatDoorKm39
set_option maxHeartbeats 4000000
set_option maxRecDepth 100000
namespace Go.Proofs.YtiholfmmphcbeaaGreatDoor
open _root_.Go.Proofs.Tryz
open Go.RowKit
section
variable {B : Nat} {w : World} {H : TyH} {kv : Value} {t : TSt}
theorem nX (h : aJ B w H kv t) (hB : B <= w.heap.size) {f1 f2 a1 a2 b1 b2 : Value} {r s : SgE} (h1 : bJ w a1 r.ins) (h2 : bJ w a2 r.outs) (h3 : bJ w b1 s.ins) (h4 : bJ w b2 s.outs) :
  Calls prog 140 #[.pointer (some ⟨H.N, 0, none⟩), .agg #[f1, a1, a2], .agg #[f2, b1, b2]] w (yW B H (t.agree r s) w) := by
 have HB := zH hB; have H0 := zH h; have hal := (zA w (.cells #[f1, a1, a2] 105)).alloc (by simp) (.cells #[f2, b1, b2] 105); have HE := zH (au.of_below hal hB); have HT := zH (h.under hal hB); have HBA := zH (Nat.le_trans hB hal.size); have H1 := zH (HE.o.nums h1); have H2 := zH (HE.o.nums h2); have H3 := zH (HE.o.nums h3); have H4 := zH (HE.o.nums h4); have BA := zH (az (o := .cells #[f2, b1, b2] 105) (heap_alloc_new w (.cells #[f1, a1, a2] 105))); have BB := zH (bh (w := w.alloc (.cells #[f1, a1, a2] 105)) (o := .cells #[f2, b1, b2] 105) (n := w.heap.size + 1) (by simp)); have HC := zH (jM HT.o HBA.o H1.o H3.o); obtain ⟨A1, c1, rfl, _⟩ := h1.shape; obtain ⟨A2, c2, rfl, _⟩ := h2.shape; obtain ⟨A3, c3, rfl, _⟩ := h3.shape; obtain ⟨A4, c4, rfl, _⟩ := h4.shape; clear h hB h1 h2 h3 h4 hal; go_enter func140, ntmps140
 go_wp2_with (first
  | (go_at_call 171; (with_reducible refine HC.o.mono ?_); rintro e w8 ⟨rfl, ⟨kv8, ht8⟩, hk8⟩; obtain ⟨V8, rfl⟩ := zW w8; have HE8 := zH (HE.o.trans hk8); have HD := zH (jM ht8 (Nat.le_trans HBA.o hk8.below.size) (hk8.nums H2.o) (hk8.nums H4.o)); have BA8 := hk8.cells _ _ _ zD zD zD BA.o; have BB8 := hk8.cells _ _ _ zD zD zD BB.o; obtain ⟨_, _, p2⟩ := bo BA8; obtain ⟨_, _, q2⟩ := bo BB8; clear ht8 hk8 HC)
  | (go_at_call 171; (with_reducible refine HD.o.mono ?_); rintro e w9 ⟨rfl, ht9, hk9⟩; obtain ⟨V9, rfl⟩ := zW w9; have HT9 := zH ht9; have HE9 := zH (HE8.o.trans hk9); clear ht9 hk9))
 exact bodyPost_ret (results_none rfl _ _ _) rfl ⟨rfl, HT9.o, HE9.o⟩
end
def jo (u : TSt × List (Int × Int) × List Int) (m : Int) : TSt × List (Int × Int) × List Int :=
 match u.2.1.lookup m with
 | some a => (u.1, u.2.1, u.2.2 ++ [a])
 | none => (u.1.standIn m, u.2.1 ++ [(m, (u.1.ks.n : Int))], u.2.2 ++ [(u.1.ks.n : Int)])
theorem yD (m : Int) (l : List Int) : ∀ (t : TSt) (fr : List (Int × Int)), t.elems fr (l ++ [m]) = jo (t.elems fr l) m := by
 induction l with
 | nil =>
   intro t fr; rw [List.nil_append, TSt.elems]; unfold jo; simp only [TSt.elems]; cases fr.lookup m <;> rfl
 | cons x r ih =>
   intro t fr; rw [List.cons_append, TSt.elems, TSt.elems]; cases fr.lookup x with
   | some a =>
     simp only; rw [ih]; unfold jo; simp only; cases (t.elems fr r).2.1.lookup m <;> rfl
   | none =>
     simp only; rw [ih]; unfold jo; simp only; cases ((t.standIn x).elems (fr ++ [(x, (t.ks.n : Int))]) r).2.1.lookup m <;> rfl
theorem pg (S : KS) (a m : Int) : (gy S a m).n = S.n := by unfold gy; split <;> rfl
theorem th (S : KS) (a b : Int) : (lJ S a b).n = S.n := by unfold lJ; split <;> rfl
theorem mi (t : TSt) (m : Int) : (t.standIn m).vars = t.vars /\ (t.standIn m).funs = t.funs /\ (t.standIn m).ks.n = t.ks.n + 1 := by
 unfold TSt.standIn; split
 . exact ⟨rfl, rfl, rfl⟩
 . exact ⟨rfl, rfl, pg _ _ _⟩
theorem ic (l : List Int) : ∀ (t : TSt) (fr : List (Int × Int)), (t.elems fr l).1.vars = t.vars /\ (t.elems fr l).1.funs = t.funs /\ (t.elems fr l).1.ks.n <= t.ks.n + l.length /\ (t.elems fr l).2.2.length = l.length := by
 induction l with
 | nil => intro t fr; exact ⟨rfl, rfl, Nat.le_refl _, rfl⟩
 | cons x r ih =>
   intro t fr; rw [TSt.elems]; cases fr.lookup x with
   | some a =>
     obtain ⟨h1, h2, h3, h4⟩ := ih t fr; exact ⟨h1, h2, by simp only [List.length_cons]; omega, by simp [h4]⟩
   | none =>
     obtain ⟨h1, h2, h3, h4⟩ := ih (t.standIn x) (fr ++ [(x, (t.ks.n : Int))]); obtain ⟨s1, s2, s3⟩ := mi t x; exact ⟨h1.trans s1, h2.trans s2, by simp only [List.length_cons]; omega, by simp [h4]⟩
def cD (fr : List (Int × Int)) : List (Int × Value) := fr.map λ p => (p.1, .int .i64 p.2)
theorem vY (fr : List (Int × Int)) : (cD fr).map Prod.fst = fr.map Prod.fst := by simp [cD]
theorem mI {fr : List (Int × Int)} {m a : Int} (h : fr.lookup m = some a) : (m, Value.int .i64 a) ∈ cD fr := by
 induction fr with
 | nil => simp at h
 | cons p r ih =>
   obtain ⟨x, y⟩ := p; rw [List.lookup_cons] at h; unfold cD; by_cases e : m = x
   . subst e; simp at h; subst h; simp
   . rw [show (m == x) = false by simpa using e] at h; exact List.mem_cons_of_mem _ (ih h)
theorem mH {fr : List (Int × Int)} {m : Int} (h : fr.lookup m = none) : m ∉ (cD fr).map Prod.fst := by
 rw [vY]; induction fr with
 | nil => simp
 | cons p r ih =>
   obtain ⟨x, y⟩ := p; rw [List.lookup_cons] at h; by_cases e : m = x
   . subst e; simp at h
   . rw [show (m == x) = false by simpa using e] at h; simp [e]; simpa using ih h
structure aE (F B : Nat) (w w' : World) : Prop where
 below : Below B w w'
 cells : ∀ (g : Nat) cs T0, T0 ≠ 146 -> T0 ≠ 150 -> T0 ≠ 94 -> w.heap[g]? = some (.cells cs T0 (0, 0)) -> w'.heap[g]? = some (.cells cs T0 (0, 0))
 maps : ∀ (g : Nat) es c, g ≠ F -> w.heap[g]? = some (.map es c) -> w'.heap[g]? = some (.map es c)
theorem au.but {B : Nat} {w w' : World} (h : au B w w') (F : Nat) : aE F B w w' := ⟨h.below, h.cells, λ g es c _ hg => h.maps g es c hg⟩
theorem aE.trans {F B : Nat} {a b c : World} (h : aE F B a b) (g : aE F B b c) : aE F B a c :=
 ⟨h.below.trans g.below, λ k cs T0 h1 h2 h3 h4 => g.cells k cs T0 h1 h2 h3 (h.cells k cs T0 h1 h2 h3 h4), λ k es c h0 h1 => g.maps k es c h0 (h.maps k es c h0 h1)⟩
theorem aE.all {F B : Nat} {w w' : World} (h : aE F B w w') (hF : w.heap.size <= F) : au B w w' := ⟨h.below, h.cells, λ g es c hg => h.maps g es c (λ e => by have := ab hg; omega) hg⟩
theorem aE.own {F B C : Nat} {w w' : World} (h : aE F B w w') {v : Value} {l : List Int} (hO : cy C w v l) : cy C w' v l := jQ hO λ g o hg ho => by
 obtain ⟨_, _, cur, hc⟩ := et hO hg
 rw [hc] at ho
 cases ho
 exact h.cells g cur 3 zD zD zD hc
theorem aE.sg {F B : Nat} {w w' : World} (h : aE F B w w') {v : Value} {s : SgE} (hS : uj B w v s) : uj B w' v s := by
 obtain ⟨a, b, rfl, h1, h2⟩ := hS; exact ⟨a, b, rfl, h.own h1, h.own h2⟩
theorem aE.map {F B : Nat} {w w' : World} (h : aE F B w w') {m : Nat} (hne : m ≠ F) {l : List (Tx × Value)} (hM : ax w m l) : ax w' m l := by
 obtain ⟨es, c, hb, hr⟩ := hM; exact ⟨es, c, h.maps m es c hne hb, hr⟩
theorem aE.funsAt {F B : Nat} {w w' : World} (h : aE F B w w') {m : Nat} (hne : m ≠ F) {l : List (Tx × SgE)} (hF : iw B w m l) : iw B w' m l := by
 obtain ⟨L, h1, h2, h3⟩ := hF; exact ⟨L, h.map hne h1, h2, λ i p q hp hq => h.sg (h3 i p q hp hq)⟩
section
variable {B F : Nat} {w : World} {H : TyH} {kv : Value} {t : TSt}
theorem aJ.put {w' : World} {l : List (Int × Value)} (h : aJ B w H kv t) (hM : aU w F l) (h1 : H.mv ≠ F) (h2 : H.mf ≠ F) (hB : B <= F) (hg : w.grownBy w' (some F)) : aJ B w' H kv t /\ aE F B w w' := by
 obtain ⟨es, c, hb, _⟩ := hM; have hk : aE F B w w' := by
  refine ⟨⟨hg.os, hg.tape, hg.output, hg.size, λ k hk => ?_⟩, λ g cs T0 _ _ _ h4 => ?_, λ g es' c' hne h4 => ?_⟩
  . by_cases hkw : k < w.heap.size
    . exact hg.block k hkw (λ e => by injection e; omega)
    . have := ab hb; omega
  . exact (hg.block g (ab h4) (λ e => by injection e with e; subst e; rw [hb] at h4; cases h4)).trans h4
  . exact (hg.block g (ab h4) (λ e => by injection e with e; exact hne e)).trans h4
 refine ⟨⟨(hg.block _ (ab h.box) (λ e => by injection e with e; have := h.box; rw [e, hb] at this; cases this)).trans h.box, ?_, h.low, hk.map h1 h.vars, hk.funsAt h2 h.funs⟩, hk⟩; refine h.knot.kept (M := λ b => some F = some b) (ba.of_grown hg λ k e => e) λ b hf e => ?_; injection e with e; subst e; obtain ⟨cs, h3 | h3⟩ := h.knot.foot hf <;> (rw [hb] at h3; cases h3)
theorem aJ.growF {W w' : World} {kv0 v : Value} {t0 : TSt} {l : List Int} (h0 : aJ B w H kv0 t0) (h : aJ B W H kv t) (hf : t.funs = t0.funs) (h2 : H.mf ≠ F) (hk : aE F B w W) (hO : cy w.heap.size W v l) (hg : W.grownBy w' v.ownBlock) : aJ B w' H kv t /\ aE F B w w' /\ ∀ L, aU W F L -> aU w' F L := by
 have hlow : ∀ g, v.ownBlock = some g -> w.heap.size <= g /\ ∃ cur, W.heap[g]? = some (.cells cur 3 (0, 0)) := λ g hg => by
  obtain ⟨h1, _, h2⟩ := et hO hg; exact ⟨h1, h2⟩
 have hkept : aE F B w w' := by
  refine ⟨hk.below.trans ((Below.refl w.heap.size W).grown hg hk.below.size (λ g hg => (hlow g hg).1) |>.mono ?_), λ g cs T0 n1 n2 n3 h4 => ?_, λ g es c h3 h4 => ?_⟩
  . have := h0.low; have := ab h0.box; omega
  . exact (hg.block g (ab (hk.cells g cs T0 n1 n2 n3 h4)) (λ e => by have := (hlow g e.symm).1; have := ab h4; omega)).trans (hk.cells g cs T0 n1 n2 n3 h4)
  . exact (hg.block g (ab (hk.maps g es c h3 h4)) (λ e => by have := (hlow g e.symm).1; have := ab h4; omega)).trans (hk.maps g es c h3 h4)
 refine ⟨⟨?_, ?_, h.low, ?_, ?_⟩, hkept, λ L hL => ?_⟩
 . refine (hg.block _ (ab h.box) λ e => ?_).trans h.box; obtain ⟨_, cur, h1⟩ := hlow _ e.symm; rw [h.box] at h1; injection h1 with h1; injection h1 with _ h1 _; exact absurd h1 zD
 . refine h.knot.kept (M := λ b => v.ownBlock = some b) (ba.of_grown hg λ k e => e) λ b hb e => ?_; obtain ⟨_, cur, h1⟩ := hlow _ e; obtain ⟨cs, h2 | h2⟩ := h.knot.foot hb
   . rw [h2] at h1; injection h1 with h1; injection h1 with _ h1 _; exact absurd h1 zD
   . rw [h2] at h1; injection h1 with h1; injection h1 with _ h1 _; exact absurd h1 zD
 . obtain ⟨es, c, hb, hr⟩ := h.vars; refine ⟨es, c, (hg.block _ (ab hb) λ e => ?_).trans hb, hr⟩; obtain ⟨_, cur, h1⟩ := hlow _ e.symm; rw [hb] at h1; cases h1
 . rw [hf]; exact hkept.funsAt h2 h0.funs
 . obtain ⟨es, c, hb, hr⟩ := hL; refine ⟨es, c, (hg.block _ (ab hb) λ e => ?_).trans hb, hr⟩; obtain ⟨_, cur, h1⟩ := hlow _ e.symm; rw [hb] at h1; cases h1
def dH (w : World) (v : Value) (l : List Int) : Prop :=
 ∃ A c, v = .slice A l.length c /\ l.length <= c /\ c <= maxLen /\ (l ≠ [] -> ∃ g o cs, A = some ⟨g, o, none⟩ /\ w.heap[g]? = some (.cells cs 47 (0, 0)) /\ ∀ (j : Nat) x, l[j]? = some x -> cs[o + j]? = some (.int .i64 x))
theorem aE.typs {w' : World} (h : aE F B w w') {v : Value} {l : List Int} (hN : dH w v l) : dH w' v l := by
 obtain ⟨A, c, rfl, h1, h2, h3⟩ := hN; refine ⟨A, c, rfl, h1, h2, λ hl => ?_⟩; obtain ⟨g, o, cs, rfl, h4, h5⟩ := h3 hl; exact ⟨g, o, cs, rfl, h.cells g cs 47 zD zD zD h4, h5⟩
theorem dH.shape {v : Value} {l : List Int} (h : dH w v l) : ∃ A c, v = .slice A l.length c /\ l.length <= 9223372036854775807 := by
 obtain ⟨A, c, rfl, h1, h2, _⟩ := h; exact ⟨A, c, rfl, by unfold maxLen at h2; omega⟩
theorem dH.get {A : Option Addr} {n c : Nat} {l : List Int} (h : dH w (.slice A n c) l) {j : Nat} {x : Int} (hx : l[j]? = some x) : ∃ g o, A = some ⟨g, o, none⟩ /\ w.cell? ⟨g, o + j, none⟩ = some (.int .i64 x) := by
 obtain ⟨A', c', e, _, _, h3⟩ := h; injection e with e1 _ _; obtain ⟨g', o', cs, e2, h4, h5⟩ := h3 (λ e => by rw [e] at hx; cases hx); exact ⟨g', o', e1.trans e2, by rw [Joins.cell_of_block h4]; exact h5 j x hx⟩
theorem Cm (w : World) : (zeroValue 3).run prog w = .ok (.int .i64 0) w := by kernel_rfl
theorem au.imap {w' : World} (h : au B w w') {m : Nat} {l : List (Int × Value)} (hM : aU w m l) : aU w' m l := by
 obtain ⟨es, c, hb, hr⟩ := hM; exact ⟨es, c, h.maps m es c hb, hr⟩
theorem ot (fr : List (Int × Int)) (m a : Int) : cD (fr ++ [(m, a)]) = cD fr ++ [(m, .int .i64 a)] := by simp [cD]
def GG (B F : Nat) (H : TyH) (u : TSt × List (Int × Int) × List Int) (W : World) (e : Ending) (w' : World) : Prop :=
 ∃ v, e = .returned v /\ cy B w' v u.2.2 /\ aU w' F (cD u.2.1) /\ (∃ kv', aJ B w' H kv' u.1) /\ aE F B W w'
theorem ix (h : aJ B w H kv t) (hB : B <= w.heap.size) (hBF : B <= F) (h1 : H.mv ≠ F) (h2 : H.mf ≠ F) {v : Value} {l : List Int} {fr : List (Int × Int)} (hl : dH w v l) (hw : ∀ m ∈ l, (Lit.int .i64 m).wf = true) (hM : aU w F (cD fr)) (hn : t.ks.n + l.length < 4194303) :
  Calls prog 190 #[.pointer (some ⟨H.N, 0, none⟩), v, .map (some F)] w (GG B F H (t.elems fr l) w) := by
 have HB := zH hB; have H0 := zH h; have HM := zH hM; have HL := zH hl; have HW := zH hw; have HN := zH hn; obtain ⟨A1, c1, rfl, hl1⟩ := hl.shape; clear h hB hM hl hw hn; go_enter func190, ntmps190
 go_wp2_with fail
 go_loopg [7, 14] l.length (λ g ov v wr => ∃ k : Nat, k + g = l.length /\ v = .int .i64 k /\ cy w.heap.size wr ov (t.elems fr (l.take k)).2.2 /\ aU wr F (cD (t.elems fr (l.take k)).2.1) /\ (∃ kv', aJ B wr H kv' (t.elems fr (l.take k)).1) /\ aE F B w wr)
 case atStart => exact ⟨0, by omega, rfl, cy.nil _ _, HM.o, ⟨kv, H0.o⟩, (au.refl B w).but F⟩
 case round =>
  obtain ⟨k, hkg, rfl, hown, hmp, ⟨kv1, hty⟩, hke⟩ := hrel; obtain ⟨wz, rfl⟩ := zW wr; have HK := zH hkg; have HT := zH hty; have HE := zH hke; have HO := zH hown; have HMP := zH hmp; have HBZ := zH (Nat.le_trans HB.o hke.below.size); have hkl : k <= l.length := zO; have HLZ := zH (hke.typs HL.o); have HSM := zH (ic (l.take k) t fr); obtain ⟨A5, n5, c5, rfl, hn5⟩ := hown.shape; rw [HSM.o.2.2.2, List.length_take, Nat.min_eq_left hkl] at hn5; subst hn5; clear hkg hty hke hown hmp; by_cases hlt : n5 < l.length
  . obtain ⟨m, hm⟩ := zG hlt; obtain ⟨g1, o1, e1, r0⟩ := HLZ.o.get hm; subst e1
    have HST := zH (show t.elems fr (l.take (n5 + 1)) = jo (t.elems fr (l.take n5)) m by
     obtain ⟨_, rfl⟩ := List.getElem?_eq_some_iff.1 hm; rw [List.take_succ_eq_append_getElem hlt, yD])
    have HWF := zH (HW.o m (List.mem_of_getElem? hm)); clear hm; cases hlk : (t.elems fr (l.take n5)).2.1.lookup m with
    | some a =>
      have hrun := HMP.o.look_yes underlying47 underlying248 (mI hlk); have hrun1 := HMP.o.look_one underlying47 underlying248 (mI hlk); have HS2 := zH (show jo (t.elems fr (l.take n5)) m = ((t.elems fr (l.take n5)).1, (t.elems fr (l.take n5)).2.1, (t.elems fr (l.take n5)).2.2 ++ [a]) by unfold jo; rw [hlk]); have hal := zA wz (.cells #[.int .i64 a] 3); have HT8 := zH (HT.o.under hal HBZ.o); have HE8 := zH (HE.o.trans ((au.of_below hal HBZ.o).but F)); have HO8 := zH (HO.o.under hal); have HP8 := zH (HMP.o.under hal); have HF8 := zH HSM.o.2.1; have HFL := zH (show (t.elems fr (l.take n5)).2.2.length <= 4194304 by have h1 := HSM.o.2.2.2; have h2 := HN.o; rw [List.length_take] at h1; omega); clear hlk hal
      go_wp2_with (first
       | (at_builtin
          refine nh 103 underlying103 rfl _ _ rfl rfl rfl (heap_alloc_new _ _) HO8.o HFL.o ?_ ?_
          . exact HE8.o.below.size
          intro v5 w5 h5; obtain ⟨V5, rfl⟩ := zW w5; have HN5 := zH h5.own; have HG5 := zH (H0.o.growF HT8.o HF8.o h2 HE8.o HO8.o h5.grown); obtain ⟨B6, m6, c6, rfl, hm6⟩ := h5.own.shape; clear h5 hm6))
      go_roundg (l.length - (n5 + 1))
      case measure => have := HK.o; omega
      case rel => exact ⟨n5 + 1, by omega, by go_num, by rw [HST.o, HS2.o]; exact HN5.o, by rw [HST.o, HS2.o]; exact HG5.o.2.2 _ HP8.o, ⟨kv1, by rw [HST.o, HS2.o]; exact HG5.o.1⟩, HG5.o.2.1⟩
    | none =>
      have hrun := HMP.o.look_no underlying47 underlying248 (Cm wz) HWF.o (mH hlk); have HS2 := zH (show jo (t.elems fr (l.take n5)) m = ((t.elems fr (l.take n5)).1.standIn m, (t.elems fr (l.take n5)).2.1 ++ [(m, ((t.elems fr (l.take n5)).1.ks.n : Int))], (t.elems fr (l.take n5)).2.2 ++ [((t.elems fr (l.take n5)).1.ks.n : Int)]) by unfold jo; rw [hlk]); have HOUT := zH (mH hlk); have hmb : m < 9223372036854775808 := (by have := bounds_i64 HWF.o; omega); have hnb : (t.elems fr (l.take n5)).1.ks.n < 4194303 := (by have h1 := HSM.o.2.2.1; have h2 := HN.o; rw [List.length_take] at h1; omega); have HSI := zH (uy HT.o HBZ.o hnb m hmb); have HFL := zH (show (t.elems fr (l.take n5)).2.2.length <= 4194304 by have h1 := HSM.o.2.2.2; have h2 := HN.o; rw [List.length_take] at h1; omega); have HF8 := zH (show ((t.elems fr (l.take n5)).1.standIn m).funs = t.funs from (mi _ m).2.1.trans HSM.o.2.1); clear hlk hmb hnb
      go_wp2_with (first
       | (go_at_call 202; (with_reducible refine HSI.o.mono ?_); rintro e w7 ⟨rfl, ⟨kv7, ht7⟩, hk7⟩; obtain ⟨V7, rfl⟩ := zW w7; have HT7 := zH ht7; have HK7 := zH hk7; have HP7 := zH (hk7.imap HMP.o); clear ht7 hk7)
       | (at_mapUpdate
          refine nW underlying47 _ rfl _ _ _ 248 rfl underlying248 rfl rfl (v := .int .i64 ((t.elems fr (l.take n5)).1.ks.n : Int)) rfl HP7.o HWF.o HOUT.o ?_; intro w9 hm9 hg9; obtain ⟨V9, rfl⟩ := zW w9; have HQ9 := zH (HT7.o.put HP7.o h1 h2 hBF hg9); have hrun1 := hm9.look_one underlying47 underlying248 (s := m) (v := .int .i64 ((t.elems fr (l.take n5)).1.ks.n : Int)) (by simp); have HE9 := zH ((HE.o.trans (HK7.o.but F)).trans HQ9.o.2); have hal := zA V9 (.cells #[.int .i64 ((t.elems fr (l.take n5)).1.ks.n : Int)] 3); have HBB := zH (Nat.le_trans HB.o HE9.o.below.size); have HT8 := zH (HQ9.o.1.under hal HBB.o); have HE8 := zH (HE9.o.trans ((au.of_below hal HBB.o).but F)); have HO8 := zH ((HQ9.o.2.own (HK7.o.own HO.o)).under hal); have HP8 := zH (hm9.under hal); clear hm9 hg9 hal)
       | (at_builtin
          refine nh 103 underlying103 rfl _ _ rfl rfl rfl (heap_alloc_new _ _) HO8.o HFL.o ?_ ?_
          . exact HE8.o.below.size
          intro v5 w5 h5; obtain ⟨V5, rfl⟩ := zW w5; have HN5 := zH h5.own; have HG5 := zH (H0.o.growF HT8.o HF8.o h2 HE8.o HO8.o h5.grown); obtain ⟨B6, m6, c6, rfl, hm6⟩ := h5.own.shape; clear h5 hm6))
      go_roundg (l.length - (n5 + 1))
      case measure => have := HK.o; omega
      case rel => exact ⟨n5 + 1, by omega, by go_num, by rw [HST.o, HS2.o]; exact HN5.o, by rw [HST.o, HS2.o, ot]; exact HG5.o.2.2 _ HP8.o, ⟨kv7, by rw [HST.o, HS2.o]; exact HG5.o.1⟩, HG5.o.2.1⟩
  . have hke : n5 = l.length := by omega
    subst hke; rw [List.take_length] at HO HMP HT; go_wp2_with fail
    go_ret; exact ⟨_, rfl, HO.o.mono HB.o, HMP.o, ⟨kv1, HT.o⟩, HE.o⟩
end
theorem Hd (a : Int) (l : List Int) : ∀ t : TSt, (t.ties a l).ks.n = t.ks.n := by
 induction l with
 | nil => intro t; rfl
 | cons b r ih => intro t; exact (ih _).trans (th _ _ _)
theorem FP (m : Int) (l : List Int) : ∀ t : TSt, (t.isAll m l).ks.n = t.ks.n := by
 induction l with
 | nil => intro t; rfl
 | cons b r ih => intro t; exact (ih _).trans (pg _ _ _)
theorem ti (l : Tx) (n : Nat) : (eR l n).1 < 3 /\ (eR l n).2 < 3 := by
 unfold eR; repeat' split
 all_goals simp
def iI (nm : Tx) (n : Nat) : Prop := ∀ W, Calls prog 173 #[.string (str nm), .int .i64 (n : Int)] W (λ e w' => ∃ b, e = .returned (.tuple #[.int .i64 (eR nm n).1, .int .i64 (eR nm n).2, .bool b]) /\ W = w')
section
variable {B : Nat} {w : World} {H : TyH} {kv : Value} {t : TSt}
theorem xd (h : aJ B w H kv t) (hB : B <= w.heap.size) (hn : t.ks.n < 4194303) {v : Value} {l : List Int} (hl : bJ w v l) (h0 : l ≠ []) {nm : Tx} (hT : iI nm l.length) :
  Calls prog 144 #[.pointer (some ⟨H.N, 0, none⟩), .string (str nm), v] w (iu B H (t.oper nm l).1 (t.oper nm l).2 w) := by
 have HT := zH hT; have HL := zH hl; have HB := zH hB; have H0 := zH h; have HN := zH hn; obtain ⟨A1, c1, rfl, hl1⟩ := hl.shape; obtain ⟨k1, k2⟩ := ti nm l.length; obtain ⟨r, hr⟩ : ∃ r, eR nm l.length = r := ⟨_, rfl⟩; rw [hr] at k1 k2; obtain ⟨r1, r2⟩ := r; have HR := zH hr; have HT2 := zH (show ∀ W, Calls prog 173 #[.string (str nm), .int .i64 (l.length : Int)] W (λ e w' => ∃ b, e = .returned (.tuple #[.int .i64 r1, .int .i64 r2, .bool b]) /\ W = w') from by have := HT.o; unfold iI at this; rw [hr] at this; exact this); simp only at k1 k2; have hm2 : r2 < 9223372036854775808 := zO; clear h hB hl hT hn hr HT k2; by_cases hz : r1 = 0
 . subst hz; obtain ⟨a, rest, hlr⟩ : ∃ a r, l = a :: r := by cases l with | nil => exact absurd rfl h0 | cons a r => exact ⟨a, r, rfl⟩
   have HQ := zH (show t.oper nm l = ((t.ties a rest).known r2, ((t.ties a rest).ks.n : Int)) by unfold TSt.oper; rw [HR.o, hlr]; rfl); have HS := zH (fJ H0.o HB.o (v := .slice A1 l.length c1) (a := a) (r := rest) (by rw [<- hlr]; exact HL.o)); clear h0 k1 hlr; go_enter func144, ntmps144
   go_wp2_with (first
    | (go_at_call 173; (with_reducible refine (HT2.o _).mono ?_); rintro e w1 ⟨b, rfl, rfl⟩)
    | (go_at_call 61; (with_reducible refine HS.o.mono ?_); rintro e w2 ⟨rfl, ⟨kv2, ht2⟩, hk2⟩; obtain ⟨V2, rfl⟩ := zW w2; have HK2 := zH hk2; have HKN := zH (fe ht2 (Nat.le_trans HB.o hk2.below.size) (by rw [Hd]; exact HN.o) r2 hm2); clear ht2 hk2)
    | (go_at_call 142; (with_reducible refine HKN.o.mono ?_); rintro e w3 ⟨rfl, ht3, hk3⟩; obtain ⟨V3, rfl⟩ := zW w3; have HT3 := zH ht3; have HK3 := zH (HK2.o.trans hk3); clear ht3 hk3))
   go_ret; exact ⟨by rw [HQ.o]; rfl, by rw [HQ.o]; exact HT3.o, HK3.o⟩
 . have HQ := zH (show t.oper nm l = ((t.isAll r1 l).known r2, ((t.isAll r1 l).ks.n : Int)) by unfold TSt.oper; rw [HR.o]; simp only [if_neg hz]); have hm1 : r1 < 9223372036854775808 := zO; have hzb : (r1 == 0) = false := (by simpa using hz); clear k1; go_enter func144, ntmps144
   go_wp2_with (go_at_call 173
                (with_reducible refine (HT2.o _).mono ?_); rintro e w1 ⟨b, rfl, rfl⟩)
   go_loopg [30] l.length (λ g v wr => ∃ k : Nat, k + g = l.length /\ v = .int .i64 k /\ (∃ kv', aJ B wr H kv' (t.isAll r1 (l.take k))) /\ au B w wr)
   case atStart => exact ⟨0, by omega, rfl, ⟨kv, H0.o⟩, au.refl _ _⟩
   case round =>
    obtain ⟨k, hkg, rfl, ⟨kv1, hty⟩, hke⟩ := hrel; obtain ⟨wz, rfl⟩ := zW wr; have HK := zH hkg; have HT := zH hty; have HE := zH hke; have HBZ := zH (Nat.le_trans HB.o hke.below.size); have hkl : k <= l.length := zO; have HLZ := zH (hke.nums HL.o); clear hkg hty hke; by_cases hlt : k < l.length
    . obtain ⟨x, hx⟩ := zG hlt; obtain ⟨g1, o1, e1⟩ := HLZ.o.some h0; subst e1; have hfx := HLZ.o.get hx
      have HTS := zH (show t.isAll r1 (l.take (k + 1)) = (t.isAll r1 (l.take k)).is x r1 by
       obtain ⟨_, rfl⟩ := List.getElem?_eq_some_iff.1 hx; rw [List.take_succ_eq_append_getElem hlt, TSt.isAll_app]; rfl)
      have HI := zH (jL HT.o HBZ.o x r1 hm1); clear hx
      go_wp2_with (go_at_call 102
                   (with_reducible refine HI.o.mono ?_); rintro e w8 ⟨rfl, ht8, hk8⟩; obtain ⟨V8, rfl⟩ := zW w8; have HT8 := zH ht8; have HE8 := zH (HE.o.trans hk8); clear ht8 hk8)
      go_roundg (l.length - (k + 1))
      case measure => have := HK.o; omega
      case rel => exact ⟨k + 1, by omega, by go_num, by rw [HTS.o]; exact HT8.o, HE8.o⟩
    . have hke : k = l.length := by omega
      have HTE := zH (show aJ B wz H kv1 (t.isAll r1 l) by have := HT.o; rwa [hke, List.take_length] at this); have HKN := zH (fe HTE.o HBZ.o (by rw [FP]; exact HN.o) r2 hm2); clear hke
      go_wp2_with (go_at_call 142
                   (with_reducible refine HKN.o.mono ?_); rintro e w3 ⟨rfl, ht3, hk3⟩; obtain ⟨V3, rfl⟩ := zW w3; have HT3 := zH ht3; have HK3 := zH (HE.o.trans hk3); clear ht3 hk3)
      go_ret; exact ⟨by rw [HQ.o]; rfl, by rw [HQ.o]; exact HT3.o, HK3.o⟩
end
def oL (H : TyH) (con : Tx -> Int) (w0 : World) : Prop := ∀ (nm : Tx) (W : World), Below w0.heap.size w0 W -> Calls prog 172 #[.agg #[H.ev, H.nv], .string (str nm)] W (λ e w' => ∃ (i j : Int) (b : Bool), e = .returned (.tuple #[.int .i64 i, .int .i64 j, .bool b]) /\ i < 4611686018427387904 /\ con nm = (if i < 0 then 2 else 16 + i) /\ Below W.heap.size W w')
section
variable {B : Nat} {w w0 : World} {H : TyH} {kv : Value} {t : TSt} {con : Tx -> Int}
theorem rQ (h : aJ B w H kv t) (hB : B <= w.heap.size) (hC : oL H con w0) (hb : Below w0.heap.size w0 w) (nm : Tx) :
  Calls prog 143 #[.pointer (some ⟨H.N, 0, none⟩), .string (str nm)] w (iu B H t (con nm) w) := by
 have HC := zH (hC nm w hb); have HB := zH hB; have H0 := zH h; have hbx := h.box; unfold uz at hbx; have c0 : w.cell? ⟨H.N, 0, none⟩ = some H.ev := (by simp [World.cell?, hbx]); have c1 : w.cell? ⟨H.N, 1, none⟩ = some H.nv := (by simp [World.cell?, hbx]); clear h hB hC hb hbx; go_enter func143, ntmps143
 go_wp2_with (go_at_call 172
              (with_reducible refine HC.o.mono ?_); rintro e w1 ⟨i, j, b, rfl, hi, hcn, hb1⟩; obtain ⟨V1, rfl⟩ := zW w1; have HB1 := zH hb1; have HCN := zH hcn; clear hb1 hcn)
 all_goals go_ret
 all_goals exact ⟨by rw [HCN.o]; simp_all; try omega, ⟨kv, H0.o.under HB1.o HB.o⟩, au.of_below HB1.o HB.o⟩
end
section
variable {B : Nat} {w w0 : World} {H : TyH} {kv : Value} {t : TSt} {con : Tx -> Int} {op n : Int} {nm : Tx} {cv kk v : Value} {l : List Int}
theorem ux {sig : Tx -> Option bz} (h : aJ B w H kv t) (hB : B <= w.heap.size) (hn : t.ks.n < 4194303) {cs : List Tx} (ho : op = 1 ∨ op = 2) :
  Calls prog 104 #[.pointer (some ⟨H.N, 0, none⟩), .agg #[.int .i64 op, .string (str nm), .int .i64 n, cv, kk], v] w (iu B H (t.value ⟨con, sig⟩ op nm cs l).1 (t.value ⟨con, sig⟩ op nm cs l).2 w) := by
 have hal := zA w (.cells #[.int .i64 op, .string (str nm), .int .i64 n, cv, kk] 81); have HE := zH (au.of_below hal hB); have HT := zH (h.under hal hB); have HB := zH (Nat.le_trans hB hal.size); have HN := zH hn; have BX := zH (heap_alloc_new w (.cells #[.int .i64 op, .string (str nm), .int .i64 n, cv, kk] 81)); clear h hB hn hal; rcases ho with rfl | rfl
 . have HQ := zH (show t.value ⟨con, sig⟩ 1 nm cs l = (t.known 1, (t.ks.n : Int)) from rfl); have HK := zH (fe HT.o HB.o HN.o 1 zO); go_enter func104, ntmps104
   go_wp2_with (go_at_call 142
                (with_reducible refine HK.o.mono ?_); rintro e w3 ⟨rfl, ht3, hk3⟩; obtain ⟨V3, rfl⟩ := zW w3; have HT3 := zH ht3; have HK3 := zH (HE.o.trans hk3); clear ht3 hk3)
   go_ret; exact ⟨by rw [HQ.o]; rfl, by rw [HQ.o]; exact HT3.o, HK3.o⟩
 . have HQ := zH (show t.value ⟨con, sig⟩ 2 nm cs l = (t.known 2, (t.ks.n : Int)) from rfl); have HK := zH (fe HT.o HB.o HN.o 2 zO); go_enter func104, ntmps104
   go_wp2_with (go_at_call 142
                (with_reducible refine HK.o.mono ?_); rintro e w3 ⟨rfl, ht3, hk3⟩; obtain ⟨V3, rfl⟩ := zW w3; have HT3 := zH ht3; have HK3 := zH (HE.o.trans hk3); clear ht3 hk3)
   go_ret; exact ⟨by rw [HQ.o]; rfl, by rw [HQ.o]; exact HT3.o, HK3.o⟩
theorem Au {sig : Tx -> Option bz} (h : aJ B w H kv t) (hB : B <= w.heap.size) (hn : t.ks.n < 4194303) {cs : List Tx} (hC : oL H con w0) (hb : Below w0.heap.size w0 w) (hcn : con nm < 9223372036854775808) :
  Calls prog 104 #[.pointer (some ⟨H.N, 0, none⟩), .agg #[.int .i64 3, .string (str nm), .int .i64 n, cv, kk], v] w (iu B H (t.value ⟨con, sig⟩ 3 nm cs l).1 (t.value ⟨con, sig⟩ 3 nm cs l).2 w) := by
 have hal := zA w (.cells #[.int .i64 3, .string (str nm), .int .i64 n, cv, kk] 81); have HE := zH (au.of_below hal hB); have HT := zH (h.under hal hB); have HB := zH (Nat.le_trans hB hal.size); have HN := zH hn; have HCN := zH hcn; have BX := zH (heap_alloc_new w (.cells #[.int .i64 3, .string (str nm), .int .i64 n, cv, kk] 81)); have HC := zH (rQ HT.o HB.o hC (hb.trans (hal.mono hb.size)) nm); have HQ := zH (show t.value ⟨con, sig⟩ 3 nm cs l = (t.known (con nm), (t.ks.n : Int)) from rfl); clear h hB hn hal hC hb hcn; go_enter func104, ntmps104
 go_wp2_with (first
  | (go_at_call 143; (with_reducible refine HC.o.mono ?_); rintro e w2 ⟨rfl, ⟨kv2, ht2⟩, hk2⟩; obtain ⟨V2, rfl⟩ := zW w2; have HK2 := zH (HE.o.trans hk2); have HK := zH (fe ht2 (Nat.le_trans HB.o hk2.below.size) HN.o (con nm) HCN.o); clear ht2 hk2)
  | (go_at_call 142; (with_reducible refine HK.o.mono ?_); rintro e w3 ⟨rfl, ht3, hk3⟩; obtain ⟨V3, rfl⟩ := zW w3; have HT3 := zH ht3; have HK3 := zH (HK2.o.trans hk3); clear ht3 hk3))
 go_ret; exact ⟨by rw [HQ.o]; rfl, by rw [HQ.o]; exact HT3.o, HK3.o⟩
theorem Cw {sig : Tx -> Option bz} (h : aJ B w H kv t) (hB : B <= w.heap.size) (hn : t.ks.n < 4194303) {cs : List Tx} (hl : bJ w v l) (h0 : l ≠ []) (hT : iI nm l.length) (ho : op = 5 ∨ op = 6) :
  Calls prog 104 #[.pointer (some ⟨H.N, 0, none⟩), .agg #[.int .i64 op, .string (str nm), .int .i64 n, cv, kk], v] w (iu B H (t.value ⟨con, sig⟩ op nm cs l).1 (t.value ⟨con, sig⟩ op nm cs l).2 w) := by
 have hal := zA w (.cells #[.int .i64 op, .string (str nm), .int .i64 n, cv, kk] 81); have HE := zH (au.of_below hal hB); have HT := zH (h.under hal hB); have HB := zH (Nat.le_trans hB hal.size); have HL := zH (HE.o.nums hl); have BX := zH (heap_alloc_new w (.cells #[.int .i64 op, .string (str nm), .int .i64 n, cv, kk] 81)); obtain ⟨A1, c1, rfl, hl1⟩ := hl.shape; have HO := zH (xd HT.o HB.o hn HL.o h0 hT); clear h hB hn hal hl; rcases ho with rfl | rfl
 . have HQ := zH (show t.value ⟨con, sig⟩ 5 nm cs l = t.oper nm l from rfl); go_enter func104, ntmps104
   go_wp2_with (go_at_call 144
                (with_reducible refine HO.o.mono ?_); rintro e w3 ⟨rfl, ht3, hk3⟩; obtain ⟨V3, rfl⟩ := zW w3; have HT3 := zH ht3; have HK3 := zH (HE.o.trans hk3); clear ht3 hk3)
   go_ret; exact ⟨by rw [HQ.o]; rfl, by rw [HQ.o]; exact HT3.o, HK3.o⟩
 . have HQ := zH (show t.value ⟨con, sig⟩ 6 nm cs l = t.oper nm l from rfl); go_enter func104, ntmps104
   go_wp2_with (go_at_call 144
                (with_reducible refine HO.o.mono ?_); rintro e w3 ⟨rfl, ht3, hk3⟩; obtain ⟨V3, rfl⟩ := zW w3; have HT3 := zH ht3; have HK3 := zH (HE.o.trans hk3); clear ht3 hk3)
   go_ret; exact ⟨by rw [HQ.o]; rfl, by rw [HQ.o]; exact HT3.o, HK3.o⟩
theorem xa {sig : Tx -> Option bz} (h : aJ B w H kv t) (hB : B <= w.heap.size) {cs : List Tx} (hl : bJ w v l) (h0 : l ≠ []) (ho : op ≠ 1 /\ op ≠ 2 /\ op ≠ 3 /\ op ≠ 4 /\ op ≠ 5 /\ op ≠ 6 /\ op ≠ 7 /\ op ≠ 11 /\ op ≠ 12) :
  Calls prog 104 #[.pointer (some ⟨H.N, 0, none⟩), .agg #[.int .i64 op, .string (str nm), .int .i64 n, cv, kk], v] w (iu B H (t.value ⟨con, sig⟩ op nm cs l).1 (t.value ⟨con, sig⟩ op nm cs l).2 w) := by
 have hal := zA w (.cells #[.int .i64 op, .string (str nm), .int .i64 n, cv, kk] 81); have HE := zH (au.of_below hal hB); have HT := zH (h.under hal hB); have HB := zH (Nat.le_trans hB hal.size); have HL := zH (HE.o.nums hl); have BX := zH (heap_alloc_new w (.cells #[.int .i64 op, .string (str nm), .int .i64 n, cv, kk] 81)); obtain ⟨A1, c1, rfl, hl1⟩ := hl.shape; obtain ⟨o1, o2, o3, o4, o5, o6, o7, o11, o12⟩ := ho; have HQ := zH (show t.value ⟨con, sig⟩ op nm cs l = t.same l by unfold TSt.value; rw [if_neg o1, if_neg o2, if_neg o3, if_neg o4, if_neg zO, if_neg o7, if_neg zO]); obtain ⟨a, rest, hlr⟩ : ∃ a r, l = a :: r := by cases l with | nil => exact absurd rfl h0 | cons a r => exact ⟨a, r, rfl⟩
 have HS := zH (fJ HT.o HB.o (v := .slice A1 l.length c1) (a := a) (r := rest) (by rw [<- hlr]; exact HL.o)); have HQ2 := zH (show t.same l = (t.ties a rest, a) by rw [hlr]; rfl); have q1 : (op == 1) = false := (by simpa using o1); have q2 : (op == 2) = false := (by simpa using o2); have q3 : (op == 3) = false := (by simpa using o3); have q4 : (op == 4) = false := (by simpa using o4); have q5 : (op == 5) = false := (by simpa using o5); have q6 : (op == 6) = false := (by simpa using o6); have q7 : (op == 7) = false := (by simpa using o7); have q11 : (op == 11) = false := (by simpa using o11); have q12 : (op == 12) = false := (by simpa using o12); clear h hB hal hl h0 hlr; go_enter func104, ntmps104
 go_wp2_with (go_at_call 61
              (with_reducible refine HS.o.mono ?_); rintro e w3 ⟨rfl, ht3, hk3⟩; obtain ⟨V3, rfl⟩ := zW w3; have HT3 := zH ht3; have HK3 := zH (HE.o.trans hk3); clear ht3 hk3)
 go_ret; exact ⟨by rw [HQ.o, HQ2.o]; rfl, by rw [HQ.o, HQ2.o]; exact HT3.o, HK3.o⟩
end
theorem bJ.tail {w : World} {g o c : Nat} {a : Int} {l : List Int} (h : bJ w (.slice (Option.some ⟨g, o, none⟩) (l.length + 1) c) (a :: l)) : bJ w (.slice (Option.some ⟨g, o + 1, none⟩) l.length (c - 1)) l := by
 obtain ⟨A', c', e, hc, hm, h3⟩ := h; injection e with e1 _ e3; subst e3; obtain ⟨g', o', cs, e2, h4, h5⟩ := h3 (by simp); rw [e2] at e1; injection e1 with e1; injection e1 with e1 e4 _; subst e1 e4; simp at hc; refine ⟨_, c - 1, rfl, by omega, by omega, λ _ => ⟨g, o + 1, cs, rfl, h4, λ j x hx => ?_⟩⟩; have := h5 (j + 1) x (by simpa using hx); rwa [show o + (j + 1) = o + 1 + j by omega] at this
theorem FU {l : List (Tx × Int)} {s : Tx} {a : Int} (h : bl l s = some a) : (s, Value.int .i64 a) ∈ lB l := by
 unfold bl at h; obtain ⟨p, hp, rfl⟩ := Option.map_eq_some_iff.1 h; have h1 := List.mem_of_find?_eq_some hp; have h2 := List.find?_some hp; have h3 : p.1 = s := (by simpa using h2); unfold lB; exact List.mem_map.2 ⟨p, h1, by rw [h3]⟩
theorem DT {l : List (Tx × Int)} {s : Tx} (h : bl l s = none) : s ∉ (lB l).map Prod.fst := by
 unfold bl at h; rw [Option.map_eq_none_iff, List.find?_eq_none] at h; intro hm; simp only [lB, List.map_map, List.mem_map, Function.comp_def] at hm; obtain ⟨p, hp, e⟩ := hm; exact h p hp (by simp [e])
section
variable {B : Nat} {w w0 : World} {H : TyH} {kv : Value} {t : TSt} {con : Tx -> Int} {op n : Int} {nm : Tx} {cv kk v : Value} {l : List Int}
theorem aJ.look (h : aJ B w H kv t) (hs : nm.length <= maxLen) : (Instr.lookup 91 (.map (some H.mv)) (.string (str nm)) false).run prog w = .ok (.int .i64 (t.var nm)) w := by
 cases hg : bl t.vars nm with
 | some a =>
   have := h.vars.one_yes underlying91 (FU hg); unfold TSt.var; rw [hg]; exact this
 | none =>
   have := h.vars.one_no underlying91 (Cm w) hs (DT hg); unfold TSt.var; rw [hg]; exact this
theorem Ar {sig : Tx -> Option bz} (h : aJ B w H kv t) (hB : B <= w.heap.size) {cs : List Tx} (hs : nm.length <= maxLen) :
  Calls prog 104 #[.pointer (some ⟨H.N, 0, none⟩), .agg #[.int .i64 4, .string (str nm), .int .i64 n, cv, kk], v] w (iu B H (t.value ⟨con, sig⟩ 4 nm cs l).1 (t.value ⟨con, sig⟩ 4 nm cs l).2 w) := by
 have hal := zA w (.cells #[.int .i64 4, .string (str nm), .int .i64 n, cv, kk] 81); have HE := zH (au.of_below hal hB); have HT := zH (h.under hal hB); have HB := zH (Nat.le_trans hB hal.size); have BX := zH (heap_alloc_new w (.cells #[.int .i64 4, .string (str nm), .int .i64 n, cv, kk] 81)); have HS := zH hs; clear h hB hal hs; go_enter func104, ntmps104
 go_wp2_with fail
 generalize w.alloc (.cells #[.int .i64 4, .string (str nm), .int .i64 n, cv, kk] 81) = V0 at *; obtain ⟨_, c4, _⟩ := HT.o.cellsAt; obtain ⟨_, p1, _⟩ := aW BX.o; have hrun := HT.o.look HS.o; have KT := zH (show (λ W : World => W.cell? ⟨H.N, 4, none⟩ = some (.map (some H.mv)) /\ W.cell? ⟨w.heap.size, 1, none⟩ = some (.string (str nm)) /\ (Instr.lookup 91 (.map (some H.mv)) (.string (str nm)) false).run prog W = .ok (.int .i64 (t.var nm)) W) V0.drew from ⟨c4, p1, (HT.o.under (zB V0).drew HB.o).look HS.o⟩); refine wp_region_held_drew (S := (λ W : World => W.cell? ⟨H.N, 4, none⟩ = some (.map (some H.mv)) /\ W.cell? ⟨w.heap.size, 1, none⟩ = some (.string (str nm)) /\ (Instr.lookup 91 (.map (some H.mv)) (.string (str nm)) false).run prog W = .ok (.int .i64 (t.var nm)) W)) zK ?_ (λ hHeld => ?_)
 . exact KT.o
 refine aa 0 ?_; refine aa 1 ?_; refine aa 2 ?_; refine aa 3 ?_; refine aa 4 ?_; refine aa 5 ?_; refine aa 6 ?_; refine aa 7 ?_; refine wpAnyH_done zK ?_ _; go_wp2_with fail
 go_ret; exact ⟨rfl, ⟨kv, HT.o.under (zB V0).drew HB.o⟩, HE.o.trans (au.of_below (zB V0).drew HB.o)⟩
theorem Cx {sig : Tx -> Option bz} (h : aJ B w H kv t) (hB : B <= w.heap.size) {cs : List Tx} (hl : bJ w v l) {a b : Int} {r : List Int} (hr : l = a :: b :: r) :
  Calls prog 104 #[.pointer (some ⟨H.N, 0, none⟩), .agg #[.int .i64 7, .string (str nm), .int .i64 n, cv, kk], v] w (iu B H (t.value ⟨con, sig⟩ 7 nm cs l).1 (t.value ⟨con, sig⟩ 7 nm cs l).2 w) := by
 have hal := zA w (.cells #[.int .i64 7, .string (str nm), .int .i64 n, cv, kk] 81); have HE := zH (au.of_below hal hB); have HT := zH (h.under hal hB); have HB := zH (Nat.le_trans hB hal.size); have HL := zH (HE.o.nums hl); have BX := zH (heap_alloc_new w (.cells #[.int .i64 7, .string (str nm), .int .i64 n, cv, kk] 81)); have HQ := zH (show t.value ⟨con, sig⟩ 7 nm cs l = (((t.is a 2).ties b r), b) by rw [hr]; rfl); have HI := zH (jL HT.o HB.o a 2 zO); subst hr; obtain ⟨A1, c1, e, hc1, hm1, h3⟩ := hl; subst e; obtain ⟨g, o, cs', e1, _, _⟩ := h3 (by simp); subst e1; have h2c : 2 <= c1 := (by simp at hc1; omega); have h1c : ¬ c1 = 1 := zO; have hfa := HL.o.get (j := 0) (x := a) rfl; rw [Nat.add_zero] at hfa; have HTL := zH (show bJ (w.alloc (.cells #[.int .i64 7, .string (str nm), .int .i64 n, cv, kk] 81)) (.slice (some ⟨g, o + 1, none⟩) (r.length + 1) (c1 - 1)) (b :: r) from bJ.tail (l := b :: r) HL.o); clear h hB hal hc1 hm1 h3; go_enter func104, ntmps104
 go_wp2_with (first
  | (go_at_call 102; (with_reducible refine HI.o.mono ?_); rintro e w2 ⟨rfl, ⟨kv2, ht2⟩, hk2⟩; obtain ⟨V2, rfl⟩ := zW w2; have HK2 := zH (HE.o.trans hk2); have HS := zH (fJ ht2 (Nat.le_trans HB.o hk2.below.size) (hk2.nums HTL.o)); clear ht2 hk2)
  | (go_at_call 61; (with_reducible refine HS.o.mono ?_); rintro e w3 ⟨rfl, ht3, hk3⟩; obtain ⟨V3, rfl⟩ := zW w3; have HT3 := zH ht3; have HK3 := zH (HK2.o.trans hk3); clear ht3 hk3))
 go_ret; exact ⟨by rw [HQ.o]; rfl, by rw [HQ.o]; exact HT3.o, HK3.o⟩
end
section
variable {B : Nat} {w w0 : World} {H : TyH} {kv : Value} {t : TSt} {con : Tx -> Int} {op n : Int} {nm : Tx} {cv kk v : Value} {l : List Int}
theorem wZ {sig : Tx -> Option bz} (h : aJ B w H kv t) (hB : B <= w.heap.size) (hs : nm.length <= maxLen) {cs : List Tx} (hcs : aF w0 cv cs) {c : Tx} (hc : cs[0]? = some c) (hC : oL H con w0) (hb : Below w0.heap.size w0 w) (hw0 : w0.heap.size <= B) (hcb : con c < 9223372036854775808)
  (hl : bJ w v l) (h0 : l ≠ []) (ho : op = 11 ∨ op = 12) :
  Calls prog 104 #[.pointer (some ⟨H.N, 0, none⟩), .agg #[.int .i64 op, .string (str nm), .int .i64 n, cv, kk], v] w (iu B H (t.value ⟨con, sig⟩ op nm cs l).1 (t.value ⟨con, sig⟩ op nm cs l).2 w) := by
 have hal := zA w (.cells #[.int .i64 op, .string (str nm), .int .i64 n, cv, kk] 81); have HE := zH (au.of_below hal hB); have HT := zH (h.under hal hB); have HB := zH (Nat.le_trans hB hal.size); have BX := zH (heap_alloc_new w (.cells #[.int .i64 op, .string (str nm), .int .i64 n, cv, kk] 81)); have HS := zH hs; have HL := zH (HE.o.nums hl); have HB0 := zH (hb.trans (hal.mono hb.size)); have HWB := zH hw0; have HCB := zH hcb; have HC := zH hC; obtain ⟨A2, c2, rfl, hcl, hcm, hce⟩ := hcs; obtain ⟨L9, hE9, rfl, hcx⟩ := hce 0 c hc; obtain ⟨a9, ea9, hlt9, hzc, q9⟩ := dL hE9; subst ea9; rw [Nat.mul_one] at q9; have hq9 : w0.cell? a9 = some (.string (str c)) := by
  have e : a9.add 0 = a9 := (by unfold Addr.add; simp); rwa [e] at q9
 have HQ9 := zH hq9; have hlt : a9.block < w0.heap.size := World.block_lt_of_cell? w0 _ hq9; have HLT := zH hlt; have hcsl : 0 < cs.length := (List.getElem?_eq_some_iff.1 hc).1; have HHD := zH (show cs.headD [] = c by cases cs with | nil => simp at hc | cons x r => simpa using hc); obtain ⟨a, rest, hlr⟩ : ∃ a r, l = a :: r := by cases l with | nil => exact absurd rfl h0 | cons a r => exact ⟨a, r, rfl⟩
 obtain ⟨A1, c1, rfl, hl1⟩ := hl.shape; have HLR := zH hlr
 have HQ := zH (show t.value ⟨con, sig⟩ op nm cs l = (((t.is (t.var nm) (con c)).ties a rest), a) by
  unfold TSt.value; rw [if_neg zO, if_neg zO, if_neg zO, if_neg zO, if_neg zO, if_neg zO, if_pos ho, HHD.o, hlr]; rfl)
 clear h hB hs hb hw0 hcb hC hl h0 hlr hE9 hce hzc q9 hq9 hlt hlt9 hal; have key : op = 11 ∨ op = 12 -> Calls prog 104 #[.pointer (some ⟨H.N, 0, none⟩), .agg #[.int .i64 op, .string (str nm), .int .i64 n, .slice (some a9) cs.length c2, kk], .slice A1 l.length c1] w (iu B H ((t.is (t.var nm) (con c)).ties a rest) a w) := by
  intro ho; rcases ho with rfl | rfl; all_goals
   go_enter func104, ntmps104
   go_wp2_with fail
   generalize w.alloc (.cells #[.int .i64 _, .string (str nm), .int .i64 n, .slice (some a9) cs.length c2, kk] 81) = V0 at *; obtain ⟨_, c4, _⟩ := HT.o.cellsAt; obtain ⟨_, p1, _, p3, _⟩ := aW BX.o; have HD := zH (HT.o.under (zB V0).drew HB.o); have KT := zH (show (λ W : World => W.cell? ⟨H.N, 4, none⟩ = some (.map (some H.mv)) /\ W.cell? ⟨w.heap.size, 1, none⟩ = some (.string (str nm)) /\ W.cell? ⟨w.heap.size, 3, none⟩ = some (.slice (some a9) cs.length c2) /\ W.cell? a9 = some (.string (str c)) /\ (Instr.lookup 91 (.map (some H.mv)) (.string (str nm)) false).run prog W = .ok (.int .i64 (t.var nm)) W) V0.drew from ⟨c4, p1, p3, (HB0.o.cell HLT.o).trans HQ9.o, HD.o.look HS.o⟩); have HCC := zH (rQ (w := V0.drew) HD.o HB.o HC.o HB0.o.drew c); refine wp_region_held_drew (S := (λ W : World => W.cell? ⟨H.N, 4, none⟩ = some (.map (some H.mv)) /\ W.cell? ⟨w.heap.size, 1, none⟩ = some (.string (str nm)) /\ W.cell? ⟨w.heap.size, 3, none⟩ = some (.slice (some a9) cs.length c2) /\ W.cell? a9 = some (.string (str c)) /\ (Instr.lookup 91 (.map (some H.mv)) (.string (str nm)) false).run prog W = .ok (.int .i64 (t.var nm)) W)) zK ?_ (λ hHeld => ?_)
   . exact KT.o
   refine aa 0 ?_; refine aa 1 ?_; refine aa 2 ?_; refine aa 3 ?_; refine aa 4 ?_; refine aa 5 ?_; refine aa 6 ?_; refine aa 7 ?_; refine aa 8 ?_; refine aa 9 ?_; refine aa 10 ?_; refine aa 11 ?_; refine aa 12 ?_; refine aq 13 zK rfl (λ K hK => ?_); go_simp
   (go_at_call 143
    (with_reducible refine HCC.o.mono ?_); rintro e w8 ⟨rfl, ⟨kv8, ht8⟩, hk8⟩; obtain ⟨V8, rfl⟩ := zW w8; have HT8 := zH ht8; have HK8 := zH hk8; have HE8 := zH ((HE.o.trans (au.of_below (zB V0).drew HB.o)).trans hk8); have HB8 := zH (Nat.le_trans HB.o hk8.below.size); have BX8 := zH (hk8.cells _ _ _ zD zD zD BX.o); have HA8 := zH ((hk8.below.cell (p := a9) (Nat.lt_of_lt_of_le HLT.o HWB.o)).trans ((HB0.o.drew.cell HLT.o).trans HQ9.o)); have HI := zH (jL ht8 HB8.o (t.var nm) (con c) HCB.o); obtain ⟨_, q1, _, q3, _⟩ := aW BX8.o; clear ht8 hk8 HCC)
   refine hK.out _ _ (⟨HT8.o.cellsAt.2.1, q1, q3, HA8.o, HT8.o.look HS.o⟩) (λ hHeld => ?_); clear hK K; try simp only [Act.put, aO, aM, aN]
   refine aq 14 zK rfl (λ K hK => ?_); go_simp
   (go_at_call 102
    (with_reducible refine HI.o.mono ?_); rintro e w9 ⟨rfl, ⟨kv9, ht9⟩, hk9⟩; obtain ⟨V9, rfl⟩ := zW w9; have HT9 := zH ht9; have HE9 := zH (HE8.o.trans hk9); have BX9 := zH (hk9.cells _ _ _ zD zD zD BX8.o); have HA9 := zH ((hk9.below.cell (p := a9) (Nat.lt_of_lt_of_le HLT.o HWB.o)).trans HA8.o); have HL9 := zH (hk9.nums (HK8.o.nums (show bJ V0.drew _ _ from HL.o))); have HSM := zH (fJ ht9 (Nat.le_trans HB8.o hk9.below.size) (v := .slice A1 l.length c1) (a := a) (r := rest) (by rw [<- HLR.o]; exact HL9.o)); obtain ⟨_, r1, _, r3, _⟩ := aW BX9.o; clear ht9 hk9)
   refine hK.out _ _ (⟨HT9.o.cellsAt.2.1, r1, r3, HA9.o, HT9.o.look HS.o⟩) (λ hHeld => ?_); clear hK K; try simp only [Act.put, aO, aM, aN]
   refine wpAnyH_done zK ?_ _
   go_wp2_with (go_at_call 61
                (with_reducible refine HSM.o.mono ?_); rintro e w3 ⟨rfl, ht3, hk3⟩; obtain ⟨V3, rfl⟩ := zW w3; have HT3 := zH ht3; have HK3 := zH (HE9.o.trans hk3); clear ht3 hk3)
   go_ret; exact ⟨rfl, HT3.o, HK3.o⟩
 rw [HQ.o]; exact key ho
end
theorem xF (cx : TCx) (k : Ex) (l : List Ex) : ∀ t : TSt, bt cx t (l ++ [k]) = ((dA cx (bt cx t l).1 1 k).1, (bt cx t l).2 ++ [(dA cx (bt cx t l).1 1 k).2.headD 0]) := by
 induction l with
 | nil => intro t; simp [bt]
 | cons x r ih => intro t; rw [List.cons_append, bt, ih, bt]; rfl
theorem nG (cx : TCx) (l : List Ex) : ∀ t : TSt, (bt cx t l).2.length = l.length := by
 induction l with
 | nil => intro t; rfl
 | cons x r ih => intro t; rw [bt]; simp [ih]
mutual
def gh (D : Nat) : Ex -> Nat
 | .mk _ _ _ cs ks => D * (cs.length + 1) + 7 + bQ D ks
def bQ (D : Nat) : List Ex -> Nat
 | [] => 0
 | k :: r => gh D k + bQ D r
end
theorem oC (D : Nat) (l : List Ex) : ∀ j x, l[j]? = some x -> bQ D (l.take (j + 1)) = bQ D (l.take j) + gh D x /\ bQ D (l.take (j + 1)) <= bQ D l := by
 induction l with
 | nil => intro j x h; simp at h
 | cons k r ih =>
   intro j x h; cases j with
   | zero => simp at h; subst h; simp [bQ]
   | succ j =>
     obtain ⟨h1, h2⟩ := ih j x (by simpa using h); simp only [List.take_succ_cons, bQ]; omega
section
variable {B : Nat} {w w0 : World} {H : TyH} {kv : Value} {t t' : TSt} {a : Int} {r : List Int} {x0 x1 x2 x3 x4 : Value}
theorem pC (hB : B <= w.heap.size) (hR : Calls prog 60 #[.pointer (some ⟨H.N, 0, none⟩), .agg #[x0, x1, x2, x3, x4], .int .i64 1] (w.alloc (.cells #[x0, x1, x2, x3, x4] 81)) (re B H t' (a :: r) (w.alloc (.cells #[x0, x1, x2, x3, x4] 81)))) :
  Calls prog 103 #[.pointer (some ⟨H.N, 0, none⟩), .agg #[x0, x1, x2, x3, x4]] w (iu B H t' a w) := by
 have hal := zA w (.cells #[x0, x1, x2, x3, x4] 81); have HE := zH (au.of_below hal hB); have HR := zH hR; have BX := zH (heap_alloc_new w (.cells #[x0, x1, x2, x3, x4] 81)); clear hB hR hal; go_enter func103, ntmps103
 go_wp2_with (go_at_call 60
              (with_reducible refine HR.o.mono ?_); rintro e w3 ⟨v3, rfl, ho3, ht3, hk3⟩; obtain ⟨V3, rfl⟩ := zW w3; have HT3 := zH ht3; have HK3 := zH (HE.o.trans hk3); obtain ⟨A3, c3, rfl, hl3⟩ := ho3.nums.shape; obtain ⟨g3, o3, e3⟩ := ho3.nums.some (by simp); subst e3; have q3 := ho3.nums.get (j := 0) (x := a) rfl; rw [Nat.add_zero] at q3; clear ht3 hk3 ho3)
 go_ret; exact ⟨rfl, HT3.o, HK3.o⟩
def oK (B : Nat) (H : TyH) (cx : TCx) (w0 : World) (x : Ex) (fs : List (Tx × SgE)) (D : Nat) : Prop := ∀ (n : Nat) (t : TSt) (kv : Value) (w : World) (L : List Value), n <= 6 -> aJ B w H kv t -> B <= w.heap.size -> Below w0.heap.size w0 w -> bM w0 L x -> t.funs = fs -> t.ks.n + gh D x < 4194303 ->
 Calls prog 60 #[.pointer (some ⟨H.N, 0, none⟩), .agg L.toArray, .int .i64 (n : Int)] w (re B H (dA cx t n x).1 (dA cx t n x).2 w)
def wP (B : Nat) (H : TyH) (cx : TCx) (w0 : World) (v : Value) (ks : List Ex) (fs : List (Tx × SgE)) (D : Nat) : Prop := ∀ (t : TSt) (kv : Value) (w : World), aJ B w H kv t -> B <= w.heap.size -> Below w0.heap.size w0 w -> t.funs = fs -> t.ks.n + bQ D ks < 4194303 ->
 Calls prog 105 #[.pointer (some ⟨H.N, 0, none⟩), v] w (re B H (bt cx t ks).1 (bt cx t ks).2 w)
theorem uE {cx : TCx} {fs : List (Tx × SgE)} {ks : List Ex} {D : Nat} {v : Value} (hk : ak w0 (bM w0) v ks) (hi : ∀ k ∈ ks, oK B H cx w0 k fs D) (hst : ∀ k ∈ ks, ∀ t : TSt, (dA cx t 1 k).2 ≠ [] /\ (dA cx t 1 k).1.funs = t.funs /\ (dA cx t 1 k).1.ks.n <= t.ks.n + gh D k) (hnl : ks.length <= 1048576) (hwB : w0.heap.size <= B) : wP B H cx w0 v ks fs D := by
 intro t kv w h hB hb hf hn; obtain ⟨A, c, rfl, hc, hm, he⟩ := hk; have hkl : ks.length <= 9223372036854775807 := zO; have HEL := zH he; have HB := zH hB; have HB0 := zH hb; have H0 := zH h; have HF := zH hf; have HI := zH hi; have HST0 := zH hst; have HN := zH hn; have HNL := zH hnl; have HWB := zH hwB; clear h hB hb hc hm he hf hi hn hnl hwB hst; go_enter func105, ntmps105
 go_wp2_with fail
 go_loopg [5, 10] ks.length (λ g ov v wr => ∃ j : Nat, j + g = ks.length /\ v = .int .i64 j /\ cy w.heap.size wr ov (bt cx t (ks.take j)).2 /\ (∃ kv', aJ B wr H kv' (bt cx t (ks.take j)).1) /\ au B w wr /\ (bt cx t (ks.take j)).1.funs = fs /\ (bt cx t (ks.take j)).1.ks.n <= t.ks.n + bQ D (ks.take j))
 case atStart => exact ⟨0, by omega, rfl, cy.nil _ _, ⟨kv, H0.o⟩, au.refl _ _, HF.o, by simp [bt, bQ]⟩
 case round =>
  obtain ⟨j, hjg, rfl, hown, ⟨kv1, hty⟩, hke, hfz, hnz⟩ := hrel; obtain ⟨wz, rfl⟩ := zW wr; have HK := zH hjg; have HT := zH hty; have HE := zH hke; have HO := zH hown; have HFZ := zH hfz; have HNZ := zH hnz; have HBZ := zH (Nat.le_trans HB.o hke.below.size); obtain ⟨A5, n5, c5, rfl, hn5⟩ := hown.shape; have hjl : j <= ks.length := zO; rw [nG, List.length_take, Nat.min_eq_left hjl] at hn5; subst hn5; clear hjg hty hke hown hfz hnz; by_cases hlt : n5 < ks.length
  . obtain ⟨x, hx⟩ := zG hlt; obtain ⟨L, hEl, hX⟩ := HEL.o n5 x hx; have HBW := zH (HB0.o.trans (HE.o.below.mono HWB.o)); have HXA := zH hX; obtain ⟨o1, s1, i1, A1, m1, k1, A2, m2, k2, rfl⟩ := hX.shape; obtain ⟨a, ea, ha, haa, d0, d1, d2, d3, d4⟩ := eh (hEl.under HBW.o); subst ea; have hal1 := zA wz (.cells #[.int .i64 o1, .string s1, .int .i64 i1, .slice A1 m1 k1, .slice A2 m2 k2] 81); have hal2 := (Below.refl (wz.alloc (.cells #[.int .i64 o1, .string s1, .int .i64 i1, .slice A1 m1 k1, .slice A2 m2 k2] 81)).heap.size (wz.alloc (.cells #[.int .i64 o1, .string s1, .int .i64 i1, .slice A1 m1 k1, .slice A2 m2 k2] 81))).alloc (Nat.le_refl _) (.cells #[.int .i64 o1, .string s1, .int .i64 i1, .slice A1 m1 k1, .slice A2 m2 k2] 81); have hB1 := Nat.le_trans HBZ.o hal1.size; obtain ⟨hsm, hmul⟩ := oC D ks n5 x hx; have hbnd : (bt cx t (ks.take n5)).1.ks.n + gh D x < 4194303 := (by have h1 := HNZ.o; have h2 := HN.o; omega); have hcall := HI.o x (List.mem_of_getElem? hx) 1 (bt cx t (ks.take n5)).1 kv1 _ _ zO ((HT.o.under hal1 HBZ.o).under hal2 hB1) (Nat.le_trans hB1 hal2.size) ((HBW.o.trans (hal1.mono HBW.o.size)).trans (hal2.mono (Nat.le_trans HBW.o.size hal1.size))) HXA.o HFZ.o hbnd; obtain ⟨hne, hfs0, hnn⟩ := HST0.o x (List.mem_of_getElem? hx) (bt cx t (ks.take n5)).1; have hfs := hfs0.trans HFZ.o
    have HST := zH (show bt cx t (ks.take (n5 + 1)) = ((dA cx (bt cx t (ks.take n5)).1 1 x).1, (bt cx t (ks.take n5)).2 ++ [(dA cx (bt cx t (ks.take n5)).1 1 x).2.headD 0]) by
     obtain ⟨_, rfl⟩ := List.getElem?_eq_some_iff.1 hx; rw [List.take_succ_eq_append_getElem hlt, xF])
    obtain ⟨q, hq⟩ : ∃ q, dA cx (bt cx t (ks.take n5)).1 1 x = q := ⟨_, rfl⟩; rw [hq] at hcall hne hfs hfs0 hnn HST; obtain ⟨tq, lq⟩ := q; obtain ⟨b, rq, hlq⟩ : ∃ b r, lq = b :: r := by cases lq with | nil => exact absurd rfl hne | cons b r => exact ⟨b, r, rfl⟩
    simp only at hcall hfs hfs0 hnn; subst hlq; have HCX := zH (pC (w := wz.alloc (.cells #[.int .i64 o1, .string s1, .int .i64 i1, .slice A1 m1 k1, .slice A2 m2 k2] 81)) hB1 hcall); have HFQ := zH (hfs.trans HF.o.symm); have HFS := zH hfs; have HNQ := zH (show tq.ks.n <= t.ks.n + bQ D (ks.take (n5 + 1)) by have h1 := HNZ.o; omega); have HAL := zH hal1; have HFL := zH (show (bt cx t (ks.take n5)).2.length <= 4194304 by have := HNL.o; rw [nG, List.length_take]; omega); clear hx hEl hX hcall hne hfs hfs0 hnn hq hal1 hal2 hB1 hbnd hmul hsm
    go_wp2_with (first
     | (go_at_call 103; (with_reducible refine HCX.o.mono ?_); rintro e w8 ⟨rfl, ⟨kv8, ht8⟩, hk8⟩; obtain ⟨V8, rfl⟩ := zW w8; have HK8 := zH ((au.of_below HAL.o HBZ.o).trans hk8); have hal := zA V8 (.cells #[.int .i64 b] 3); have hB8 := Nat.le_trans HBZ.o HK8.o.below.size; have HT8 := zH (ht8.under hal hB8); have HE8 := zH ((HE.o.trans HK8.o).trans (au.of_below hal hB8)); have HO8 := zH ((HK8.o.own HO.o).under hal); clear ht8 hk8 hal hB8)
     | (at_builtin
        refine nh 103 underlying103 rfl _ _ rfl rfl rfl (heap_alloc_new _ _) HO8.o HFL.o ?_ ?_
        . exact HE8.o.below.size
        intro v5 w5 h5; obtain ⟨V5, rfl⟩ := zW w5; have HN5 := zH h5.own; have HT5 := zH (H0.o.grow HT8.o HFQ.o HE8.o HO8.o h5.grown); obtain ⟨B6, m6, c6, rfl, hm6⟩ := h5.own.shape; clear h5 hm6))
    go_roundg (ks.length - (n5 + 1))
    case measure => have := HK.o; omega
    case rel => exact ⟨n5 + 1, by omega, by go_num, by rw [HST.o]; exact HN5.o, ⟨kv8, by rw [HST.o]; exact HT5.o.1⟩, HT5.o.2, by rw [HST.o]; exact HFS.o, by rw [HST.o]; exact HNQ.o⟩
  . have hje : n5 = ks.length := by omega
    subst hje; rw [List.take_length] at HO HT; go_wp2_with fail
    go_ret; exact ⟨_, rfl, HO.o.mono HB.o, ⟨kv1, HT.o⟩, HE.o⟩
end
def pr (nm : Tx) (n : Nat) (W : World) (e : Ending) (w' : World) : Prop := ∃ b, e = .returned (.tuple #[.int .i64 (eR nm n).1, .int .i64 (eR nm n).2, .bool b]) /\ W = w'
theorem ze {a b c d : Int} {p : Bool} {W : World} (h1 : a = c) (h2 : b = d) : ∃ q, Ending.returned (.tuple #[.int .i64 a, .int .i64 b, .bool p]) = .returned (.tuple #[.int .i64 c, .int .i64 d, .bool q]) /\ W = W := ⟨p, by rw [h1, h2], rfl⟩
theorem xo (nm : Tx) (w : World) : Calls prog 191 #[.string (str nm)] w (pr nm 1 w) := by
 have ht : (str nm).toList = nm := ep nm; unfold pr; go_enter func191, ntmps191
 go_wp2; all_goals go_ret3
 all_goals exact ze (by simp_all [eR]) (by simp_all [eR])
theorem xm (nm : Tx) (w : World) : Calls prog 192 #[.string (str nm)] w (pr nm 2 w) := by
 have ht : (str nm).toList = nm := ep nm; unfold pr; go_enter func192, ntmps192
 go_wp2; all_goals go_ret3
 all_goals exact ze (by simp_all [eR]) (by simp_all [eR])
theorem Cy (nm : Tx) (n : Nat) : iI nm n := by
 intro w; by_cases h1 : n = 1
 . subst h1; have HT := zH (xo nm); go_enter func173, ntmps173
   go_wp2_with (go_at_call 191; refine (HT.o _).mono ?_; rintro e w' ⟨b, rfl, rfl⟩)
   go_ret3
   exact ⟨b, rfl, rfl⟩
 by_cases h2 : n = 2
 . subst h2; have HT := zH (xm nm); go_enter func173, ntmps173
   go_wp2_with (go_at_call 192; refine (HT.o _).mono ?_; rintro e w' ⟨b, rfl, rfl⟩)
   go_ret3
   exact ⟨b, rfl, rfl⟩
 . have e0 : eR nm n = (0, 0) := by unfold eR; rw [if_neg h1, if_neg h2]
   have q1 : ((n : Int) == 1) = false := (by simp; omega); have q2 : ((n : Int) == 2) = false := (by simp; omega); rw [e0]; clear h1 h2 e0; go_enter func173, ntmps173
   go_wp2_with fail
   go_ret3
   exact ⟨false, rfl, rfl⟩
end Go.Proofs.YtiholfmmphcbeaaGreatDoor
