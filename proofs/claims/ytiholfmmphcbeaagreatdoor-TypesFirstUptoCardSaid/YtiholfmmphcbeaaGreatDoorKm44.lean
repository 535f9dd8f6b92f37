import Derived.Test.YtiholfmmphcbeaaGreatDoorKm43
set_option maxHeartbeats 8000000
set_option maxRecDepth 100000
namespace Go.Proofs.YtiholfmmphcbeaaGreatDoor
open _root_.Go.Proofs.Tryz
open Go.RowKit
theorem fj (fs : List Tx) (op : Int) (n : Nat) (k : Ex) (l : List Ex) : ∀ (first : Bool) (t : TSt), aY fs op n first t (l ++ [k]) = eM fs (if op = 15 /\ (first = true /\ l = []) then n else 1) (aY fs op n first t l) k := by
 induction l with
 | nil => intro first t; simp [aY]
 | cons x r ih =>
   intro first t; rw [List.cons_append, aY, ih, aY]; simp
mutual
def mX : Ex -> Nat
 | .mk _ _ _ _ ks => ks.length + 6 + dv ks
def dv : List Ex -> Nat
 | [] => 0
 | k :: r => mX k + dv r
end
theorem fm (l : List Ex) : ∀ j x, l[j]? = some x -> dv (l.take (j + 1)) = dv (l.take j) + mX x /\ dv (l.take (j + 1)) <= dv l := by
 induction l with
 | nil => intro j x h; simp at h
 | cons k r ih =>
   intro j x h; cases j with
   | zero => simp at h; subst h; simp [dv]
   | succ j =>
     obtain ⟨h1, h2⟩ := ih j x (by simpa using h); simp only [List.take_succ_cons, dv]; omega
def ja (t u : TSt) (k : Nat) : Prop := u.vars = t.vars /\ u.ref = t.ref /\ u.ks.n <= t.ks.n + k
theorem ja.trans {t u v : TSt} {a b c : Nat} (h : ja t u a) (g : ja u v b) (hc : a + b <= c) : ja t v c := by
 obtain ⟨h1, h2, h3⟩ := h; obtain ⟨g1, g2, g3⟩ := g; exact ⟨g1.trans h1, g2.trans h2, by omega⟩
def du (fs : List Tx) (op : Int) (n : Nat) (nm : Tx) (k : Nat) (t : TSt) : TSt :=
 if op = 14 /\ nm ∈ fs /\ bl t.funs nm = none then { (t.adds k).adds n with funs := t.funs ++ [(nm, ⟨t.news k, (t.adds k).news n⟩)] } else t
theorem qt (fs : List Tx) (n : Nat) (t : TSt) (op : Int) (nm : Tx) (m : Int) (cs : List Tx) (ks : List Ex) : eM fs n t (.mk op nm m cs ks) = aY fs op n true (du fs op n nm ks.length t) ks := by rw [eM]; rfl
theorem lE (fs : List Tx) (op : Int) (n : Nat) (nm : Tx) (k : Nat) (t : TSt) (hn : n <= 6) : ja t (du fs op n nm k t) (k + 6) := by
 unfold du; split
 . refine ⟨?_, ?_, ?_⟩
   . show ((t.adds k).adds n).vars = t.vars; rw [(TSt.adds_vars _ n).1, (TSt.adds_vars t k).1]
   . show ((t.adds k).adds n).ref = t.ref; rw [(TSt.adds_vars _ n).2.2, (TSt.adds_vars t k).2.2]
   . show ((t.adds k).adds n).ks.n <= _; rw [TSt.adds_n, TSt.adds_n]; omega
 . exact ⟨rfl, rfl, Nat.le_add_right _ _⟩
theorem qr (fs : List Tx) : ∀ x : Ex, ∀ (t : TSt) (n : Nat), n <= 6 -> ja t (eM fs n t x) (mX x) := by
 refine Ex.ind λ op nm m cs ks ih => ?_; intro t n hn; rw [qt, mX]; have : ∀ (l : List Ex), (∀ k ∈ l, k ∈ ks) -> ∀ (first : Bool) (t : TSt), ja t (aY fs op n first t l) (dv l) := by
  intro l; induction l with
  | nil => intro _ _ t; exact ⟨rfl, rfl, Nat.le_add_right _ _⟩
  | cons k r ihr =>
    intro hl first t; rw [aY, dv]; exact (ih k (hl k (by simp)) t _ (by split <;> omega)).trans (ihr (λ k hk => hl k (by simp [hk])) _ _) (Nat.le_refl _)
 exact (lE fs op n nm ks.length t hn).trans (this ks (λ _ h => h) _ _) (Nat.le_refl _)
theorem gg (fs : List Tx) (op : Int) (n : Nat) (hn : n <= 6) (l : List Ex) : ∀ (first : Bool) (t : TSt), ja t (aY fs op n first t l) (dv l) := by
 induction l with
 | nil => intro _ t; exact ⟨rfl, rfl, Nat.le_add_right _ _⟩
 | cons k r ihr =>
   intro first t; rw [aY, dv]; exact (qr fs k t _ (by split <;> omega)).trans (ihr _ _) (Nat.le_refl _)
theorem rV {ops : Array Oper} {o : Oper} {a : Act} {W : World} {K : Act -> World -> Prop} {Q : Exit -> Act -> World -> Prop} {E : Prop} (hg : o.guard = none) (m x y : Operand) (t : TypeId) (hop : o.op = Op.mapUpdate t m x y)
  {e : TypeId} (ht : prog.underlying t = some (.map 9 e)) {b : Nat} {l : List (Tx × Value)} {s : Tx} {v : Value} (hm : a.eval m = .map (some b)) (hx : a.eval x = .string (str s)) (hv : a.eval y = v) (h : ax W b l) (hs : s.length <= maxLen) (hn : s ∉ l.map Prod.fst)
  (hK : ∀ w', ax w' b (l ++ [(s, v)]) -> W.grownBy w' (some b) -> K (a.put o.dst undef) w') : if Region.wanted o (yielded ops a.tmps) = true then Oper.wp prog o a W K Q else E := by
 have hw : Region.wanted o (yielded ops a.tmps) = true := (by simp [Region.wanted, hg]); rw [if_pos hw]; obtain ⟨w', hrun, r1, r2⟩ := h.put (v := v) ht hs hn; unfold Oper.wp; simp [execOp, hop, hm, hx, hv, hrun, Result.andThen]; exact hK w' r1 r2
section
variable {B : Nat} {w w0 : World} {H : TyH} {kv : Value} {t : TSt}
theorem vK {F : Nat} {w' : World} {l : List (Tx × Value)} (hM : ax w F l) (hBF : B <= F) (hg : w.grownBy w' (some F)) : aE F B w w' := by
 obtain ⟨es, c, hb, _⟩ := hM; refine ⟨⟨hg.os, hg.tape, hg.output, hg.size, λ k hk => ?_⟩, λ g cs T0 _ _ _ h4 => ?_, λ g es' c' hne h4 => ?_⟩
 . by_cases hkw : k < w.heap.size
   . exact hg.block k hkw (λ e => by injection e; omega)
   . have := ab hb; omega
 . exact (hg.block g (ab h4) (λ e => by injection e with e; subst e; rw [hb] at h4; cases h4)).trans h4
 . exact (hg.block g (ab h4) (λ e => by injection e with e; exact hne e)).trans h4
theorem aJ.putF {w' : World} {L : List (Tx × Value)} {nm : Tx} {s : SgE} {v : Value} (h : aJ B w H kv t) (hne : H.mv ≠ H.mf) (hBF : B <= H.mf) (hM : ax w H.mf L) (hg : w.grownBy w' (some H.mf)) (hM' : ax w' H.mf (L ++ [(nm, v)])) (hL : L.map Prod.fst = t.funs.map Prod.fst)
  (hLs : ∀ (i : Nat) p q, L[i]? = some p -> t.funs[i]? = some q -> uj B w p.2 q.2) (hv : uj B w v s) : aJ B w' H kv { t with funs := t.funs ++ [(nm, s)] } /\ aE H.mf B w w' := by
 have hk : aE H.mf B w w' := vK hM hBF hg; obtain ⟨es, c, hb, _⟩ := hM; refine ⟨⟨(hg.block _ (ab h.box) (λ e => by injection e with e; have := h.box; rw [e, hb] at this; cases this)).trans h.box, ?_, h.low, hk.map hne h.vars, L ++ [(nm, v)], hM', by simp [hL], ?_⟩, hk⟩
 . refine h.knot.kept (M := λ b => some H.mf = some b) (ba.of_grown hg λ k e => e) λ b hf e => ?_; injection e with e; subst e; obtain ⟨cs, h3 | h3⟩ := h.knot.foot hf <;> (rw [hb] at h3; cases h3)
 . intro i p q hp hq; have hl : L.length = t.funs.length := (by simpa using congrArg List.length hL); by_cases hi : i < L.length
   . rw [List.getElem?_append_left hi] at hp; rw [List.getElem?_append_left zO] at hq; exact hk.sg (hLs i p q hp hq)
   . rw [List.getElem?_append_right zO] at hp hq; have hi0 : i - L.length = 0 := by
      have := (List.getElem?_eq_some_iff.1 hp).1; simp at this; omega
     rw [hi0] at hp; rw [<- hl, hi0] at hq; simp at hp hq; subst hp hq; exact hk.sg hv
theorem iw.open_ {m : Nat} {l : List (Tx × SgE)} (h : iw B w m l) {nm : Tx} (hs : bl l nm = none) : ∃ L : List (Tx × Value), ax w m L /\ L.map Prod.fst = l.map Prod.fst /\ (∀ (i : Nat) p q, L[i]? = some p -> l[i]? = some q -> uj B w p.2 q.2) /\ nm ∉ L.map Prod.fst := by
 obtain ⟨L, h1, h2, h3⟩ := h; refine ⟨L, h1, h2, h3, ?_⟩; rw [h2]; unfold bl at hs; rw [Option.map_eq_none_iff, List.find?_eq_none] at hs; intro hm; obtain ⟨p, hp, e⟩ := List.mem_map.1 hm; exact hs p hp (by simpa using e)
def GF (B : Nat) (H : TyH) (t' : TSt) (W : World) (e : Ending) (w' : World) : Prop := e = .returned (.tuple #[]) /\ (∃ kv', aJ B w' H kv' t') /\ aE H.mf B W w'
def EP (B : Nat) (H : TyH) (w0 : World) (fv : Value) (fs : List Tx) (x : Ex) : Prop := ∀ (n : Nat) (t : TSt) (kv : Value) (w : World) (L : List Value), n <= 6 -> aJ B w H kv t -> B <= w.heap.size -> Below w0.heap.size w0 w -> bM w0 L x -> t.ks.n + mX x < 4194303 ->
 Calls prog 32 #[.pointer (some ⟨H.N, 0, none⟩), fv, .agg L.toArray, .int .i64 (n : Int)] w (GF B H (eM fs n t x) w)
theorem uD {fs : List Tx} {A : Option Addr} {c : Nat} (hne : H.mv ≠ H.mf) (hBF : B <= H.mf) (hwB : w0.heap.size <= B) (hCt : ∀ (s : Tx) (W : World), Below w0.heap.size w0 W -> Calls prog 58 #[.slice A fs.length c, .string (str s)] W (ar (fs.contains s) W))
  (op : Int) (nm : Tx) (m : Int) (cs : List Tx) (ks : List Ex) (hkl : ks.length <= 1048576) (ih : ∀ k ∈ ks, EP B H w0 (.slice A fs.length c) fs k) : EP B H w0 (.slice A fs.length c) fs (.mk op nm m cs ks) := by
 intro n t kv w L hn6 h hB hb hx hn; obtain ⟨cv, kk, rfl, _, hnm, _, hcs, hkk⟩ := hx.open_; obtain ⟨Ac, ncs, cc, rfl⟩ := ak.shape hcs; obtain ⟨Ak, ck, rfl, hkc, hkm, hke⟩ := hkk; have hal := zA w (.cells #[.int .i64 op, .string (str nm), .int .i64 m, .slice Ac ncs cc, .slice Ak ks.length ck] 81); have HBW := zH (hb.trans (hal.mono hb.size)); have HB0 := zH (Nat.le_trans hB hal.size); have HK0 := zH ((au.of_below hal hB).but H.mf); have HT0 := zH (h.under hal hB); have BE := zH (heap_alloc_new w (.cells #[.int .i64 op, .string (str nm), .int .i64 m, .slice Ac ncs cc, .slice Ak ks.length ck] 81)); rw [mX] at hn; have HN := zH hn; have HN6 := zH hn6; have HNM := zH hnm; have HWB := zH hwB; have HKE := zH hke; have HIH := zH ih; have HCT := zH (hCt nm _ HBW.o); have HSH := zH (lE fs op n nm ks.length t hn6); have HQ := zH (qt fs n t op nm m cs ks); have hnl : ks.length <= 9223372036854775807 := zO; obtain ⟨E, hEE⟩ : ∃ E, E = w.heap.size := ⟨_, rfl⟩; clear h hB hb hx hn hn6 hnm hcs hal hke hkc hkm hwB hCt ih; by_cases h14 : op = 14
 . subst h14; cases hct : fs.contains nm with
   | false =>
     have HHE := zH (show du fs 14 n nm ks.length t = t by
      unfold du; rw [if_neg]; rintro ⟨_, h2, _⟩; rw [<- Bool.not_eq_true, List.contains_iff_mem] at hct; exact hct h2)
     rw [hct] at HCT; clear HSH; obtain ⟨u, hu⟩ : ∃ u, u = t := ⟨_, rfl⟩; have HSU := zH (show ja t u (ks.length + 6) by rw [hu]; exact ⟨rfl, rfl, Nat.le_add_right _ _⟩); have HQL := zH (HQ.o.trans (by rw [HHE.o, hu]) : eM fs n t _ = aY fs _ n true u ks); go_enter func32, ntmps32
     go_wp2_with (go_at_call 58
                  (with_reducible refine HCT.o.mono ?_); rintro e w1 ⟨rfl, hb1⟩; obtain ⟨V1, rfl⟩ := zW w1; have HTU := zH (HT0.o.under hb1 HB0.o); have HKL := zH (HK0.o.trans ((au.of_below hb1 HB0.o).but H.mf)); have HBL := zH (Nat.le_trans HB0.o hb1.size); have HBWL := zH (HBW.o.trans (hb1.mono HBW.o.size)); have BEL := zH ((hb1.block _ (ab BE.o)).trans BE.o); obtain ⟨p0, p1, p2, p3, p4⟩ := aW BEL.o; clear hb1)
     have HTL := zH (show aJ B V1 H kv u by rw [hu]; exact HTU.o); obtain ⟨kvL, hkvL⟩ : ∃ k, k = kv := ⟨_, rfl⟩; rw [<- hkvL] at HTL; go_loopg [52] ks.length (λ g v wr => ∃ j : Nat, j + g = ks.length /\ v = .int .i64 j /\ (∃ kv', aJ B wr H kv' (aY fs 14 n true u (ks.take j))) /\ aE H.mf B V1 wr)
     case atStart => exact ⟨0, by omega, rfl, ⟨kvL, by simpa [aY] using HTL.o⟩, (au.refl _ _).but _⟩
     case round =>
      obtain ⟨j, hjg, rfl, ⟨kv2, hty⟩, hke⟩ := hrel; obtain ⟨wz, rfl⟩ := zW wr; have HK := zH hjg; have HT := zH hty; have HE := zH hke; have HBZ := zH (Nat.le_trans HBL.o hke.below.size); have hjl : j <= ks.length := zO; have HBWZ := zH (HBWL.o.trans (hke.below.mono HWB.o)); have BEZ := zH (hke.cells _ _ _ zD zD zD BEL.o); have HSJ := zH (gg fs 14 n HN6.o (ks.take j) true u); obtain ⟨p0, p1, p2, p3, p4⟩ := aW BEZ.o; clear hjg hty hke; by_cases hlt : j < ks.length
      . obtain ⟨x, hx⟩ := zG hlt; obtain ⟨L1, hE1, hX1⟩ := HKE.o j x hx; obtain ⟨o1, s1, i1, A1, m1, k1, C1, n1, j1, rfl⟩ := hX1.shape; obtain ⟨x1, ex1, _, _, d0, d1, d2, d3, d4⟩ := eh (hE1.under HBWZ.o); subst ex1; have hbd := fm ks j x hx; clear hE1; have hal1 := zA wz (.cells #[.int .i64 o1, .string s1, .int .i64 i1, .slice A1 m1 k1, .slice C1 n1 j1] 81); have HAL := zH hal1; obtain ⟨r0, _, _, _, _⟩ := aW (az (o := .cells #[.int .i64 o1, .string s1, .int .i64 i1, .slice A1 m1 k1, .slice C1 n1 j1] 81) BEZ.o)
        have HST := zH (show aY fs 14 n true u (ks.take (j + 1)) = eM fs 1 (aY fs 14 n true u (ks.take j)) x by
         obtain ⟨_, rfl⟩ := List.getElem?_eq_some_iff.1 hx; rw [List.take_succ_eq_append_getElem hlt, fj, if_neg (λ h => absurd h.1 zD)])
        have HC := zH (show Calls prog 32 #[.pointer (some ⟨H.N, 0, none⟩), .slice A fs.length c, .agg #[.int .i64 o1, .string s1, .int .i64 i1, .slice A1 m1 k1, .slice C1 n1 j1], .int .i64 1] (wz.alloc (.cells #[.int .i64 o1, .string s1, .int .i64 i1, .slice A1 m1 k1, .slice C1 n1 j1] 81)) _ from HIH.o x (List.mem_of_getElem? hx) 1 (aY fs 14 n true u (ks.take j)) kv2 _ _ zO (HT.o.under hal1 HBZ.o) (Nat.le_trans HBZ.o hal1.size) (HBWZ.o.trans (hal1.mono HBWZ.o.size)) hX1 (by have h1 := HSJ.o.2.2; have h2 := HSU.o.2.2; have h3 := HN.o; omega)); clear hx hX1 hal1 hbd
        go_wp2_with (go_at_call 32
                     (with_reducible refine HC.o.mono ?_); rintro e w8 ⟨rfl, ⟨kv8, ht8⟩, hk8⟩; obtain ⟨V8, rfl⟩ := zW w8; have HT8 := zH ht8; have HE8 := zH ((HE.o.trans ((au.of_below HAL.o HBZ.o).but H.mf)).trans hk8); clear ht8 hk8)
        go_roundg (ks.length - (j + 1))
        case measure => have := HK.o; omega
        case rel => exact ⟨j + 1, by omega, by go_num, ⟨kv8, by rw [HST.o]; exact HT8.o⟩, HE8.o⟩
      . have hje : j = ks.length := by omega
        subst hje; rw [List.take_length] at HT; go_wp2_with fail
        exact bodyPost_ret (results_none rfl _ _ _) rfl ⟨rfl, ⟨kv2, by rw [HQL.o]; exact HT.o⟩, HKL.o.trans HE.o⟩
   | true =>
     rw [hct] at HCT; cases hg : bl t.funs nm with
     | some s =>
       have HHE := zH (show du fs 14 n nm ks.length t = t by
        unfold du; rw [if_neg]; rintro ⟨_, _, h2⟩; rw [hg] at h2; cases h2)
       clear HSH; obtain ⟨u, hu⟩ : ∃ u, u = t := ⟨_, rfl⟩; have HSU := zH (show ja t u (ks.length + 6) by rw [hu]; exact ⟨rfl, rfl, Nat.le_add_right _ _⟩); have HQL := zH (HQ.o.trans (by rw [HHE.o, hu]) : eM fs n t _ = aY fs _ n true u ks); go_enter func32, ntmps32
       go_wp2_with (go_at_call 58
                    (with_reducible refine HCT.o.mono ?_); rintro e w1 ⟨rfl, hb1⟩; obtain ⟨V1, rfl⟩ := zW w1; have HTU := zH (HT0.o.under hb1 HB0.o); have HKL := zH (HK0.o.trans ((au.of_below hb1 HB0.o).but H.mf)); have HBL := zH (Nat.le_trans HB0.o hb1.size); have HBWL := zH (HBW.o.trans (hb1.mono HBW.o.size)); have BEL := zH ((hb1.block _ (ab BE.o)).trans BE.o); obtain ⟨p0, p1, p2, p3, p4⟩ := aW BEL.o; clear hb1)
       obtain ⟨fa, fb, h4, h5, hr⟩ := HTU.o.funs.yes hg; obtain ⟨A4, n4, k4, rfl, rfl⟩ := h4.shape; obtain ⟨A5, n5, k5, rfl, rfl⟩ := h5.shape; clear h4 h5; obtain ⟨_, _, c5, _, _⟩ := HTU.o.cellsAt; have hdr := (hr _ (zB V1).drew).1; have KT := zH (show (λ W : World => W.cell? ⟨H.N, 5, none⟩ = some (.map (some H.mf)) /\ W.cell? ⟨w.heap.size, 1, none⟩ = some (.string (str nm)) /\ (Instr.lookup 92 (.map (some H.mf)) (.string (str nm)) true).run prog W = .ok (.tuple #[.agg #[.slice none 0 0, .slice A4 s.ins.length k4, .slice A5 s.outs.length k5], .bool true]) W) V1.drew from ⟨c5, p1, hdr⟩); have hz0 := (zA V1 (.cells #[.slice none 0 0, .slice none 0 0, .slice none 0 0] 105)).drew; have ht0 := HTU.o.under hz0 HBL.o; have hl0 := (hr _ hz0).1; obtain ⟨_, _, x50, _, _⟩ := ht0.cellsAt; obtain ⟨_, x10, _, _, x40⟩ := aW ((hz0.block _ (ab BEL.o)).trans BEL.o); have hz1 := (zA V1 (.cells #[.slice none 0 0, .slice A4 s.ins.length k4, .slice A5 s.outs.length k5] 105)).drew; have ht1 := HTU.o.under hz1 HBL.o; have hl1 := (hr _ hz1).1; obtain ⟨_, _, x51, _, _⟩ := ht1.cellsAt; obtain ⟨_, x11, _, _, x41⟩ := aW ((hz1.block _ (ab BEL.o)).trans BEL.o); refine wp_region_held_drew (S := (λ W : World => W.cell? ⟨H.N, 5, none⟩ = some (.map (some H.mf)) /\ W.cell? ⟨w.heap.size, 1, none⟩ = some (.string (str nm)) /\ (Instr.lookup 92 (.map (some H.mf)) (.string (str nm)) true).run prog W = .ok (.tuple #[.agg #[.slice none 0 0, .slice A4 s.ins.length k4, .slice A5 s.outs.length k5], .bool true]) W)) zK ?_ (λ hHeld => ?_)
       . exact KT.o
       refine aa 0 ?_; refine aa 1 ?_; refine aa 2 ?_; refine aa 3 ?_; refine aa 4 ?_; refine aa 5 ?_; refine aa 6 ?_; refine aa 7 ?_; refine aa 8 ?_; refine aa 9 ?_; refine aq 10 zK rfl (λ K hK => ?_); go_simp
       refine hK.out _ _ (⟨x50, x10, hl0⟩) (λ hHeld => ?_); clear hK K; try simp only [Act.put, aO, aM, aN]
       refine aq 11 zK rfl (λ K hK => ?_); go_simp
       refine hK.out _ _ (⟨x51, x11, hl1⟩) (λ hHeld => ?_); clear hK K; try simp only [Act.put, aO, aM, aN]
       refine aa 12 ?_; refine wpAnyH_done zK ?_ _; have HTV := zH ht1; have HKV := zH (HKL.o.trans ((au.of_below hz1 HBL.o).but H.mf)); have HBV := zH (Nat.le_trans HBL.o hz1.size); have HBWV := zH (HBWL.o.trans (hz1.mono HBWL.o.size)); have BEV := zH ((hz1.block _ (ab BEL.o)).trans BEL.o); clear hz0 ht0 hl0 x50 x10 x40 hz1 ht1 hl1 x51 x11 x41 KT hdr c5 p0 p1 p2 p3 p4 hHeld HBWL BEL HKL HTU HBL; generalize (V1.alloc (.cells #[.slice none 0 0, .slice A4 s.ins.length k4, .slice A5 s.outs.length k5] 105)).drew = V2 at *; clear hr; have HTL := zH (show aJ B V2 H kv u by rw [hu]; exact HTV.o); obtain ⟨kvL, hkvL⟩ : ∃ k, k = kv := ⟨_, rfl⟩; rw [<- hkvL] at HTL; have HBL := HBV; have HBWL := HBWV; have BEL := BEV; have HKL := HKV; obtain ⟨p0, p1, p2, p3, p4⟩ := aW BEL.o; go_wp2_with fail
       go_loopg [52] ks.length (λ g v wr => ∃ j : Nat, j + g = ks.length /\ v = .int .i64 j /\ (∃ kv', aJ B wr H kv' (aY fs 14 n true u (ks.take j))) /\ aE H.mf B V2 wr)
       case atStart => exact ⟨0, by omega, rfl, ⟨kvL, by simpa [aY] using HTL.o⟩, (au.refl _ _).but _⟩
       case round =>
        obtain ⟨j, hjg, rfl, ⟨kv2, hty⟩, hke⟩ := hrel; obtain ⟨wz, rfl⟩ := zW wr; have HK := zH hjg; have HT := zH hty; have HE := zH hke; have HBZ := zH (Nat.le_trans HBL.o hke.below.size); have hjl : j <= ks.length := zO; have HBWZ := zH (HBWL.o.trans (hke.below.mono HWB.o)); have BEZ := zH (hke.cells _ _ _ zD zD zD BEL.o); have HSJ := zH (gg fs 14 n HN6.o (ks.take j) true u); obtain ⟨p0, p1, p2, p3, p4⟩ := aW BEZ.o; clear hjg hty hke; by_cases hlt : j < ks.length
        . obtain ⟨x, hx⟩ := zG hlt; obtain ⟨L1, hE1, hX1⟩ := HKE.o j x hx; obtain ⟨o1, s1, i1, A1, m1, k1, C1, n1, j1, rfl⟩ := hX1.shape; obtain ⟨x1, ex1, _, _, d0, d1, d2, d3, d4⟩ := eh (hE1.under HBWZ.o); subst ex1; have hbd := fm ks j x hx; clear hE1; have hal1 := zA wz (.cells #[.int .i64 o1, .string s1, .int .i64 i1, .slice A1 m1 k1, .slice C1 n1 j1] 81); have HAL := zH hal1; obtain ⟨r0, _, _, _, _⟩ := aW (az (o := .cells #[.int .i64 o1, .string s1, .int .i64 i1, .slice A1 m1 k1, .slice C1 n1 j1] 81) BEZ.o)
          have HST := zH (show aY fs 14 n true u (ks.take (j + 1)) = eM fs 1 (aY fs 14 n true u (ks.take j)) x by
           obtain ⟨_, rfl⟩ := List.getElem?_eq_some_iff.1 hx; rw [List.take_succ_eq_append_getElem hlt, fj, if_neg (λ h => absurd h.1 zD)])
          have HC := zH (show Calls prog 32 #[.pointer (some ⟨H.N, 0, none⟩), .slice A fs.length c, .agg #[.int .i64 o1, .string s1, .int .i64 i1, .slice A1 m1 k1, .slice C1 n1 j1], .int .i64 1] (wz.alloc (.cells #[.int .i64 o1, .string s1, .int .i64 i1, .slice A1 m1 k1, .slice C1 n1 j1] 81)) _ from HIH.o x (List.mem_of_getElem? hx) 1 (aY fs 14 n true u (ks.take j)) kv2 _ _ zO (HT.o.under hal1 HBZ.o) (Nat.le_trans HBZ.o hal1.size) (HBWZ.o.trans (hal1.mono HBWZ.o.size)) hX1 (by have h1 := HSJ.o.2.2; have h2 := HSU.o.2.2; have h3 := HN.o; omega)); clear hx hX1 hal1 hbd
          go_wp2_with (go_at_call 32
                       (with_reducible refine HC.o.mono ?_); rintro e w8 ⟨rfl, ⟨kv8, ht8⟩, hk8⟩; obtain ⟨V8, rfl⟩ := zW w8; have HT8 := zH ht8; have HE8 := zH ((HE.o.trans ((au.of_below HAL.o HBZ.o).but H.mf)).trans hk8); clear ht8 hk8)
          go_roundg (ks.length - (j + 1))
          case measure => have := HK.o; omega
          case rel => exact ⟨j + 1, by omega, by go_num, ⟨kv8, by rw [HST.o]; exact HT8.o⟩, HE8.o⟩
        . have hje : j = ks.length := by omega
          subst hje; rw [List.take_length] at HT; go_wp2_with fail
          exact bodyPost_ret (results_none rfl _ _ _) rfl ⟨rfl, ⟨kv2, by rw [HQL.o]; exact HT.o⟩, HKL.o.trans HE.o⟩
     | none =>
       obtain ⟨u, hu⟩ : ∃ u, u = du fs 14 n nm ks.length t := ⟨_, rfl⟩; have HSU := zH (show ja t u (ks.length + 6) by rw [hu]; exact HSH.o); have HQL := zH (HQ.o.trans (by rw [hu]) : eM fs n t _ = aY fs _ n true u ks)
       have HUE := zH (show u = { (t.adds ks.length).adds n with funs := t.funs ++ [(nm, ⟨t.news ks.length, (t.adds ks.length).news n⟩)] } by
        rw [hu]; unfold du; rw [if_pos ⟨rfl, List.contains_iff_mem.1 hct, hg⟩])
       clear hu HSH; go_enter func32, ntmps32
       go_wp2_with (go_at_call 58
                    (with_reducible refine HCT.o.mono ?_); rintro e w1 ⟨rfl, hb1⟩; obtain ⟨V1, rfl⟩ := zW w1; have HTU := zH (HT0.o.under hb1 HB0.o); have HKL := zH (HK0.o.trans ((au.of_below hb1 HB0.o).but H.mf)); have HBL := zH (Nat.le_trans HB0.o hb1.size); have HBWL := zH (HBW.o.trans (hb1.mono HBW.o.size)); have BEL := zH ((hb1.block _ (ab BE.o)).trans BE.o); obtain ⟨p0, p1, p2, p3, p4⟩ := aW BEL.o; clear hb1)
       obtain ⟨_, _, c5, _, _⟩ := HTU.o.cellsAt; have hdr := (HTU.o.under (zB V1).drew HBL.o).funs.no hg HNM.o; have KT := zH (show (λ W : World => W.cell? ⟨H.N, 5, none⟩ = some (.map (some H.mf)) /\ W.cell? ⟨w.heap.size, 1, none⟩ = some (.string (str nm)) /\ (Instr.lookup 92 (.map (some H.mf)) (.string (str nm)) true).run prog W = .ok (.tuple #[.agg #[.slice none 0 0, .slice none 0 0, .slice none 0 0], .bool false]) W) V1.drew from ⟨c5, p1, hdr⟩); have hz0 := (zA V1 (.cells #[.slice none 0 0, .slice none 0 0, .slice none 0 0] 105)).drew; have ht0 := HTU.o.under hz0 HBL.o; have hl0 := ht0.funs.no hg HNM.o; obtain ⟨_, _, x50, _, _⟩ := ht0.cellsAt; obtain ⟨_, x10, _, _, x40⟩ := aW ((hz0.block _ (ab BEL.o)).trans BEL.o); have hz1 := (zA V1 (.cells #[.slice none 0 0, .slice none 0 0, .slice none 0 0] 105)).drew; have ht1 := HTU.o.under hz1 HBL.o; have hl1 := ht1.funs.no hg HNM.o; obtain ⟨_, _, x51, _, _⟩ := ht1.cellsAt; obtain ⟨_, x11, _, _, x41⟩ := aW ((hz1.block _ (ab BEL.o)).trans BEL.o); refine wp_region_held_drew (S := (λ W : World => W.cell? ⟨H.N, 5, none⟩ = some (.map (some H.mf)) /\ W.cell? ⟨w.heap.size, 1, none⟩ = some (.string (str nm)) /\ (Instr.lookup 92 (.map (some H.mf)) (.string (str nm)) true).run prog W = .ok (.tuple #[.agg #[.slice none 0 0, .slice none 0 0, .slice none 0 0], .bool false]) W)) zK ?_ (λ hHeld => ?_)
       . exact KT.o
       refine aa 0 ?_; refine aa 1 ?_; refine aa 2 ?_; refine aa 3 ?_; refine aa 4 ?_; refine aa 5 ?_; refine aa 6 ?_; refine aa 7 ?_; refine aa 8 ?_; refine aa 9 ?_; refine aq 10 zK rfl (λ K hK => ?_); go_simp
       refine hK.out _ _ (⟨x50, x10, hl0⟩) (λ hHeld => ?_); clear hK K; try simp only [Act.put, aO, aM, aN]
       refine aq 11 zK rfl (λ K hK => ?_); go_simp
       refine hK.out _ _ (⟨x51, x11, hl1⟩) (λ hHeld => ?_); clear hK K; try simp only [Act.put, aO, aM, aN]
       refine aa 12 ?_; refine wpAnyH_done zK ?_ _; have HTV := zH ht1; have HKV := zH (HKL.o.trans ((au.of_below hz1 HBL.o).but H.mf)); have HBV := zH (Nat.le_trans HBL.o hz1.size); have HBWV := zH (HBWL.o.trans (hz1.mono HBWL.o.size)); have BEV := zH ((hz1.block _ (ab BEL.o)).trans BEL.o); clear hz0 ht0 hl0 x50 x10 x40 hz1 ht1 hl1 x51 x11 x41 KT hdr c5 p0 p1 p2 p3 p4 hHeld HBWL BEL HKL HTU HBL; generalize (V1.alloc (.cells #[.slice none 0 0, .slice none 0 0, .slice none 0 0] 105)).drew = V2 at *; obtain ⟨p0, p1, p2, p3, p4⟩ := aW BEV.o; obtain ⟨_, _, c5, _, _⟩ := HTV.o.cellsAt; go_wp2_with fail
       have HTD := zH (HTV.o.under (zB V2).drew HBV.o); have HA1 := zH (nz (w := V2.drew) HTD.o HBV.o ks.length (by have := HN.o; omega)); have KT := zH (show (λ W : World => W.cell? ⟨H.N, 5, none⟩ = some (.map (some H.mf)) /\ W.cell? ⟨w.heap.size, 1, none⟩ = some (.string (str nm)) /\ W.cell? ⟨w.heap.size, 4, none⟩ = some (.slice Ak ks.length ck)) V2.drew from ⟨c5, p1, p4⟩); refine wp_region_held_drew (S := (λ W : World => W.cell? ⟨H.N, 5, none⟩ = some (.map (some H.mf)) /\ W.cell? ⟨w.heap.size, 1, none⟩ = some (.string (str nm)) /\ W.cell? ⟨w.heap.size, 4, none⟩ = some (.slice Ak ks.length ck))) zK ?_ (λ hHeld => ?_)
       . exact KT.o
       refine aa 0 ?_; refine aa 1 ?_; refine aa 2 ?_; refine aa 3 ?_; refine aa 4 ?_; refine aa 5 ?_; refine aa 6 ?_; refine aa 7 ?_; refine aa 8 ?_; refine aa 9 ?_; refine aa 11 ?_; refine aa 12 ?_; refine aq 10 zK rfl (λ K hK => ?_); go_simp
       (go_at_call 59
        (with_reducible refine HA1.o.mono ?_); rintro e w8 ⟨v8, rfl, ho8, ⟨kv8, ht8⟩, hk8⟩; obtain ⟨V8, rfl⟩ := zW w8; have hkd := (au.of_below (zB V2).drew HBV.o).trans hk8; have HB8 := zH (Nat.le_trans HBV.o hkd.below.size); have HK8 := zH (HKV.o.trans (hkd.but H.mf)); have HBW8 := zH (HBWV.o.trans (hkd.below.mono HWB.o)); have BE8 := zH (hkd.cells _ _ _ zD zD zD BEV.o); have HO8 := zH ho8; obtain ⟨_, _, y5, _, _⟩ := ht8.cellsAt; obtain ⟨_, y1, _, _, y4⟩ := aW BE8.o; have HA2 := zH (nz ht8 HB8.o n (by have := HN.o; have := HN6.o; rw [TSt.adds_n]; omega)); obtain ⟨A8, n8, c8, rfl, rfl⟩ := ho8.shape; clear ho8 ht8 hk8 hkd)
       refine hK.out _ _ (⟨y5, y1, y4⟩) (λ hHeld => ?_); clear hK K; try simp only [Act.put, aO, aM, aN]
       refine aq 13 zK rfl (λ K hK => ?_); go_simp
       (go_at_call 59
        (with_reducible refine HA2.o.mono ?_); rintro e w9 ⟨v9, rfl, ho9, ⟨kv9, ht9⟩, hk9⟩; obtain ⟨V9, rfl⟩ := zW w9; have HB9 := zH (Nat.le_trans HB8.o hk9.below.size); have HK9 := zH (HK8.o.trans (hk9.but H.mf)); have HBW9 := zH (HBW8.o.trans (hk9.below.mono HWB.o)); have BE9 := zH (hk9.cells _ _ _ zD zD zD BE8.o); have HO89 := zH (hk9.own HO8.o); have HO9 := zH ho9; have HT9 := zH ht9; obtain ⟨_, _, z5, _, _⟩ := ht9.cellsAt; obtain ⟨_, z1, _, _, z4⟩ := aW BE9.o; have hf9 : ((t.adds ks.length).adds n).funs = t.funs := (by rw [(TSt.adds_vars _ n).2.1, (TSt.adds_vars t ks.length).2.1]); obtain ⟨LF, hm9, hl9, hs9, hn9⟩ := ht9.funs.open_ (nm := nm) (by rw [hf9]; exact hg); rw [hf9] at hl9 hs9; have HM9 := zH hm9; have HL9 := zH hl9; have HS9 := zH hs9; have HN9 := zH hn9; obtain ⟨A9, n9, c9, rfl, rfl⟩ := ho9.shape; clear ho9 ht9 hk9 hm9 hl9 hs9 hn9 hf9)
       refine hK.out _ _ (⟨z5, z1, z4⟩) (λ hHeld => ?_); clear hK K; try simp only [Act.put, aO, aM, aN]
       refine aa 14 ?_; refine aq 15 zK rfl (λ K hK => ?_)
       (refine rV rfl _ _ _ 92 rfl underlying92 rfl rfl (v := .agg #[.slice none 0 0, .slice A8 (t.news ks.length).length c8, .slice A9 ((t.adds ks.length).news n).length c9]) rfl HM9.o HNM.o HN9.o ?_
        intro w6 hm6 hg6; obtain ⟨V6, rfl⟩ := zW w6; have hf9 : ((t.adds ks.length).adds n).funs = t.funs := (by rw [(TSt.adds_vars _ n).2.1, (TSt.adds_vars t ks.length).2.1]); obtain ⟨ht6, hk6⟩ := HT9.o.putF (s := ⟨t.news ks.length, (t.adds ks.length).news n⟩) hne hBF HM9.o hg6 hm6 (by rw [hf9]; exact HL9.o) (by rw [hf9]; exact HS9.o) ⟨_, _, rfl, HO89.o, HO9.o⟩; rw [hf9] at ht6; have HTL := zH (show aJ B V6 H kv9 u by rw [HUE.o]; exact ht6); have HKL := zH (HK9.o.trans hk6); have HBL := zH (Nat.le_trans HB9.o hk6.below.size); have HBWL := zH (HBW9.o.trans (hk6.below.mono HWB.o)); have BEL := zH (hk6.cells _ _ _ zD zD zD BE9.o); obtain ⟨_, _, u5, _, _⟩ := ht6.cellsAt; obtain ⟨_, u1, _, _, u4⟩ := aW BEL.o; clear ht6 hk6 hm6 hg6)
       refine hK.out _ _ ⟨u5, u1, u4⟩ (λ hHeld => ?_); clear hK K; try simp only [Act.put]
       refine wpAnyH_done zK ?_ _; clear KT c5 p0 p1 p2 p3 p4 hHeld; obtain ⟨p0, p1, p2, p3, p4⟩ := aW BEL.o; obtain ⟨kvL, hkvL⟩ : ∃ k, k = kv9 := ⟨_, rfl⟩; rw [<- hkvL] at HTL; go_wp2_with fail
       go_loopg [52] ks.length (λ g v wr => ∃ j : Nat, j + g = ks.length /\ v = .int .i64 j /\ (∃ kv', aJ B wr H kv' (aY fs 14 n true u (ks.take j))) /\ aE H.mf B V6 wr)
       case atStart => exact ⟨0, by omega, rfl, ⟨kvL, by simpa [aY] using HTL.o⟩, (au.refl _ _).but _⟩
       case round =>
        obtain ⟨j, hjg, rfl, ⟨kv2, hty⟩, hke⟩ := hrel; obtain ⟨wz, rfl⟩ := zW wr; have HK := zH hjg; have HT := zH hty; have HE := zH hke; have HBZ := zH (Nat.le_trans HBL.o hke.below.size); have hjl : j <= ks.length := zO; have HBWZ := zH (HBWL.o.trans (hke.below.mono HWB.o)); have BEZ := zH (hke.cells _ _ _ zD zD zD BEL.o); have HSJ := zH (gg fs 14 n HN6.o (ks.take j) true u); obtain ⟨p0, p1, p2, p3, p4⟩ := aW BEZ.o; clear hjg hty hke; by_cases hlt : j < ks.length
        . obtain ⟨x, hx⟩ := zG hlt; obtain ⟨L1, hE1, hX1⟩ := HKE.o j x hx; obtain ⟨o1, s1, i1, A1, m1, k1, C1, n1, j1, rfl⟩ := hX1.shape; obtain ⟨x1, ex1, _, _, d0, d1, d2, d3, d4⟩ := eh (hE1.under HBWZ.o); subst ex1; have hbd := fm ks j x hx; clear hE1; have hal1 := zA wz (.cells #[.int .i64 o1, .string s1, .int .i64 i1, .slice A1 m1 k1, .slice C1 n1 j1] 81); have HAL := zH hal1; obtain ⟨r0, _, _, _, _⟩ := aW (az (o := .cells #[.int .i64 o1, .string s1, .int .i64 i1, .slice A1 m1 k1, .slice C1 n1 j1] 81) BEZ.o)
          have HST := zH (show aY fs 14 n true u (ks.take (j + 1)) = eM fs 1 (aY fs 14 n true u (ks.take j)) x by
           obtain ⟨_, rfl⟩ := List.getElem?_eq_some_iff.1 hx; rw [List.take_succ_eq_append_getElem hlt, fj, if_neg (λ h => absurd h.1 zD)])
          have HC := zH (show Calls prog 32 #[.pointer (some ⟨H.N, 0, none⟩), .slice A fs.length c, .agg #[.int .i64 o1, .string s1, .int .i64 i1, .slice A1 m1 k1, .slice C1 n1 j1], .int .i64 1] (wz.alloc (.cells #[.int .i64 o1, .string s1, .int .i64 i1, .slice A1 m1 k1, .slice C1 n1 j1] 81)) _ from HIH.o x (List.mem_of_getElem? hx) 1 (aY fs 14 n true u (ks.take j)) kv2 _ _ zO (HT.o.under hal1 HBZ.o) (Nat.le_trans HBZ.o hal1.size) (HBWZ.o.trans (hal1.mono HBWZ.o.size)) hX1 (by have h1 := HSJ.o.2.2; have h2 := HSU.o.2.2; have h3 := HN.o; omega)); clear hx hX1 hal1 hbd
          go_wp2_with (go_at_call 32
                       (with_reducible refine HC.o.mono ?_); rintro e w8 ⟨rfl, ⟨kv8, ht8⟩, hk8⟩; obtain ⟨V8, rfl⟩ := zW w8; have HT8 := zH ht8; have HE8 := zH ((HE.o.trans ((au.of_below HAL.o HBZ.o).but H.mf)).trans hk8); clear ht8 hk8)
          go_roundg (ks.length - (j + 1))
          case measure => have := HK.o; omega
          case rel => exact ⟨j + 1, by omega, by go_num, ⟨kv8, by rw [HST.o]; exact HT8.o⟩, HE8.o⟩
        . have hje : j = ks.length := by omega
          subst hje; rw [List.take_length] at HT; go_wp2_with fail
          exact bodyPost_ret (results_none rfl _ _ _) rfl ⟨rfl, ⟨kv2, by rw [HQL.o]; exact HT.o⟩, HKL.o.trans HE.o⟩
 . have q14 : (op == 14) = false := by simpa using h14
   have HHE := zH (show du fs op n nm ks.length t = t by
    unfold du; rw [if_neg (λ h => h14 h.1)])
   clear HSH HCT; obtain ⟨u, hu⟩ : ∃ u, u = t := ⟨_, rfl⟩; have HSU := zH (show ja t u (ks.length + 6) by rw [hu]; exact ⟨rfl, rfl, Nat.le_add_right _ _⟩); have HQL := zH (HQ.o.trans (by rw [HHE.o, hu]) : eM fs n t _ = aY fs _ n true u ks); have HTL := zH (show aJ B _ H kv u by rw [hu]; exact HT0.o); obtain ⟨kvL, hkvL⟩ : ∃ k, k = kv := ⟨_, rfl⟩; rw [<- hkvL] at HTL; have HBL := HB0; have HBWL := HBW; have BEL := BE; have HKL := HK0; obtain ⟨p0, p1, p2, p3, p4⟩ := aW BEL.o
   by_cases h15 : op = 15
   . subst h15
     go_enter func32, ntmps32
     go_wp2_with fail
     generalize w.alloc (.cells #[.int .i64 15, .string (str nm), .int .i64 m, .slice Ac ncs cc, .slice Ak ks.length ck] 81) = V0 at *
     go_loopg [52] ks.length (λ g v wr => ∃ j : Nat, j + g = ks.length /\ v = .int .i64 j /\ (∃ kv', aJ B wr H kv' (aY fs 15 n true u (ks.take j))) /\ aE H.mf B V0 wr)
     case atStart => exact ⟨0, by omega, rfl, ⟨kvL, by simpa [aY] using HTL.o⟩, (au.refl _ _).but _⟩
     case round =>
      obtain ⟨j, hjg, rfl, ⟨kv2, hty⟩, hke⟩ := hrel
      obtain ⟨wz, rfl⟩ := zW wr
      have HK := zH hjg
      have HT := zH hty
      have HE := zH hke
      have HBZ := zH (Nat.le_trans HBL.o hke.below.size)
      have hjl : j <= ks.length := by omega
      have HBWZ := zH (HBWL.o.trans (hke.below.mono HWB.o))
      have BEZ := zH (hke.cells _ _ _ zD zD zD BEL.o)
      have HSJ := zH (gg fs 15 n HN6.o (ks.take j) true u)
      obtain ⟨p0, p1, p2, p3, p4⟩ := aW BEZ.o
      clear hjg hty hke
      by_cases hlt : j < ks.length
      . obtain ⟨x, hx⟩ := zG hlt
        obtain ⟨L1, hE1, hX1⟩ := HKE.o j x hx
        obtain ⟨o1, s1, i1, A1, m1, k1, C1, n1, j1, rfl⟩ := hX1.shape
        obtain ⟨x1, ex1, _, _, d0, d1, d2, d3, d4⟩ := eh (hE1.under HBWZ.o)
        subst ex1
        have hbd := fm ks j x hx
        clear hE1
        by_cases hj0 : j = 0
        . subst hj0
          simp only [Nat.zero_mul, add_zero] at d0 d1 d2 d3 d4
          have hal1 := zA wz (.cells #[.int .i64 o1, .string s1, .int .i64 i1, .slice A1 m1 k1, .slice C1 n1 j1] 81)
          have HAL := zH hal1
          obtain ⟨r0, _, _, _, _⟩ := aW (az (o := .cells #[.int .i64 o1, .string s1, .int .i64 i1, .slice A1 m1 k1, .slice C1 n1 j1] 81) BEZ.o)
          have HST := zH (show aY fs 15 n true u (ks.take (0 + 1)) = eM fs n (aY fs 15 n true u (ks.take 0)) x by
           obtain ⟨_, rfl⟩ := List.getElem?_eq_some_iff.1 hx
           rw [List.take_succ_eq_append_getElem hlt, fj, if_pos ⟨rfl, rfl, List.take_zero⟩])
          have HC := zH (show Calls prog 32 #[.pointer (some ⟨H.N, 0, none⟩), .slice A fs.length c, .agg #[.int .i64 o1, .string s1, .int .i64 i1, .slice A1 m1 k1, .slice C1 n1 j1], .int .i64 (n : Int)] (wz.alloc (.cells #[.int .i64 o1, .string s1, .int .i64 i1, .slice A1 m1 k1, .slice C1 n1 j1] 81)) _ from HIH.o x (List.mem_of_getElem? hx) n (aY fs 15 n true u (ks.take 0)) kv2 _ _ HN6.o (HT.o.under hal1 HBZ.o) (Nat.le_trans HBZ.o hal1.size) (HBWZ.o.trans (hal1.mono HBWZ.o.size)) hX1 (by have h1 := HSJ.o.2.2; have h2 := HSU.o.2.2; have h3 := HN.o; omega))
          clear hx hX1 hal1 hbd
          go_wp2_with (go_at_call 32
                       (with_reducible refine HC.o.mono ?_)
                       rintro e w8 ⟨rfl, ⟨kv8, ht8⟩, hk8⟩
                       obtain ⟨V8, rfl⟩ := zW w8
                       have HT8 := zH ht8
                       have HE8 := zH ((HE.o.trans ((au.of_below HAL.o HBZ.o).but H.mf)).trans hk8)
                       clear ht8 hk8)
          go_roundg (ks.length - (0 + 1))
          case measure => have := HK.o; omega
          case rel => exact ⟨0 + 1, by omega, by go_num, ⟨kv8, by rw [HST.o]; exact HT8.o⟩, HE8.o⟩
        . have hj1 : ((j : Int) == 0) = false := by simpa using hj0
          have hal1 := zA wz (.cells #[.int .i64 o1, .string s1, .int .i64 i1, .slice A1 m1 k1, .slice C1 n1 j1] 81)
          have HAL := zH hal1
          obtain ⟨r0, _, _, _, _⟩ := aW (az (o := .cells #[.int .i64 o1, .string s1, .int .i64 i1, .slice A1 m1 k1, .slice C1 n1 j1] 81) BEZ.o)
          have HST := zH (show aY fs 15 n true u (ks.take (j + 1)) = eM fs 1 (aY fs 15 n true u (ks.take j)) x by
           obtain ⟨_, rfl⟩ := List.getElem?_eq_some_iff.1 hx
           rw [List.take_succ_eq_append_getElem hlt, fj, if_neg (λ h => hj0 (by have h1 := congrArg List.length h.2.2; rw [List.length_take, List.length_nil] at h1; omega))])
          have HC := zH (show Calls prog 32 #[.pointer (some ⟨H.N, 0, none⟩), .slice A fs.length c, .agg #[.int .i64 o1, .string s1, .int .i64 i1, .slice A1 m1 k1, .slice C1 n1 j1], .int .i64 1] (wz.alloc (.cells #[.int .i64 o1, .string s1, .int .i64 i1, .slice A1 m1 k1, .slice C1 n1 j1] 81)) _ from HIH.o x (List.mem_of_getElem? hx) 1 (aY fs 15 n true u (ks.take j)) kv2 _ _ zO (HT.o.under hal1 HBZ.o) (Nat.le_trans HBZ.o hal1.size) (HBWZ.o.trans (hal1.mono HBWZ.o.size)) hX1 (by have h1 := HSJ.o.2.2; have h2 := HSU.o.2.2; have h3 := HN.o; omega))
          clear hx hX1 hal1 hbd
          go_wp2_with (go_at_call 32
                       (with_reducible refine HC.o.mono ?_)
                       rintro e w8 ⟨rfl, ⟨kv8, ht8⟩, hk8⟩
                       obtain ⟨V8, rfl⟩ := zW w8
                       have HT8 := zH ht8
                       have HE8 := zH ((HE.o.trans ((au.of_below HAL.o HBZ.o).but H.mf)).trans hk8)
                       clear ht8 hk8)
          go_roundg (ks.length - (j + 1))
          case measure => have := HK.o; omega
          case rel => exact ⟨j + 1, by omega, by go_num, ⟨kv8, by rw [HST.o]; exact HT8.o⟩, HE8.o⟩
      . have hje : j = ks.length := by omega
        subst hje
        rw [List.take_length] at HT
        go_wp2_with fail
        exact bodyPost_ret (results_none rfl _ _ _) rfl ⟨rfl, ⟨kv2, by rw [HQL.o]; exact HT.o⟩, HKL.o.trans HE.o⟩
   . have q15 : (op == 15) = false := by simpa using h15
     go_enter func32, ntmps32
     go_wp2_with fail
     generalize w.alloc (.cells #[.int .i64 op, .string (str nm), .int .i64 m, .slice Ac ncs cc, .slice Ak ks.length ck] 81) = V0 at *
     go_loopg [52] ks.length (λ g v wr => ∃ j : Nat, j + g = ks.length /\ v = .int .i64 j /\ (∃ kv', aJ B wr H kv' (aY fs op n true u (ks.take j))) /\ aE H.mf B V0 wr)
     case atStart => exact ⟨0, by omega, rfl, ⟨kvL, by simpa [aY] using HTL.o⟩, (au.refl _ _).but _⟩
     case round =>
      obtain ⟨j, hjg, rfl, ⟨kv2, hty⟩, hke⟩ := hrel
      obtain ⟨wz, rfl⟩ := zW wr
      have HK := zH hjg
      have HT := zH hty
      have HE := zH hke
      have HBZ := zH (Nat.le_trans HBL.o hke.below.size)
      have hjl : j <= ks.length := by omega
      have HBWZ := zH (HBWL.o.trans (hke.below.mono HWB.o))
      have BEZ := zH (hke.cells _ _ _ zD zD zD BEL.o)
      have HSJ := zH (gg fs op n HN6.o (ks.take j) true u)
      obtain ⟨p0, p1, p2, p3, p4⟩ := aW BEZ.o
      clear hjg hty hke
      by_cases hlt : j < ks.length
      . obtain ⟨x, hx⟩ := zG hlt
        obtain ⟨L1, hE1, hX1⟩ := HKE.o j x hx
        obtain ⟨o1, s1, i1, A1, m1, k1, C1, n1, j1, rfl⟩ := hX1.shape
        obtain ⟨x1, ex1, _, _, d0, d1, d2, d3, d4⟩ := eh (hE1.under HBWZ.o)
        subst ex1
        have hbd := fm ks j x hx
        clear hE1
        have hal1 := zA wz (.cells #[.int .i64 o1, .string s1, .int .i64 i1, .slice A1 m1 k1, .slice C1 n1 j1] 81)
        have HAL := zH hal1
        obtain ⟨r0, _, _, _, _⟩ := aW (az (o := .cells #[.int .i64 o1, .string s1, .int .i64 i1, .slice A1 m1 k1, .slice C1 n1 j1] 81) BEZ.o)
        have HST := zH (show aY fs op n true u (ks.take (j + 1)) = eM fs 1 (aY fs op n true u (ks.take j)) x by
         obtain ⟨_, rfl⟩ := List.getElem?_eq_some_iff.1 hx
         rw [List.take_succ_eq_append_getElem hlt, fj, if_neg (λ h => h15 h.1)])
        have HC := zH (show Calls prog 32 #[.pointer (some ⟨H.N, 0, none⟩), .slice A fs.length c, .agg #[.int .i64 o1, .string s1, .int .i64 i1, .slice A1 m1 k1, .slice C1 n1 j1], .int .i64 1] (wz.alloc (.cells #[.int .i64 o1, .string s1, .int .i64 i1, .slice A1 m1 k1, .slice C1 n1 j1] 81)) _ from HIH.o x (List.mem_of_getElem? hx) 1 (aY fs op n true u (ks.take j)) kv2 _ _ zO (HT.o.under hal1 HBZ.o) (Nat.le_trans HBZ.o hal1.size) (HBWZ.o.trans (hal1.mono HBWZ.o.size)) hX1 (by have h1 := HSJ.o.2.2; have h2 := HSU.o.2.2; have h3 := HN.o; omega))
        clear hx hX1 hal1 hbd
        go_wp2_with (go_at_call 32
                     (with_reducible refine HC.o.mono ?_)
                     rintro e w8 ⟨rfl, ⟨kv8, ht8⟩, hk8⟩
                     obtain ⟨V8, rfl⟩ := zW w8
                     have HT8 := zH ht8
                     have HE8 := zH ((HE.o.trans ((au.of_below HAL.o HBZ.o).but H.mf)).trans hk8)
                     clear ht8 hk8)
        go_roundg (ks.length - (j + 1))
        case measure => have := HK.o; omega
        case rel => exact ⟨j + 1, by omega, by go_num, ⟨kv8, by rw [HST.o]; exact HT8.o⟩, HE8.o⟩
      . have hje : j = ks.length := by omega
        subst hje
        rw [List.take_length] at HT
        go_wp2_with fail
        exact bodyPost_ret (results_none rfl _ _ _) rfl ⟨rfl, ⟨kv2, by rw [HQL.o]; exact HT.o⟩, HKL.o.trans HE.o⟩
end
end Go.Proofs.YtiholfmmphcbeaaGreatDoor
