import Derived.Test.YtiholfmmphcbeaaGreatDoorKm42
import Derived.Test.YtiholfmmphcbeaaGreatDoorKm44
set_option maxHeartbeats 8000000
set_option maxRecDepth 100000
namespace Go.Proofs.YtiholfmmphcbeaaGreatDoor
open _root_.Go.Proofs.Tryz
open Go.RowKit
theorem wW (s : Tx) (l : List Tx) : ∀ t : TSt, cz t (l ++ [s]) = { (cz t l).add with vars := (cz t l).vars ++ [(s, ((cz t l).ks.n : Int))] } := by
 induction l with
 | nil => intro t; rfl
 | cons x r ih => intro t; rw [List.cons_append, cz, ih]; rfl
theorem pz (l : List Tx) : ∀ t : TSt, (cz t l).vars.map Prod.fst = t.vars.map Prod.fst ++ l /\ (cz t l).funs = t.funs /\ (cz t l).ref = t.ref /\ (cz t l).ks.n = t.ks.n + l.length := by
 induction l with
 | nil => intro t; exact ⟨by simp [cz], rfl, rfl, rfl⟩
 | cons x r ih =>
   intro t; rw [cz]; obtain ⟨h1, h2, h3, h4⟩ := ih { t.add with vars := t.vars ++ [(x, (t.ks.n : Int))] }; refine ⟨?_, h2, h3, ?_⟩
   . rw [h1]; simp
   . rw [h4]; show t.ks.n + 1 + _ = _; rw [List.length_cons]; omega
def dJ (l : List bf) : List Ex := l.map λ i => i.eq.e
theorem sP {l : List bf} {j : Nat} {i : bf} (h : l[j]? = some i) : (dJ l)[j]? = some i.eq.e := by simp [dJ, h]
theorem yC (l : List bf) (j : Nat) : dJ (l.take j) = (dJ l).take j := by simp [dJ, List.map_take]
def eN (fs : List Tx) (t : TSt) (l : List bf) : TSt := l.foldl (λ t i => eM fs i.eq.names.length t i.eq.e) t
theorem yy (fs : List Tx) (t : TSt) (l : List bf) (i : bf) : eN fs t (l ++ [i]) = eM fs i.eq.names.length (eN fs t l) i.eq.e := by simp [eN]
theorem yx (fs : List Tx) (l : List bf) : ∀ t : TSt, (∀ i ∈ l, i.eq.names.length <= 6) -> ja t (eN fs t l) (dv (dJ l)) := by
 induction l with
 | nil => intro t _; exact ⟨rfl, rfl, Nat.le_add_right _ _⟩
 | cons i r ih =>
   intro t hl; exact (qr fs i.eq.e t _ (hl i (by simp))).trans (ih _ (λ k hk => hl k (by simp [hk]))) (Nat.le_refl _)
theorem ax.len {w : World} {b : Nat} {l : List (Tx × Value)} {t e ty : TypeId} (h : ax w b l) (ht : prog.underlying t = some (.map 9 e)) : (Builtin.len_ #[t] ty #[.map (some b)]).run prog w = .ok (.int .i64 l.length) w := by
 obtain ⟨es, clock, hb, he, _⟩ := h; have hl : es.size = l.length := by
  have := congrArg List.length he; simpa using this
 have := run_len_map (P := prog) w t ty b es clock (by rw [ht]; simp [Program.mapKeyOf, Program.mapElemOf, ht]) hb; rw [this, hl]; rfl
section
variable {B : Nat} {w w0 : World} {H : TyH} {kv : Value} {t : TSt}
theorem aJ.putV {w' : World} {s : Tx} {a : Int} (h : aJ B w H kv t) (hne : H.mv ≠ H.mf) (hBV : B <= H.mv) (hg : w.grownBy w' (some H.mv)) (hM' : ax w' H.mv (lB t.vars ++ [(s, .int .i64 a)])) : aJ B w' H kv { t with vars := t.vars ++ [(s, a)] } /\ aE H.mv B w w' := by
 have hk : aE H.mv B w w' := vK h.vars hBV hg; obtain ⟨es, c, hb, _⟩ := h.vars; refine ⟨⟨(hg.block _ (ab h.box) (λ e => by injection e with e; have := h.box; rw [e, hb] at this; cases this)).trans h.box, ?_, h.low, by simpa [lB] using hM', hk.funsAt hne.symm h.funs⟩, hk⟩; refine h.knot.kept (M := λ b => some H.mv = some b) (ba.of_grown hg λ k e => e) λ b hf e => ?_; injection e with e; subst e; obtain ⟨cs, h3 | h3⟩ := h.knot.foot hf <;> (rw [hb] at h3; cases h3)
theorem wV (l : List (Tx × Int)) : (lB l).map Prod.fst = l.map Prod.fst := by simp [lB]
theorem cF.keepF {F C : Nat} {w' : World} {v : Value} {l : List Tx} (h : aE F B w w') (hO : cF C w v l) : cF C w' v l := hO.keep λ g o hg ho => by
 obtain ⟨_, cur, hc⟩ := hO.block hg
 rw [hc] at ho
 cases ho
 exact h.cells g cur _ zD zD zD hc
theorem xh {made : Bool} {fs : List Tx} {A : Option Addr} {c : Nat} (hne : H.mv ≠ H.mf) (hBF : B <= H.mf) (hwB : w0.heap.size <= B) (hCt : ∀ (s : Tx) (W : World), Below w0.heap.size w0 W -> Calls prog 58 #[.slice A fs.length c, .string (str s)] W (ar (fs.contains s) W)) : ∀ x : Ex, bI made x = true -> EP B H w0 (.slice A fs.length c) fs x := by
 refine Ex.ind λ op nm m cs ks ih => ?_; intro hr; rw [bI, Bool.and_eq_true] at hr; have hs := iU hr.1; exact uD hne hBF hwB hCt op nm m cs ks (by have := hs.kids8; omega) λ k hk => ih k hk (ga hr.2 k hk)
def qZ (B : Nat) (H : TyH) (r : TSt ⊕ Int) (W : World) (e : Ending) (w' : World) : Prop :=
 Below B W w' /\ match r with
  | .inl t' => e = .returned (.tuple #[.int .i64 0, .bool true]) /\ ∃ kv', aJ B w' H kv' t'
  | .inr b => e = .returned (.tuple #[.int .i64 b, .bool false])
theorem xe {cx : TCx} {D : Nat} {n : aA} {L : List Value} (h : aJ B w H kv TSt.new) (hB : B <= w.heap.size) (hb : Below w0.heap.size w0 w) (hwB : w0.heap.size <= B) (hne : H.mv ≠ H.mf) (hBV : B <= H.mv) (hBF : B <= H.mf) (hL : bS w0 L n)
  (hV : ∀ W, Below w0.heap.size w0 W -> Calls prog 30 #[.agg L.toArray] W (λ e w' => ∃ v, e = .returned v /\ cF W.heap.size w' v (aG n) /\ Below W.heap.size W w')) (hnd : (aG n).Nodup)
  (hS : lZ H cx.sig D w0) (hC : oL H cx.con w0) (hcb : ∀ c, cx.con c < 9223372036854775808) (hT : ∀ nm k, iI nm k) (hCt : ∀ (A : Option Addr) (c : Nat), aF w0 (.slice A n.funs.length c) n.funs -> ∀ (s : Tx) (W : World), Below w0.heap.size w0 W -> Calls prog 58 #[.slice A n.funs.length c, .string (str s)] W (ar (n.funs.contains s) W))
  (h6 : ∀ i ∈ n.items, i.eq.names.length <= 6) (hri : ∀ i ∈ n.items, bI true i.eq.e = true) (hok : ¬ (eN n.funs (cz .new (aG n)) n.items).funs.length < n.funs.length -> ∀ i ∈ n.items, okX (eN n.funs (cz .new (aG n)) n.items).funs cx.sig i.eq.e)
  (hlen : ∀ i ∈ n.items, ∀ t : TSt, (dA cx t i.eq.names.length i.eq.e).2.length <= i.eq.names.length) (hfl : n.funs.length <= 6) (hn : (aG n).length + dv (dJ n.items) + bQ D (dJ n.items) < 4194303) :
  Calls prog 14 #[.pointer (some ⟨H.N, 0, none⟩), .agg L.toArray] w (qZ B H (jk cx n) w) := by
 obtain ⟨fv, iv, ov, xv, rfl, hnm, hfu, hin, hou, hit⟩ := hL; obtain ⟨Af, cf, rfl, hfc, hfm, hfe⟩ := hfu; have HCT := zH (hCt Af cf ⟨Af, cf, rfl, hfc, hfm, hfe⟩); obtain ⟨Ai, ni, ci, rfl⟩ := ak.shape hin; obtain ⟨Ao, no, co, rfl⟩ := ak.shape hou; obtain ⟨Ax, cx', rfl, hxc, hxm, hxe⟩ := hit; have hil : n.items.length <= 9223372036854775807 := (by unfold maxLen at hxm; omega); have hal := zA w (.cells #[.string (str n.name), .slice Af n.funs.length cf, .slice Ai ni ci, .slice Ao no co, .slice Ax n.items.length cx'] 53); have HVC := zH (hV _ (hb.trans (hal.mono hb.size))); have HBW := zH (hb.trans (hal.mono hb.size)); have HB0 := zH (Nat.le_trans hB hal.size); have HK0 := zH (au.of_below hal hB); have HT0 := zH (h.under hal hB); have BE := zH (heap_alloc_new w (.cells #[.string (str n.name), .slice Af n.funs.length cf, .slice Ai ni ci, .slice Ao no co, .slice Ax n.items.length cx'] 53)); have HXE := zH hxe; have HN := zH hn; have HWB := zH hwB; have HND := zH hnd; have HS := zH hS; have HC := zH hC; have HCB := zH hcb; have HTK := zH hT; have H6 := zH h6; have HRI := zH hri; have HOK := zH hok; have HLEN := zH hlen; have HQ := zH (show jk cx n = if (eN n.funs (cz .new (aG n)) n.items).funs.length < n.funs.length then .inr (-1) else eE cx 0 (eN n.funs (cz .new (aG n)) n.items) n.items from rfl); have hfl2 : n.funs.length <= 9223372036854775807 := zO; have hvl : (aG n).length <= 9223372036854775807 := zO; clear h hB hb hwB hV hnd hS hC hcb hT h6 hri hok hlen hn hal hxe hxc hxm hin hou hfc hfm hfe hnm hCt hfl; go_enter func14, ntmps14
 go_wp2_with (go_at_call 30
              (with_reducible refine HVC.o.mono ?_); rintro e w1 ⟨v1, rfl, ho1, hb1⟩; obtain ⟨V1, rfl⟩ := zW w1; have HT1 := zH (HT0.o.under hb1 HB0.o); have HK1 := zH (HK0.o.trans (au.of_below hb1 HB0.o)); have HB1 := zH (Nat.le_trans HB0.o hb1.size); have HBW1 := zH (HBW.o.trans (hb1.mono HBW.o.size)); have BE1 := zH ((hb1.block _ (ab BE.o)).trans BE.o); have HO1 := zH ho1; obtain ⟨A1, n1, c1, rfl, rfl⟩ := ho1.shape; clear ho1 hb1)
 go_loopg [15] (aG n).length (λ g v wr => ∃ j : Nat, j + g = (aG n).length /\ v = .int .i64 j /\ (∃ kv', aJ B wr H kv' (cz .new ((aG n).take j))) /\ aE H.mv B V1 wr)
 case atStart => exact ⟨0, by omega, rfl, ⟨kv, by simpa [cz] using HT1.o⟩, (au.refl _ _).but _⟩
 case round =>
  obtain ⟨j, hjg, rfl, ⟨kv2, hty⟩, hke⟩ := hrel; obtain ⟨wz, rfl⟩ := zW wr; have HK := zH hjg; have HT := zH hty; have HE := zH hke; have HBZ := zH (Nat.le_trans HB1.o hke.below.size); have hjl : j <= (aG n).length := zO; have HVI := zH (pz ((aG n).take j) TSt.new); have BEZ := zH (hke.cells _ _ _ zD zD zD BE1.o); have HOZ := zH (cF.keepF hke HO1.o); have HBWZ := zH (HBW1.o.trans (hke.below.mono HWB.o)); clear hjg hty hke; by_cases hlt : j < (aG n).length
  . obtain ⟨s, hs⟩ := zG hlt; obtain ⟨As, cs', es, _, _, hse⟩ := HOZ.o.strs; injection es with es1 _ es3; subst es1 es3; obtain ⟨L9, hE9, rfl, hsl⟩ := hse j s hs; obtain ⟨a9, ea9, _, _, q9⟩ := dL hE9; subst ea9; rw [Nat.mul_one] at q9; have HSL := zH hsl; obtain ⟨c3, c4, _, _, _⟩ := HT.o.cellsAt; have HD := zH (HT.o.under (zB wz).drew HBZ.o); have hnl : (cz .new ((aG n).take j)).ks.n < 4194303 := by
     have h1 := HVI.o.2.2.2; have h2 := HN.o; rw [h1, List.length_take]; show 0 + _ < _; omega
    have HA := zH (pq HD.o.knot hnl HBZ.o)
    have HNI := zH (show s ∉ (lB (cz .new ((aG n).take j)).vars).map Prod.fst by
     rw [wV, HVI.o.1]; show s ∉ [] ++ _; rw [List.nil_append, <- List.contains_iff_mem, Bool.not_eq_true]; exact xV HND.o hs)
    have HST := zH (show cz .new ((aG n).take (j + 1)) = { (cz .new ((aG n).take j)).add with vars := (cz .new ((aG n).take j)).vars ++ [(s, ((cz .new ((aG n).take j)).ks.n : Int))] } by
     obtain ⟨_, rfl⟩ := List.getElem?_eq_some_iff.1 hs; rw [List.take_succ_eq_append_getElem hlt, wW])
    have KT := zH (show (λ W : World => W.cell? ⟨H.N, 3, none⟩ = some (.pointer (some ⟨H.k, 0, none⟩)) /\ W.cell? ⟨H.N, 4, none⟩ = some (.map (some H.mv))) wz.drew from ⟨c3, c4⟩); clear hs hse hE9 hsl hnl; generalize cz .new ((aG n).take j) = u at HT HD HA HNI HST HVI; go_wp2_with fail
    refine wp_region_held_drew (S := (λ W : World => W.cell? ⟨H.N, 3, none⟩ = some (.pointer (some ⟨H.k, 0, none⟩)) /\ W.cell? ⟨H.N, 4, none⟩ = some (.map (some H.mv)))) zK ?_ (λ hHeld => ?_)
    . exact KT.o
    refine aa 0 ?_; refine aa 1 ?_; refine aa 2 ?_; refine aa 3 ?_; refine aa 4 ?_; refine aa 5 ?_; refine aa 6 ?_; refine aa 7 ?_; refine aa 8 ?_; refine aq 9 zK rfl (λ K hK => ?_); go_simp
    (go_at_call 31
     (with_reducible refine HA.o.mono ?_); rintro e w8 ⟨rfl, hm8⟩; obtain ⟨V8, rfl⟩ := zW w8; obtain ⟨kv8, ht8⟩ := HD.o.moved hm8 HBZ.o; have HK8 := zH ((au.of_below (zB wz).drew HBZ.o).trans (hm8.kept HD.o.knot HBZ.o)); have HT8 := zH (show aJ B V8 H kv8 u.add from ht8); obtain ⟨d3, d4, _, _, _⟩ := ht8.cellsAt; clear hm8 ht8)
    refine hK.out _ _ (⟨d3, d4⟩) (λ hHeld => ?_); clear hK K; try simp only [Act.put, aO, aM, aN]
    refine aq 10 zK rfl (λ K hK => ?_)
    (refine rV rfl _ _ _ 91 rfl underlying91 rfl rfl (v := .int .i64 (u.ks.n : Int)) rfl HT8.o.vars HSL.o HNI.o ?_
     intro w6 hm6 hg6; obtain ⟨V6, rfl⟩ := zW w6; have HP6 := zH (HT8.o.putV hne hBV hg6 hm6); obtain ⟨u3, u4, _, _, _⟩ := HP6.o.1.cellsAt; clear hm6 hg6)
    refine hK.out _ _ ⟨u3, u4⟩ (λ hHeld => ?_); clear hK K; try simp only [Act.put]
    refine wpAnyH_done zK ?_ _; clear KT; go_wp2_with fail
    go_roundg ((aG n).length - (j + 1))
    case measure => have := HK.o; omega
    case rel => exact ⟨j + 1, by omega, by go_num, ⟨kv8, by rw [HST.o]; exact HP6.o.1⟩, (HE.o.trans (HK8.o.but H.mv)).trans HP6.o.2⟩
  . have hje : j = (aG n).length := by omega
    subst hje; rw [List.take_length] at HT HVI; have HN1 := zH (show (cz .new (aG n)).ks.n = (aG n).length from by have := HVI.o.2.2.2; rw [this]; show 0 + _ = _; omega); obtain ⟨u1, hu1⟩ : ∃ u1, u1 = cz .new (aG n) := ⟨_, rfl⟩; rw [<- hu1] at HT HN1 HOK HQ; obtain ⟨_, _, _, _, p4⟩ := aW BEZ.o; clear HVI hu1 hvl; go_wp2_with fail
    go_loopg [33] n.items.length (λ g v wr => ∃ j : Nat, j + g = n.items.length /\ v = .int .i64 j /\ (∃ kv', aJ B wr H kv' (eN n.funs u1 (n.items.take j))) /\ aE H.mf B wz wr)
    case atStart => exact ⟨0, by omega, rfl, ⟨kv2, by simpa [eN] using HT.o⟩, (au.refl _ _).but _⟩
    case round =>
     obtain ⟨j, hjg, rfl, ⟨kv3, hty⟩, hke⟩ := hrel; obtain ⟨wy, rfl⟩ := zW wr; have HK2 := zH hjg; have HT2 := zH hty; have HE2 := zH hke; have HBY := zH (Nat.le_trans HBZ.o hke.below.size); have hjl : j <= n.items.length := zO; have BEY := zH (hke.cells _ _ _ zD zD zD BEZ.o); have HBWY := zH (HBWZ.o.trans (hke.below.mono HWB.o)); have HFS := zH (yx n.funs (n.items.take j) u1 (λ i hi => H6.o i (List.mem_of_mem_take hi))); clear hjg hty hke; by_cases hlt : j < n.items.length
     . obtain ⟨i, hi⟩ := zG hlt; have him := List.mem_of_getElem? hi; obtain ⟨L9, hE9, L8, sv, rfl, ⟨nv, L7, rfl, hnv, hX7⟩, hsv⟩ := HXE.o j i hi; obtain ⟨An, cn, rfl, hnc, hnm, hne9⟩ := hnv; obtain ⟨o0, s0, i0, A0, m0, k0, C0, n0, j0, rfl⟩ := hX7.shape; obtain ⟨As, ns, cs, rfl⟩ := ak.shape hsv; have hnl : i.eq.names.length <= 9223372036854775807 := (by unfold maxLen at hnm; omega); obtain ⟨x1, ex1, _, _, d0, d1, d2, d3, d4, d5, d6⟩ := ox (hE9.under HBWY.o); subst ex1; have hbd := fm (dJ n.items) j i.eq.e (sP hi)
       have HST := zH (show eN n.funs u1 (n.items.take (j + 1)) = eM n.funs i.eq.names.length (eN n.funs u1 (n.items.take j)) i.eq.e by
        obtain ⟨_, rfl⟩ := List.getElem?_eq_some_iff.1 hi; rw [List.take_succ_eq_append_getElem hlt, yy])
       have hal1 := zA wy (.cells #[.slice An i.eq.names.length cn, .int .i64 o0, .string s0, .int .i64 i0, .slice A0 m0 k0, .slice C0 n0 j0, .slice As ns cs] 86); have HAL := zH hal1; obtain ⟨_, e1, _, _, _⟩ := aW (az (o := .cells #[.slice An i.eq.names.length cn, .int .i64 o0, .string s0, .int .i64 i0, .slice A0 m0 k0, .slice C0 n0 j0, .slice As ns cs] 86) BEY.o); obtain ⟨b0, b1, b2, b3, b4, b5, b6⟩ := rm (heap_alloc_new wy (.cells #[.slice An i.eq.names.length cn, .int .i64 o0, .string s0, .int .i64 i0, .slice A0 m0 k0, .slice C0 n0 j0, .slice As ns cs] 86)); have HCX := zH (xh hne hBF HWB.o HCT.o i.eq.e (HRI.o i him) i.eq.names.length (eN n.funs u1 (n.items.take j)) kv3 _ _ (H6.o i him) (HT2.o.under hal1 HBY.o) (Nat.le_trans HBY.o hal1.size) (HBWY.o.trans (hal1.mono HBWY.o.size)) hX7 (by have h1 := HFS.o.2.2; have h2 := HN1.o; have h3 := HN.o; rw [yC] at h1; omega)); clear hi him hE9 hX7 hsv hne9 hnc hnm hbd hal1
       go_wp2_with (go_at_call 32
                    (with_reducible refine HCX.o.mono ?_); rintro e w8 ⟨rfl, ⟨kv8, ht8⟩, hk8⟩; obtain ⟨V8, rfl⟩ := zW w8; have HT8 := zH ht8; have HE8 := zH ((HE2.o.trans ((au.of_below HAL.o HBY.o).but H.mf)).trans hk8); clear ht8 hk8)
       go_roundg (n.items.length - (j + 1))
       case measure => have := HK2.o; omega
       case rel => exact ⟨j + 1, by omega, by go_num, ⟨kv8, by rw [HST.o]; exact HT8.o⟩, HE8.o⟩
     . have hje : j = n.items.length := by omega
       subst hje; rw [List.take_length] at HT2 HFS; obtain ⟨t2, ht2⟩ : ∃ t2, t2 = eN n.funs u1 n.items := ⟨_, rfl⟩; rw [<- ht2] at HT2 HFS HOK HQ; obtain ⟨_, p1, _, _, p4⟩ := aW BEY.o; obtain ⟨_, _, c5, _, _⟩ := HT2.o.cellsAt; have hml : ∀ ty, (Builtin.len_ #[92] ty #[.map (some H.mf)]).run prog wy.drew = .ok (.int .i64 t2.funs.length) wy.drew := λ ty => by
        obtain ⟨LF, hf1, hf2, _⟩ := HT2.o.funs; have hll : LF.length = t2.funs.length := (by simpa using congrArg List.length hf2); rw [<- hll]; exact (hf1.under (zB wy).drew).len underlying92
       clear ht2; have KT := zH (show (λ W : World => W.cell? ⟨H.N, 5, none⟩ = some (.map (some H.mf)) /\ W.cell? ⟨w.heap.size, 1, none⟩ = some (.slice Af n.funs.length cf) /\ ∀ ty, (Builtin.len_ #[92] ty #[.map (some H.mf)]).run prog W = .ok (.int .i64 t2.funs.length) W) wy.drew from ⟨c5, p1, hml⟩); by_cases hfl : t2.funs.length < n.funs.length
       . have HQ2 := zH (show jk cx n = .inr (-1) by rw [HQ.o, if_pos hfl]); go_wp2_with fail
         refine wp_region_held_drew (S := (λ W : World => W.cell? ⟨H.N, 5, none⟩ = some (.map (some H.mf)) /\ W.cell? ⟨w.heap.size, 1, none⟩ = some (.slice Af n.funs.length cf) /\ ∀ ty, (Builtin.len_ #[92] ty #[.map (some H.mf)]).run prog W = .ok (.int .i64 t2.funs.length) W)) zK ?_ (λ hHeld => ?_)
         . exact KT.o
         refine aa 0 ?_; refine aa 1 ?_; refine aa 2 ?_; refine aa 3 ?_; refine aa 4 ?_; refine aa 5 ?_; refine aa 6 ?_; refine aa 7 ?_; refine aa 8 ?_; refine wpAnyH_done zK ?_ _; clear KT; go_wp2_with fail
         go_ret2
         rw [HQ2.o]; exact ⟨(HK1.o.below.trans HE.o.below).trans HE2.o.below.drew, rfl⟩
       . have HQ2 := zH (show jk cx n = eE cx 0 t2 n.items by rw [HQ.o, if_neg hfl]); have HOX := zH (HOK.o hfl); go_wp2_with fail
         refine wp_region_held_drew (S := (λ W : World => W.cell? ⟨H.N, 5, none⟩ = some (.map (some H.mf)) /\ W.cell? ⟨w.heap.size, 1, none⟩ = some (.slice Af n.funs.length cf) /\ ∀ ty, (Builtin.len_ #[92] ty #[.map (some H.mf)]).run prog W = .ok (.int .i64 t2.funs.length) W)) zK ?_ (λ hHeld => ?_)
         . exact KT.o
         refine aa 0 ?_; refine aa 1 ?_; refine aa 2 ?_; refine aa 3 ?_; refine aa 4 ?_; refine aa 5 ?_; refine aa 6 ?_; refine aa 7 ?_; refine aa 8 ?_; refine wpAnyH_done zK ?_ _; clear KT; obtain ⟨W3, hW3⟩ : ∃ W, W = wy.drew := ⟨_, rfl⟩; have HT3 := zH (show aJ B W3 H kv3 t2 by rw [hW3]; exact HT2.o.under (zB wy).drew HBY.o); have HE3 := zH (show Below B w W3 by rw [hW3]; exact (HK1.o.below.trans HE.o.below).trans HE2.o.below.drew); have BE3 := zH (show W3.heap[w.heap.size]? = some (.cells #[.string (str n.name), .slice Af n.funs.length cf, .slice Ai ni ci, .slice Ao no co, .slice Ax n.items.length cx'] 53 (0, 0)) by rw [hW3]; exact BEY.o); have HB3 := zH (show B <= W3.heap.size by rw [hW3]; exact HBY.o); have HBW3 := zH (show Below w0.heap.size w0 W3 by rw [hW3]; exact HBWY.o.drew); rw [<- hW3]; obtain ⟨_, _, _, _, p5⟩ := aW BE3.o; clear hW3 HT2 BEY HBY HBWY p1 p4 c5 hml hHeld; go_wp2_with fail
         go_loopg [61] n.items.length (λ g v wr => ∃ j : Nat, j + g = n.items.length /\ v = .int .i64 j /\ ∃ u kv', aJ B wr H kv' u /\ eE cx 0 t2 n.items = eE cx j u (n.items.drop j) /\ u.funs = t2.funs /\ u.ks.n <= t2.ks.n + bQ D ((dJ n.items).take j) /\ au B W3 wr)
         case atStart => exact ⟨0, by omega, rfl, t2, kv3, HT3.o, rfl, rfl, Nat.le_add_right _ _, au.refl _ _⟩
         case round =>
          obtain ⟨j, hjg, rfl, u, kv4, hty, hit, hfu, hun, hke⟩ := hrel; obtain ⟨wx, rfl⟩ := zW wr; have HK3 := zH hjg; have HT4 := zH hty; have HIT := zH hit; have HFU := zH hfu; have HUN := zH hun; have HE4 := zH hke; have HBX := zH (Nat.le_trans HB3.o hke.below.size); have hjl : j <= n.items.length := zO; have HBWX := zH (HBW3.o.trans (hke.below.mono HWB.o)); clear hjg hty hit hfu hun hke; by_cases hlt : j < n.items.length
          . obtain ⟨i, hi⟩ := zG hlt; have him := List.mem_of_getElem? hi; obtain ⟨L9, hE9, L8, sv, rfl, hEq, hsv⟩ := HXE.o j i hi; have HEQ := zH hEq; obtain ⟨A0, n0, k0, o1, s2, o3, A4, n4, k4, A5, n5, k5, rfl⟩ := hEq.shape; obtain ⟨As, ns, cs, rfl⟩ := ak.shape hsv; obtain ⟨x1, ex1, _, _, d0, d1, d2, d3, d4, d5, d6⟩ := ox (hE9.under HBWX.o); subst ex1; have hbd := oC D (dJ n.items) j i.eq.e (sP hi)
            have HDR := zH (show eE cx 0 t2 n.items = if (dO cx u i.eq).ref = true then .inr (j : Int) else eE cx ((j + 1 : Nat) : Int) (dO cx u i.eq) (n.items.drop (j + 1)) by
             rw [HIT.o, bw hi, eE]; rfl)
            have hal1 := zA wx (.cells #[.slice A0 n0 k0, .int .i64 o1, .string s2, .int .i64 o3, .slice A4 n4 k4, .slice A5 n5 k5, .slice As ns cs] 86); have HAL := zH hal1; obtain ⟨b0, b1, b2, b3, b4, b5, b6⟩ := rm (heap_alloc_new wx (.cells #[.slice A0 n0 k0, .int .i64 o1, .string s2, .int .i64 o3, .slice A4 n4 k4, .slice A5 n5 k5, .slice As ns cs] 86)); have hbn : u.ks.n + gh D i.eq.e < 4194303 := (by have h1 := HFS.o.2.2; have h2 := HN1.o; have h3 := HN.o; have h4 := HUN.o; omega); have HST := zH (j9 HS.o.small u i.eq (H6.o i him)); have HCX := zH (Ay (HT4.o.under hal1 HBX.o) (Nat.le_trans HBX.o hal1.size) (HBWX.o.trans (hal1.mono HBWX.o.size)) HWB.o HEQ.o (by rw [HFU.o]; exact Aw HS.o HC.o HCB.o HTK.o HWB.o i.eq.e (HOX.o i him)) (H6.o i him) (HLEN.o i him u) hbn); have HBD := zH (show (dO cx u i.eq).ks.n <= t2.ks.n + bQ D ((dJ n.items).take (j + 1)) by have h1 := HST.o.2.2; have h2 := HUN.o; omega); clear hi him hE9 hEq hsv hbd hal1 hbn; cases hrf : (dO cx u i.eq).ref with
            | true =>
              have HDT := zH (show eE cx 0 t2 n.items = .inr (j : Int) by rw [HDR.o, if_pos hrf])
              go_wp2_with (go_at_call 33
                           (with_reducible refine HCX.o.mono ?_); rintro e w8 ⟨he, _, hk8⟩; rw [hrf] at he; subst he; obtain ⟨V8, rfl⟩ := zW w8; have HE8 := zH ((HE4.o.trans (au.of_below HAL.o HBX.o)).trans hk8); clear hk8)
              go_ret2
              rw [HQ2.o, HDT.o]; exact ⟨HE3.o.trans HE8.o.below, rfl⟩
            | false =>
              have HDT := zH (show eE cx 0 t2 n.items = eE cx ((j + 1 : Nat) : Int) (dO cx u i.eq) (n.items.drop (j + 1)) by rw [HDR.o, hrf]; rfl)
              go_wp2_with (go_at_call 33
                           (with_reducible refine HCX.o.mono ?_); rintro e w8 ⟨he, ⟨kv8, ht8⟩, hk8⟩; rw [hrf] at he; subst he; obtain ⟨V8, rfl⟩ := zW w8; have HT8 := zH ht8; have HE8 := zH ((HE4.o.trans (au.of_below HAL.o HBX.o)).trans hk8); clear ht8 hk8)
              go_roundg (n.items.length - (j + 1))
              case measure => have := HK3.o; omega
              case rel => exact ⟨j + 1, by omega, by go_num, _, kv8, HT8.o, HDT.o, HST.o.2.1.trans HFU.o, HBD.o, HE8.o⟩
          . have hje : j = n.items.length := by omega
            have HDT := zH (show eE cx 0 t2 n.items = .inl u by rw [HIT.o, hje, List.drop_length]; rfl); clear hje; go_wp2_with fail
            go_ret2
            rw [HQ2.o, HDT.o]; exact ⟨HE3.o.trans HE4.o.below, rfl, kv4, HT4.o⟩
end
theorem fc {B k mv mf : Nat} {W : World} {ev nv iv : Value} (hk : dI B W k (.slice none 0 0) fw) (hv : ax W mv []) (hf : ax W mf []) (hB : B <= W.heap.size) :
  aJ B (W.alloc (.cells #[ev, nv, iv, .pointer (some ⟨k, 0, none⟩), .map (some mv), .map (some mf), .bool false] 94)) ⟨W.heap.size, k, mv, mf, ev, nv, iv⟩ (.slice none 0 0) TSt.new :=
 have hal := zA W (.cells #[ev, nv, iv, .pointer (some ⟨k, 0, none⟩), .map (some mv), .map (some mf), .bool false] 94)
 ⟨heap_alloc_new W _, hk.under hal, hB, hv.under hal, [], hf.under hal, rfl, λ i p q h => by simp at h⟩
def Ci (a b c : Value) (W : World) (e : Ending) (w' : World) : Prop := ∃ (H : TyH) (kv : Value), e = .returned (.pointer (some ⟨H.N, 0, none⟩)) /\ H.ev = a /\ H.nv = b /\ H.iv = c /\ aJ W.heap.size w' H kv TSt.new /\ H.mv ≠ H.mf /\ W.heap.size <= H.mv /\ W.heap.size <= H.mf /\ Below W.heap.size W w'
theorem rp {w : World} {a b : Value} {Ac : Option Addr} {nc kc : Nat} : Calls prog 13 #[.agg #[a, b], .slice Ac nc kc] w (Ci a b (.slice Ac nc kc) w) := by
 have HN := zH (λ (W : World) (h : w.heap.size <= W.heap.size) => FE (B := w.heap.size) (w := W) h); have hmm := @run_makeMap prog; have hal := zA w (.cells #[a, b] 25); have BEX := zH (heap_alloc_new w (.cells #[a, b] 25)); have HBX := zH hal; clear hal; go_enter func13, ntmps13
 go_wp2_with fail
 have KT := zH (show (λ W : World => W.cell? ⟨w.heap.size, 0, none⟩ = some a /\ W.cell? ⟨w.heap.size, 1, none⟩ = some b) (w.alloc (.cells #[a, b] 25)).drew from bb BEX.o); refine wp_region_held_drew (S := (λ W : World => W.cell? ⟨w.heap.size, 0, none⟩ = some a /\ W.cell? ⟨w.heap.size, 1, none⟩ = some b)) zK ?_ (λ hHeld => ?_)
 . exact KT.o
 clear KT; have HBW0 := zH HBX.o.drew; have BEW0 := zH (show (w.alloc (.cells #[a, b] 25)).drew.heap[w.heap.size]? = some (.cells #[a, b] 25 (0, 0)) from BEX.o); clear HBX BEX; generalize (w.alloc (.cells #[a, b] 25)).drew = W0 at *; refine aa 0 ?_; refine aa 1 ?_; refine wpAnyH_ready (rs := [2, 3, 4]) zK (by simp) (db 2 rfl (λ K hK => ?_) (db 3 rfl (λ K hK => ?_) (db 4 rfl (λ K hK => ?_) AllReadyH.nil)))
 . go_simp
   (go_at_call 29
    (with_reducible refine (HN.o W0 HBW0.o.size).mono ?_); rintro e w2 ⟨rfl, hk2, hb2⟩; obtain ⟨W1, rfl⟩ := zW w2; have HKW1 := zH hk2
    have HBW1 := zH (HBW0.o.trans (hb2.mono HBW0.o.size))
    have BEW1 := zH ((hb2.block _ (ab BEW0.o)).trans BEW0.o)
    clear hk2 hb2)
   obtain ⟨p0, p1⟩ := bb BEW1.o
   refine hK.out _ _ ⟨p0, p1⟩ (λ hHeld => ?_)
   clear hK K p0 p1
   try simp only [Act.put]
   refine wpAnyH_ready (rs := [3, 4]) zK (by simp) (db 3 rfl (λ K hK => ?_) (db 4 rfl (λ K hK => ?_) AllReadyH.nil))
   . go_simp
     have hb2 := zA W1 (.map #[] 0)
     have HMVW2 := zH (ax.made W1)
     have HSMV := zH HBW1.o.size
     have HKW2 := zH (HKW1.o.under hb2)
     have HBW2 := zH (HBW1.o.trans (hb2.mono HBW1.o.size))
     have BEW2 := zH ((hb2.block _ (ab BEW1.o)).trans BEW1.o)
     obtain ⟨p0, p1⟩ := bb BEW2.o
     refine hK.out _ _ ⟨p0, p1⟩ (λ hHeld => ?_)
     clear hK K p0 p1 hb2
     try simp only [Act.put]
     generalize W1.alloc (.map #[] 0) = W2 at *
     refine aq 4 zK rfl (λ K hK => ?_)
     go_simp
     have hb2 := zA W2 (.map #[] 0)
     have HMFW3 := zH (ax.made W2)
     have HSMF := zH HBW2.o.size
     have HNE := zH (show W1.heap.size ≠ W2.heap.size from λ e => by have := HMVW2.o.lt; omega)
     have HKW3 := zH (HKW2.o.under hb2)
     have HMVW3 := zH (HMVW2.o.under hb2)
     have HBW3 := zH (HBW2.o.trans (hb2.mono HBW2.o.size))
     have BEW3 := zH ((hb2.block _ (ab BEW2.o)).trans BEW2.o)
     obtain ⟨p0, p1⟩ := bb BEW3.o
     refine hK.out _ _ ⟨p0, p1⟩ (λ hHeld => ?_)
     clear hK K p0 p1 hb2
     try simp only [Act.put]
     generalize W2.alloc (.map #[] 0) = W3 at *
     refine aa 5 ?_
     refine aq 6 zK rfl (λ K hK => ?_)
     go_simp
     have hty := fc (ev := a) (nv := b) (iv := .slice Ac nc kc) HKW3.o HMVW3.o HMFW3.o HBW3.o.size
     have hal := zA W3 (.cells #[a, b, .slice Ac nc kc, .pointer (some ⟨W0.heap.size, 0, none⟩), .map (some W1.heap.size), .map (some W2.heap.size), .bool false] 94)
     obtain ⟨p0, p1⟩ := bb ((hal.block _ (ab BEW3.o)).trans BEW3.o)
     refine hK.out _ _ ⟨p0, p1⟩ (λ hHeld => ?_)
     clear hK K p0 p1
     try simp only [Act.put]
     refine aa 7 ?_
     refine wpAnyH_done zK ?_ _
     go_wp2_with fail
     go_ret
     exact ⟨_, _, rfl, rfl, rfl, rfl, hty, HNE.o, HSMV.o, HSMF.o, HBW3.o.trans (hal.mono HBW3.o.size)⟩
   . go_simp
     have hb2 := zA W1 (.map #[] 0)
     have HMFW4 := zH (ax.made W1)
     have HSMF := zH HBW1.o.size
     have HKW4 := zH (HKW1.o.under hb2)
     have HBW4 := zH (HBW1.o.trans (hb2.mono HBW1.o.size))
     have BEW4 := zH ((hb2.block _ (ab BEW1.o)).trans BEW1.o)
     obtain ⟨p0, p1⟩ := bb BEW4.o
     refine hK.out _ _ ⟨p0, p1⟩ (λ hHeld => ?_)
     clear hK K p0 p1 hb2
     try simp only [Act.put]
     generalize W1.alloc (.map #[] 0) = W4 at *
     refine aq 3 zK rfl (λ K hK => ?_)
     go_simp
     have hb2 := zA W4 (.map #[] 0)
     have HMVW5 := zH (ax.made W4)
     have HSMV := zH HBW4.o.size
     have HNE := zH (show W4.heap.size ≠ W1.heap.size from λ e => by have := HMFW4.o.lt; omega)
     have HKW5 := zH (HKW4.o.under hb2)
     have HMFW5 := zH (HMFW4.o.under hb2)
     have HBW5 := zH (HBW4.o.trans (hb2.mono HBW4.o.size))
     have BEW5 := zH ((hb2.block _ (ab BEW4.o)).trans BEW4.o)
     obtain ⟨p0, p1⟩ := bb BEW5.o
     refine hK.out _ _ ⟨p0, p1⟩ (λ hHeld => ?_)
     clear hK K p0 p1 hb2
     try simp only [Act.put]
     generalize W4.alloc (.map #[] 0) = W5 at *
     refine aa 5 ?_
     refine aq 6 zK rfl (λ K hK => ?_)
     go_simp
     have hty := fc (ev := a) (nv := b) (iv := .slice Ac nc kc) HKW5.o HMVW5.o HMFW5.o HBW5.o.size
     have hal := zA W5 (.cells #[a, b, .slice Ac nc kc, .pointer (some ⟨W0.heap.size, 0, none⟩), .map (some W4.heap.size), .map (some W1.heap.size), .bool false] 94)
     obtain ⟨p0, p1⟩ := bb ((hal.block _ (ab BEW5.o)).trans BEW5.o)
     refine hK.out _ _ ⟨p0, p1⟩ (λ hHeld => ?_)
     clear hK K p0 p1
     try simp only [Act.put]
     refine aa 7 ?_
     refine wpAnyH_done zK ?_ _
     go_wp2_with fail
     go_ret
     exact ⟨_, _, rfl, rfl, rfl, rfl, hty, HNE.o, HSMV.o, HSMF.o, HBW5.o.trans (hal.mono HBW5.o.size)⟩
 . go_simp
   have hb2 := zA W0 (.map #[] 0)
   have HMVW6 := zH (ax.made W0)
   have HSMV := zH HBW0.o.size
   have HBW6 := zH (HBW0.o.trans (hb2.mono HBW0.o.size))
   have BEW6 := zH ((hb2.block _ (ab BEW0.o)).trans BEW0.o)
   obtain ⟨p0, p1⟩ := bb BEW6.o
   refine hK.out _ _ ⟨p0, p1⟩ (λ hHeld => ?_)
   clear hK K p0 p1 hb2
   try simp only [Act.put]
   generalize W0.alloc (.map #[] 0) = W6 at *
   refine wpAnyH_ready (rs := [2, 4]) zK (by simp) (db 2 rfl (λ K hK => ?_) (db 4 rfl (λ K hK => ?_) AllReadyH.nil))
   . go_simp
     (go_at_call 29
      (with_reducible refine (HN.o W6 HBW6.o.size).mono ?_)
      rintro e w2 ⟨rfl, hk2, hb2⟩
      obtain ⟨W7, rfl⟩ := zW w2
      have HKW7 := zH hk2
      have HMVW7 := zH (HMVW6.o.under hb2)
      have HBW7 := zH (HBW6.o.trans (hb2.mono HBW6.o.size))
      have BEW7 := zH ((hb2.block _ (ab BEW6.o)).trans BEW6.o)
      clear hk2 hb2)
     obtain ⟨p0, p1⟩ := bb BEW7.o
     refine hK.out _ _ ⟨p0, p1⟩ (λ hHeld => ?_)
     clear hK K p0 p1
     try simp only [Act.put]
     refine aq 4 zK rfl (λ K hK => ?_)
     go_simp
     have hb2 := zA W7 (.map #[] 0)
     have HMFW8 := zH (ax.made W7)
     have HSMF := zH HBW7.o.size
     have HNE := zH (show W0.heap.size ≠ W7.heap.size from λ e => by have := HMVW7.o.lt; omega)
     have HKW8 := zH (HKW7.o.under hb2)
     have HMVW8 := zH (HMVW7.o.under hb2)
     have HBW8 := zH (HBW7.o.trans (hb2.mono HBW7.o.size))
     have BEW8 := zH ((hb2.block _ (ab BEW7.o)).trans BEW7.o)
     obtain ⟨p0, p1⟩ := bb BEW8.o
     refine hK.out _ _ ⟨p0, p1⟩ (λ hHeld => ?_)
     clear hK K p0 p1 hb2
     try simp only [Act.put]
     generalize W7.alloc (.map #[] 0) = W8 at *
     refine aa 5 ?_
     refine aq 6 zK rfl (λ K hK => ?_)
     go_simp
     have hty := fc (ev := a) (nv := b) (iv := .slice Ac nc kc) HKW8.o HMVW8.o HMFW8.o HBW8.o.size
     have hal := zA W8 (.cells #[a, b, .slice Ac nc kc, .pointer (some ⟨W6.heap.size, 0, none⟩), .map (some W0.heap.size), .map (some W7.heap.size), .bool false] 94)
     obtain ⟨p0, p1⟩ := bb ((hal.block _ (ab BEW8.o)).trans BEW8.o)
     refine hK.out _ _ ⟨p0, p1⟩ (λ hHeld => ?_)
     clear hK K p0 p1
     try simp only [Act.put]
     refine aa 7 ?_
     refine wpAnyH_done zK ?_ _
     go_wp2_with fail
     go_ret
     exact ⟨_, _, rfl, rfl, rfl, rfl, hty, HNE.o, HSMV.o, HSMF.o, HBW8.o.trans (hal.mono HBW8.o.size)⟩
   . go_simp
     have hb2 := zA W6 (.map #[] 0)
     have HMFW9 := zH (ax.made W6)
     have HSMF := zH HBW6.o.size
     have HNE := zH (show W0.heap.size ≠ W6.heap.size from λ e => by have := HMVW6.o.lt; omega)
     have HMVW9 := zH (HMVW6.o.under hb2)
     have HBW9 := zH (HBW6.o.trans (hb2.mono HBW6.o.size))
     have BEW9 := zH ((hb2.block _ (ab BEW6.o)).trans BEW6.o)
     obtain ⟨p0, p1⟩ := bb BEW9.o
     refine hK.out _ _ ⟨p0, p1⟩ (λ hHeld => ?_)
     clear hK K p0 p1 hb2
     try simp only [Act.put]
     generalize W6.alloc (.map #[] 0) = W9 at *
     refine aq 2 zK rfl (λ K hK => ?_)
     go_simp
     (go_at_call 29
      (with_reducible refine (HN.o W9 HBW9.o.size).mono ?_)
      rintro e w2 ⟨rfl, hk2, hb2⟩
      obtain ⟨W10, rfl⟩ := zW w2
      have HKW10 := zH hk2
      have HMVW10 := zH (HMVW9.o.under hb2)
      have HMFW10 := zH (HMFW9.o.under hb2)
      have HBW10 := zH (HBW9.o.trans (hb2.mono HBW9.o.size))
      have BEW10 := zH ((hb2.block _ (ab BEW9.o)).trans BEW9.o)
      clear hk2 hb2)
     obtain ⟨p0, p1⟩ := bb BEW10.o
     refine hK.out _ _ ⟨p0, p1⟩ (λ hHeld => ?_)
     clear hK K p0 p1
     try simp only [Act.put]
     refine aa 5 ?_
     refine aq 6 zK rfl (λ K hK => ?_)
     go_simp
     have hty := fc (ev := a) (nv := b) (iv := .slice Ac nc kc) HKW10.o HMVW10.o HMFW10.o HBW10.o.size
     have hal := zA W10 (.cells #[a, b, .slice Ac nc kc, .pointer (some ⟨W9.heap.size, 0, none⟩), .map (some W0.heap.size), .map (some W6.heap.size), .bool false] 94)
     obtain ⟨p0, p1⟩ := bb ((hal.block _ (ab BEW10.o)).trans BEW10.o)
     refine hK.out _ _ ⟨p0, p1⟩ (λ hHeld => ?_)
     clear hK K p0 p1
     try simp only [Act.put]
     refine aa 7 ?_
     refine wpAnyH_done zK ?_ _
     go_wp2_with fail
     go_ret
     exact ⟨_, _, rfl, rfl, rfl, rfl, hty, HNE.o, HSMV.o, HSMF.o, HBW10.o.trans (hal.mono HBW10.o.size)⟩
 . go_simp
   have hb2 := zA W0 (.map #[] 0)
   have HMFW11 := zH (ax.made W0)
   have HSMF := zH HBW0.o.size
   have HBW11 := zH (HBW0.o.trans (hb2.mono HBW0.o.size))
   have BEW11 := zH ((hb2.block _ (ab BEW0.o)).trans BEW0.o)
   obtain ⟨p0, p1⟩ := bb BEW11.o
   refine hK.out _ _ ⟨p0, p1⟩ (λ hHeld => ?_)
   clear hK K p0 p1 hb2
   try simp only [Act.put]
   generalize W0.alloc (.map #[] 0) = W11 at *
   refine wpAnyH_ready (rs := [2, 3]) zK (by simp) (db 2 rfl (λ K hK => ?_) (db 3 rfl (λ K hK => ?_) AllReadyH.nil))
   . go_simp
     (go_at_call 29
      (with_reducible refine (HN.o W11 HBW11.o.size).mono ?_)
      rintro e w2 ⟨rfl, hk2, hb2⟩
      obtain ⟨W12, rfl⟩ := zW w2
      have HKW12 := zH hk2
      have HMFW12 := zH (HMFW11.o.under hb2)
      have HBW12 := zH (HBW11.o.trans (hb2.mono HBW11.o.size))
      have BEW12 := zH ((hb2.block _ (ab BEW11.o)).trans BEW11.o)
      clear hk2 hb2)
     obtain ⟨p0, p1⟩ := bb BEW12.o
     refine hK.out _ _ ⟨p0, p1⟩ (λ hHeld => ?_)
     clear hK K p0 p1
     try simp only [Act.put]
     refine aq 3 zK rfl (λ K hK => ?_)
     go_simp
     have hb2 := zA W12 (.map #[] 0)
     have HMVW13 := zH (ax.made W12)
     have HSMV := zH HBW12.o.size
     have HNE := zH (show W12.heap.size ≠ W0.heap.size from λ e => by have := HMFW12.o.lt; omega)
     have HKW13 := zH (HKW12.o.under hb2)
     have HMFW13 := zH (HMFW12.o.under hb2)
     have HBW13 := zH (HBW12.o.trans (hb2.mono HBW12.o.size))
     have BEW13 := zH ((hb2.block _ (ab BEW12.o)).trans BEW12.o)
     obtain ⟨p0, p1⟩ := bb BEW13.o
     refine hK.out _ _ ⟨p0, p1⟩ (λ hHeld => ?_)
     clear hK K p0 p1 hb2
     try simp only [Act.put]
     generalize W12.alloc (.map #[] 0) = W13 at *
     refine aa 5 ?_
     refine aq 6 zK rfl (λ K hK => ?_)
     go_simp
     have hty := fc (ev := a) (nv := b) (iv := .slice Ac nc kc) HKW13.o HMVW13.o HMFW13.o HBW13.o.size
     have hal := zA W13 (.cells #[a, b, .slice Ac nc kc, .pointer (some ⟨W11.heap.size, 0, none⟩), .map (some W12.heap.size), .map (some W0.heap.size), .bool false] 94)
     obtain ⟨p0, p1⟩ := bb ((hal.block _ (ab BEW13.o)).trans BEW13.o)
     refine hK.out _ _ ⟨p0, p1⟩ (λ hHeld => ?_)
     clear hK K p0 p1
     try simp only [Act.put]
     refine aa 7 ?_
     refine wpAnyH_done zK ?_ _
     go_wp2_with fail
     go_ret
     exact ⟨_, _, rfl, rfl, rfl, rfl, hty, HNE.o, HSMV.o, HSMF.o, HBW13.o.trans (hal.mono HBW13.o.size)⟩
   . go_simp
     have hb2 := zA W11 (.map #[] 0)
     have HMVW14 := zH (ax.made W11)
     have HSMV := zH HBW11.o.size
     have HNE := zH (show W11.heap.size ≠ W0.heap.size from λ e => by have := HMFW11.o.lt; omega)
     have HMFW14 := zH (HMFW11.o.under hb2)
     have HBW14 := zH (HBW11.o.trans (hb2.mono HBW11.o.size))
     have BEW14 := zH ((hb2.block _ (ab BEW11.o)).trans BEW11.o)
     obtain ⟨p0, p1⟩ := bb BEW14.o
     refine hK.out _ _ ⟨p0, p1⟩ (λ hHeld => ?_)
     clear hK K p0 p1 hb2
     try simp only [Act.put]
     generalize W11.alloc (.map #[] 0) = W14 at *
     refine aq 2 zK rfl (λ K hK => ?_)
     go_simp
     (go_at_call 29
      (with_reducible refine (HN.o W14 HBW14.o.size).mono ?_)
      rintro e w2 ⟨rfl, hk2, hb2⟩
      obtain ⟨W15, rfl⟩ := zW w2
      have HKW15 := zH hk2
      have HMVW15 := zH (HMVW14.o.under hb2)
      have HMFW15 := zH (HMFW14.o.under hb2)
      have HBW15 := zH (HBW14.o.trans (hb2.mono HBW14.o.size))
      have BEW15 := zH ((hb2.block _ (ab BEW14.o)).trans BEW14.o)
      clear hk2 hb2)
     obtain ⟨p0, p1⟩ := bb BEW15.o
     refine hK.out _ _ ⟨p0, p1⟩ (λ hHeld => ?_)
     clear hK K p0 p1
     try simp only [Act.put]
     refine aa 5 ?_
     refine aq 6 zK rfl (λ K hK => ?_)
     go_simp
     have hty := fc (ev := a) (nv := b) (iv := .slice Ac nc kc) HKW15.o HMVW15.o HMFW15.o HBW15.o.size
     have hal := zA W15 (.cells #[a, b, .slice Ac nc kc, .pointer (some ⟨W14.heap.size, 0, none⟩), .map (some W11.heap.size), .map (some W0.heap.size), .bool false] 94)
     obtain ⟨p0, p1⟩ := bb ((hal.block _ (ab BEW15.o)).trans BEW15.o)
     refine hK.out _ _ ⟨p0, p1⟩ (λ hHeld => ?_)
     clear hK K p0 p1
     try simp only [Act.put]
     refine aa 7 ?_
     refine wpAnyH_done zK ?_ _
     go_wp2_with fail
     go_ret
     exact ⟨_, _, rfl, rfl, rfl, rfl, hty, HNE.o, HSMV.o, HSMF.o, HBW15.o.trans (hal.mono HBW15.o.size)⟩
theorem Bi {S : KS} (h : S.Ok) (hn : S.n <= 4194303) (a : Int) : (Lit.int .i64 (j5 S a)).wf = true := WalkArith.wf_i64 (by
 unfold j5
 split
 . rename_i hk
   obtain ⟨_, _, h3⟩ := yw hk
   have := h.le _ h3
   omega
 . omega)
theorem sq {S : KS} (h : S.Ok) (a : Int) : 0 <= ofS S a /\ ofS S a < 9223372036854775808 := by
 unfold ofS; split
 . rename_i hk; exact h.pos _ (yw hk).2.2
 . omega
theorem aU.len {w : World} {b : Nat} {l : List (Int × Value)} {t e K ty : TypeId} (h : aU w b l) (ht : prog.underlying t = some (.map K e)) : (Builtin.len_ #[t] ty #[.map (some b)]).run prog w = .ok (.int .i64 l.length) w := by
 obtain ⟨es, clock, hb, he, _⟩ := h; have hl : es.size = l.length := by
  have := congrArg List.length he; simpa using this
 have := run_len_map (P := prog) w t ty b es clock (by rw [ht]; simp [Program.mapKeyOf, Program.mapElemOf, ht]) hb; rw [this, hl]; rfl
theorem vl (ks : KS) (nums : List (Int × Int)) (a : Int) : (iW ks nums a).1.length <= nums.length + 1 := by
 unfold iW; split
 . simp
 . split
   . simp
   . simp
theorem dy (ks : KS) (l : List Int) : ∀ nums : List (Int × Int), (a7 ks nums l).1.length <= nums.length + l.length /\ (a7 ks nums l).2.length = l.length := by
 induction l with
 | nil => intro nums; exact ⟨Nat.le_refl _, rfl⟩
 | cons a r ih =>
   intro nums; rw [a7]; have h1 := vl ks nums a; obtain ⟨h2, h3⟩ := ih (iW ks nums a).1; simp only [List.length_cons]; exact ⟨by omega, by rw [h3]⟩
theorem tb (ks : KS) (a : Int) (l : List Int) : ∀ nums : List (Int × Int), a7 ks nums (l ++ [a]) = ((iW ks (a7 ks nums l).1 a).1, (a7 ks nums l).2 ++ [(iW ks (a7 ks nums l).1 a).2]) := by
 induction l with
 | nil => intro nums; rfl
 | cons x r ih => intro nums; rw [List.cons_append, a7, ih, a7]; rfl
theorem Hb (w : World) : (zeroValue 47).run prog w = .ok (.int .i64 0) w := by kernel_rfl
section
variable {B F : Nat} {w : World} {H : TyH} {kv : Value} {t : TSt}
def IP (B F : Nat) (H : TyH) (kv : Value) (t : TSt) (x : List (Int × Int) × Int) (W : World) (e : Ending) (w' : World) : Prop := e = .returned (.int .i64 x.2) /\ aU w' F (cD x.1) /\ aJ B w' H kv t /\ aE F B W w'
theorem rN (h : aJ B w H kv t) (hB : B <= w.heap.size) (hBF : B <= F) (h1 : H.mv ≠ F) (h2 : H.mf ≠ F) {nums : List (Int × Int)} (hM : aU w F (cD nums)) (hnl : nums.length < 4194304) (a : Int) :
  Calls prog 36 #[.agg #[.pointer (some ⟨H.k, 0, none⟩), .map (some F)], .int .i64 a] w (IP B F H kv t (iW t.ks nums a) w) := by
 have hal := zA w (.cells #[.pointer (some ⟨H.k, 0, none⟩), .map (some F)] 101); have HT0 := zH (h.under hal hB); have HM0 := zH (hM.under hal); have HB0 := zH (Nat.le_trans hB hal.size); have HK0 := zH ((au.of_below hal hB).but F); obtain ⟨E, ρ, hkn⟩ := HT0.o.knot; have HOF := zH (Ia hkn a); have HLE := zH (Bh hkn a); have hok := hkn.good.ok; have hbig := hkn.big; have hwf := Bi hok hbig a; obtain ⟨hof0, hof1⟩ := sq hok a; obtain ⟨p0, p1⟩ := bb (heap_alloc_new w (.cells #[.pointer (some ⟨H.k, 0, none⟩), .map (some F)] 101)); clear h hB hM hal hkn hok hbig; by_cases hm : 0 < ofS t.ks a
 . have HQ := zH (show iW t.ks nums a = (nums, ofS t.ks a) by unfold iW; rw [if_pos hm]); go_enter func36, ntmps36
   go_wp2_with (go_at_call 62
                (with_reducible refine HOF.o.mono ?_); rintro e w1 ⟨rfl, rfl⟩)
   go_ret; rw [HQ.o]; exact ⟨rfl, HM0.o, HT0.o, HK0.o⟩
 . have hd : ¬ 0 < ofS t.ks a := hm; generalize hL : j5 t.ks a = le at *; cases hlk : nums.lookup le with
   | some x =>
     have HQ := zH (show iW t.ks nums a = (nums, x) by unfold iW; rw [if_neg hm, hL, hlk]); have hrun := HM0.o.look_yes underlying3 underlying99 (mI hlk); have hrun1 := HM0.o.look_one underlying3 underlying99 (mI hlk); go_enter func36, ntmps36
     go_wp2_with (first
      | (go_at_call 62; (with_reducible refine HOF.o.mono ?_); rintro e w1 ⟨rfl, rfl⟩)
      | (go_at_call 63; (with_reducible refine HLE.o.mono ?_); rintro e w1 ⟨rfl, rfl⟩))
     go_ret; rw [HQ.o]; exact ⟨rfl, HM0.o, HT0.o, HK0.o⟩
   | none =>
     have HQ := zH (show iW t.ks nums a = (nums ++ [(le, -((nums.length : Int) + 1))], -((nums.length : Int) + 1)) by unfold iW; rw [if_neg hm, hL, hlk]); have hrun := HM0.o.look_no underlying3 underlying99 (Hb _) hwf (mH hlk); have hlen : ∀ ty, _ := λ ty => HM0.o.len (ty := ty) underlying99; rw [show (cD nums).length = nums.length by simp [cD]] at hlen; have HOUT := zH (mH hlk); have HWF := zH hwf; go_enter func36, ntmps36
     go_wp2_with (first
      | (go_at_call 62; (with_reducible refine HOF.o.mono ?_); rintro e w1 ⟨rfl, rfl⟩)
      | (go_at_call 63; (with_reducible refine HLE.o.mono ?_); rintro e w1 ⟨rfl, rfl⟩)
      | (at_mapUpdate
         refine nW underlying3 _ rfl _ _ _ 99 rfl underlying99 rfl rfl (v := .int .i64 (-((nums.length : Int) + 1))) rfl HM0.o HWF.o HOUT.o ?_; intro w9 hm9 hg9; obtain ⟨V9, rfl⟩ := zW w9; have HQ9 := zH (HT0.o.put HM0.o h1 h2 hBF hg9); have HM9 := zH (show aU V9 F (cD (nums ++ [(le, -((nums.length : Int) + 1))])) by rw [ot]; exact hm9); have hrun1 := hm9.look_one underlying3 underlying99 (s := le) (v := .int .i64 (-((nums.length : Int) + 1))) (by simp); obtain ⟨q0, q1⟩ := bb (HQ9.o.2.cells _ _ _ zD zD zD (heap_alloc_new w (.cells #[.pointer (some ⟨H.k, 0, none⟩), .map (some F)] 101))); clear hm9 hg9))
     go_ret; rw [HQ.o]; exact ⟨rfl, HM9.o, HQ9.o.1, HK0.o.trans HQ9.o.2⟩
end
def TyC (L : List Value) (x : Int) : Prop := L = [.int .i64 x]
def dc (C : Nat) (w : World) (v : Value) (l : List Int) : Prop := aS TyC C 47 1 w v l
theorem E6 : (prog.info? 47).map (λ i => (i.zero, i.size, i.bytes)) = some (some (.int .i64 0), 1, 8) := by kernel_rfl
theorem E5 (L : List Value) (x : Int) (h : TyC L x) : L.length = 1 := by rw [h]; rfl
theorem E4 (L : List Value) (x : Int) (h : TyC L x) : ∀ u ∈ L, u.oneCell' = true := by
 rw [h]; intro u hu; simp at hu; subst hu; rfl
theorem dc.typs {C : Nat} {w : World} {v : Value} {l : List Int} (h : dc C w v l) : dH w v l := by
 obtain ⟨A, c, rfl, h1, h2, h3⟩ := h.at_; refine ⟨A, c, rfl, h1, h2, λ h0 => ?_⟩; obtain ⟨g, c', e, cur, hb⟩ := h.there (List.length_pos_iff.2 h0); injection e with e; subst e; refine ⟨g, 0, cur, rfl, hb, λ j x hx => ?_⟩; obtain ⟨L, ⟨a, e, hc⟩, hL⟩ := h3 j x hx; injection e with e; subst e; have h4 := hc 0 (.int .i64 x) (by rw [hL]; rfl); rw [add_zero, hL] at h4; have : (⟨g, 0, none⟩ : Addr).add (j * 1) = ⟨g, 0 + j, none⟩ := by unfold Addr.add; split <;> simp_all
 rw [show ([Value.int .i64 x]).length = 1 from rfl, this, Joins.cell_of_block hb] at h4; exact h4
section
variable {B F : Nat} {w w0 : World} {H : TyH} {kv : Value} {t : TSt}
theorem aE.ownTy {C : Nat} {w' : World} {v : Value} {l : List Int} (h : aE F B w w') (hO : dc C w v l) : dc C w' v l :=
 aS.keepR hO (λ g o hg ho => by
  obtain ⟨_, _, cur, hc⟩ := hO.blk hg
  rw [hc] at ho
  cases ho
  exact h.cells g cur _ zD zD zD hc) λ _ _ _ h => h
def IQ (B F : Nat) (H : TyH) (kv : Value) (t : TSt) (x : List (Int × Int) × List Int) (W : World) (e : Ending) (w' : World) : Prop := ∃ v, e = .returned v /\ dc W.heap.size w' v x.2 /\ aU w' F (cD x.1) /\ aJ B w' H kv t /\ aE F B W w'
theorem kJ (h : aJ B w H kv t) (hB : B <= w.heap.size) (hBF : B <= F) (h1 : H.mv ≠ F) (h2 : H.mf ≠ F) {nums : List (Int × Int)} (hM : aU w F (cD nums)) {v : Value} {l : List Int} (hl : bJ w v l) (hnl : nums.length + l.length < 4194303) :
  Calls prog 34 #[.agg #[.pointer (some ⟨H.k, 0, none⟩), .map (some F)], v] w (IQ B F H kv t (a7 t.ks nums l) w) := by
 have hal := zA w (.cells #[.pointer (some ⟨H.k, 0, none⟩), .map (some F)] 101); have HT0 := zH (h.under hal hB); have HM0 := zH (hM.under hal); have HB0 := zH (Nat.le_trans hB hal.size); have HK0 := zH ((au.of_below hal hB).but F); have BE := zH (heap_alloc_new w (.cells #[.pointer (some ⟨H.k, 0, none⟩), .map (some F)] 101)); have HL := zH (HK0.o.all (F := F)); have HLL := zH ((au.of_below hal hB).nums hl); have HN := zH hnl; obtain ⟨A1, c1, rfl, hl1⟩ := hl.shape; clear h hB hM hal hl hnl HL; go_enter func34, ntmps34
 go_wp2_with fail
 have HSZ := zH (show w.heap.size <= (w.alloc (.cells #[.pointer (some ⟨H.k, 0, none⟩), .map (some F)] 101)).heap.size by simp); generalize w.alloc (.cells #[.pointer (some ⟨H.k, 0, none⟩), .map (some F)] 101) = V0 at *; go_loopg [5, 10] l.length (λ g ov v wr => ∃ j : Nat, j + g = l.length /\ v = .int .i64 j /\ dc V0.heap.size wr ov (a7 t.ks nums (l.take j)).2 /\ aU wr F (cD (a7 t.ks nums (l.take j)).1) /\ aJ B wr H kv t /\ aE F B V0 wr)
 case atStart => exact ⟨0, by omega, rfl, aS.nil _, HM0.o, HT0.o, (au.refl _ _).but _⟩
 case round =>
  obtain ⟨j, hjg, rfl, hown, hmp, hty, hke⟩ := hrel; obtain ⟨wz, rfl⟩ := zW wr; have HK := zH hjg; have HT := zH hty; have HE := zH hke; have HO := zH hown; have HMP := zH hmp; have HBZ := zH (Nat.le_trans HB0.o hke.below.size); have hjl : j <= l.length := zO
  have HLZ := zH (show bJ wz (.slice A1 l.length c1) l by
   obtain ⟨A', c', e, q1, q2, q3⟩ := HLL.o; injection e with e1 _ e3; subst e1 e3
   exact ⟨A1, c1, rfl, q1, q2, λ h0 => by
    obtain ⟨g, o, cs, e, q4, q5⟩ := q3 h0; exact ⟨g, o, cs, e, hke.cells g cs _ zD zD zD q4, q5⟩⟩)
  have HFW := zH (dy t.ks (l.take j) nums); obtain ⟨A5, n5, c5, rfl, hn5⟩ := hown.shape; rw [HFW.o.2, List.length_take, Nat.min_eq_left hjl] at hn5; subst hn5; obtain ⟨p0, p1⟩ := bb (hke.cells _ _ _ zD zD zD BE.o); clear hjg hty hke hown hmp; by_cases hlt : n5 < l.length
  . obtain ⟨a, ha⟩ := zG hlt; obtain ⟨g1, o1, e1⟩ := HLZ.o.some (λ e => by rw [e] at ha; cases ha); subst e1; have hfa := HLZ.o.get ha
    have HST := zH (show a7 t.ks nums (l.take (n5 + 1)) = ((iW t.ks (a7 t.ks nums (l.take n5)).1 a).1, (a7 t.ks nums (l.take n5)).2 ++ [(iW t.ks (a7 t.ks nums (l.take n5)).1 a).2]) by
     obtain ⟨_, rfl⟩ := List.getElem?_eq_some_iff.1 ha; rw [List.take_succ_eq_append_getElem hlt, tb])
    have HC := zH (rN (F := F) HT.o HBZ.o hBF h1 h2 HMP.o (by have h1 := HFW.o.1; have h2 := HN.o; rw [List.length_take] at h1; omega) a); have HFL := zH (show (a7 t.ks nums (l.take n5)).2.length <= 4194303 by have h2 := HN.o; rw [HFW.o.2, List.length_take]; omega); clear ha; generalize iW t.ks (a7 t.ks nums (l.take n5)).1 a = x at *
    go_wp2_with (first
     | (go_at_call 36; (with_reducible refine HC.o.mono ?_); rintro e w8 ⟨rfl, hm8, ht8, hk8⟩; obtain ⟨V8, rfl⟩ := zW w8; have hal := zA V8 (.cells #[.int .i64 x.2] 47); have hB8 := Nat.le_trans HBZ.o hk8.below.size; have HT8 := zH (ht8.under hal hB8); have HE8 := zH ((HE.o.trans hk8).trans ((au.of_below hal hB8).but F)); have HO8 := zH ((hk8.ownTy HO.o).under hal); have HM8 := zH (hm8.under hal); have HX8 := zH (show TyC [.int .i64 x.2] x.2 from rfl); clear ht8 hk8 hal hB8 hm8)
     | (at_builtin
        refine uf underlying36 E6 rfl zD zD E5 E4 rfl _ _ rfl rfl rfl (heap_alloc_new _ _) HX8.o HO8.o HFL.o HE8.o.below.size ?_; intro v5 w5 h5 g5; obtain ⟨V5, rfl⟩ := zW w5; have HN5 := zH h5; have HT5 := zH (HT0.o.growG HT8.o rfl h2 HE8.o (T1 := 47) zD zD zD (λ g hg => ⟨(HO8.o.blk hg).1, (HO8.o.blk hg).2.2⟩) g5); obtain ⟨B6, m6, c6, rfl, hm6⟩ := h5.shape; clear h5 g5))
    go_roundg (l.length - (n5 + 1))
    case measure => have := HK.o; omega
    case rel => exact ⟨n5 + 1, by omega, by go_num, by rw [HST.o]; have := HN5.o; rw [hm6, List.length_append] at this; exact this, by rw [HST.o]; exact HT5.o.2.2 _ HM8.o, HT5.o.1, HT5.o.2.1⟩
  . have hje : n5 = l.length := by omega
    subst hje; rw [List.take_length] at HO HMP; go_wp2_with fail
    go_ret; exact ⟨_, rfl, aS.low HO.o HSZ.o, HMP.o, HT.o, HK0.o.trans HE.o⟩
theorem vC {f : Tx -> Int} (l : List Tx) (s : Tx) : (l ++ [s]).map f = l.map f ++ [f s] := by simp
theorem rO (h : aJ B w H kv t) (hB : B <= w.heap.size) {v : Value} {l : List Tx} (hl : aF w v l) (hnl : l.length <= 4194303) :
  Calls prog 35 #[.pointer (some ⟨H.N, 0, none⟩), v] w (λ e w' => ∃ v', e = .returned v' /\ cy w.heap.size w' v' (l.map t.var) /\ aJ B w' H kv t /\ au B w w') := by
 obtain ⟨A, c, rfl, hc, hm, he⟩ := hl; have hkl : l.length <= 9223372036854775807 := zO; have HEL := zH he; have HB := zH hB; have H0 := zH h; have HNL := zH hnl; clear h hB hc hm he hnl; go_enter func35, ntmps35
 go_wp2_with fail
 go_loopg [5, 10] l.length (λ g ov v wr => ∃ j : Nat, j + g = l.length /\ v = .int .i64 j /\ cy w.heap.size wr ov ((l.take j).map t.var) /\ aJ B wr H kv t /\ Below w.heap.size w wr)
 case atStart => exact ⟨0, by omega, rfl, cy.nil _ _, H0.o, Below.refl _ _⟩
 case round =>
  obtain ⟨j, hjg, rfl, hown, hty, hbe⟩ := hrel; obtain ⟨wz, rfl⟩ := zW wr; have HK := zH hjg; have HT := zH hty; have HE := zH hbe; have HO := zH hown; have HBZ := zH (Nat.le_trans HB.o hbe.size); have hjl : j <= l.length := zO; obtain ⟨A5, n5, c5, rfl, hn5⟩ := hown.shape; rw [List.length_map, List.length_take, Nat.min_eq_left hjl] at hn5; subst hn5; clear hjg hty hbe hown; by_cases hlt : n5 < l.length
  . obtain ⟨s, hs⟩ := zG hlt; obtain ⟨L9, hE9, rfl, hsl⟩ := HEL.o n5 s hs; obtain ⟨a9, ea9, _, _, q9⟩ := dL (hE9.under HE.o); subst ea9; rw [Nat.mul_one] at q9; obtain ⟨_, c4, _, _, _⟩ := HT.o.cellsAt; have hlk := HT.o.look hsl; obtain ⟨y, hy⟩ : ∃ y, t.var s = y := ⟨_, rfl⟩; rw [hy] at hlk
    have HST := zH (show (l.take (n5 + 1)).map t.var = (l.take n5).map t.var ++ [y] by
     obtain ⟨_, rfl⟩ := List.getElem?_eq_some_iff.1 hs; rw [List.take_succ_eq_append_getElem hlt, vC, hy])
    have HFL := zH (show ((l.take n5).map t.var).length <= 4194304 by have := HNL.o; rw [List.length_map, List.length_take]; omega); have hal := zA wz (.cells #[.int .i64 y] 3); have HT8 := zH (HT.o.under hal HBZ.o); have HE8 := zH (HE.o.trans (hal.mono HE.o.size)); have HO8 := zH (HO.o.under hal); clear hs hE9 hal hsl
    go_wp2_with (first
     | (at_builtin
        refine nh 103 underlying103 rfl _ _ rfl rfl rfl (heap_alloc_new _ _) HO8.o HFL.o ?_ ?_
        . exact HE8.o.size
        intro v5 w5 h5; obtain ⟨V5, rfl⟩ := zW w5; have HN5 := zH h5.own; have HT5 := zH (H0.o.grow HT8.o rfl (au.of_below HE8.o HB.o) HO8.o h5.grown); have HB5 := zH (HE8.o.grown h5.grown HE8.o.size (λ g hg => (et HO8.o hg).1)); obtain ⟨B6, m6, c6, rfl, hm6⟩ := h5.own.shape; clear h5))
    go_roundg (l.length - (n5 + 1))
    case measure => have := HK.o; omega
    case rel => exact ⟨n5 + 1, by omega, by go_num, by rw [HST.o]; have := HN5.o; rw [show m6 = n5 + 1 by rw [hm6, List.length_append, List.length_map, List.length_take, Nat.min_eq_left hjl]; rfl] at this; exact this, HT5.o.1, HB5.o⟩
  . have hje : n5 = l.length := by omega
    subst hje; rw [List.take_length] at HO; go_wp2_with fail
    go_ret; exact ⟨_, rfl, HO.o, HT.o, au.of_below HE.o HB.o⟩
end
def rF (C : Nat) (w : World) (L : List Value) (s : SgE) : Prop := ∃ a b, L = [.slice none 0 0, a, b] /\ dc C w a s.ins /\ dc C w b s.outs
def cV (C : Nat) (w : World) (v : Value) (l : List SgE) : Prop := aS (rF C w) C 38 3 w v l
def wK (L : List Value) (p : Tx × Int) : Prop := L = [.string (str p.1), .int .i64 p.2, .slice none 0 0] /\ p.1.length <= maxLen
def eo (C : Nat) (w : World) (v : Value) (l : List (Tx × Int)) : Prop := aS wK C 64 3 w v l
theorem pL {C : Nat} {w : World} (L : List Value) (s : SgE) (h : rF C w L s) : L.length = 3 := by
 obtain ⟨a, b, rfl, _⟩ := h; rfl
theorem pK {C : Nat} {w : World} (L : List Value) (s : SgE) (h : rF C w L s) : ∀ u ∈ L, u.oneCell' = true := by
 obtain ⟨a, b, rfl, h1, h2⟩ := h; obtain ⟨_, _, _, rfl, _⟩ := h1.shape; obtain ⟨_, _, _, rfl, _⟩ := h2.shape; intro u hu; simp at hu; rcases hu with rfl | rfl | rfl <;> rfl
theorem p9 (L : List Value) (p : Tx × Int) (h : wK L p) : L.length = 3 := by rw [h.1]; rfl
theorem p8 (L : List Value) (p : Tx × Int) (h : wK L p) : ∀ u ∈ L, u.oneCell' = true := by
 rw [h.1]; intro u hu; simp at hu; rcases hu with rfl | rfl | rfl <;> rfl
theorem pM : (prog.info? 38).map (λ i => (i.zero, i.size, i.bytes)) = some (some (.agg #[.slice none 0 0, .slice none 0 0, .slice none 0 0]), 3, 72) := by kernel_rfl
theorem qa : (prog.info? 64).map (λ i => (i.zero, i.size, i.bytes)) = some (some (.agg #[.string ⟨#[]⟩, .int .i64 0, .slice none 0 0]), 3, 48) := by kernel_rfl
def bs (T1 : TypeId) (W X : World) : Prop := ∃ M : Nat -> Prop, ba M W X /\ ∀ b, M b -> ∃ cs, W.heap[b]? = some (.cells cs T1 (0, 0))
section
variable {T1 : TypeId} {W X : World}
theorem bs.cells (h : bs T1 W X) {b : Nat} {cs : Array Value} {T0 : TypeId} (hb : W.heap[b]? = some (.cells cs T0 (0, 0))) (hne : T0 ≠ T1) : X.heap[b]? = some (.cells cs T0 (0, 0)) := by
 obtain ⟨M, hk, hM⟩ := h; refine hk.heap hb λ hm => ?_; obtain ⟨cs', h1⟩ := hM b hm; rw [hb] at h1; injection h1 with h1; injection h1 with _ h1 _; exact hne h1
theorem bs.map (h : bs T1 W X) {b : Nat} {es : Array MapEntry} {c : Nat} (hb : W.heap[b]? = some (.map es c)) : X.heap[b]? = some (.map es c) := by
 obtain ⟨M, hk, hM⟩ := h; refine hk.heap hb λ hm => ?_; obtain ⟨cs', h1⟩ := hM b hm; rw [hb] at h1; cases h1
theorem bs.set {I j : Nat} {cs : Array Value} (hI : W.heap[I]? = some (.cells cs T1 (0, 0))) (u : Value) : bs T1 W (W.setCell ⟨I, j, none⟩ u) :=
 ⟨(· = I), (ba.refl (· = I) W).set (a := ⟨I, j, none⟩) (.inl rfl) u, λ b hb => ⟨cs, by rw [show b = I from hb]; exact hI⟩⟩
theorem bs.grown {X' : Type} {R : List Value -> X' -> Prop} {C n : Nat} {v : Value} {xs : List X'} (hO : aS R C T1 n W v xs) (hg : W.grownBy X v.ownBlock) : bs T1 W X :=
 ⟨λ b => v.ownBlock = some b, ba.of_grown hg λ _ e => e, λ _ hb => (hO.blk hb).2.2⟩
theorem dc.keptT {C : Nat} {v : Value} {l : List Int} (hO : dc C W v l) (h : bs T1 W X) (hne : 47 ≠ T1) : dc C X v l :=
 aS.keepR hO (λ g o hg ho => by
  obtain ⟨_, _, cur, hc⟩ := hO.blk hg
  rw [hc] at ho
  cases ho
  exact h.cells hc hne) λ _ _ _ h => h
theorem cV.keptT {C : Nat} {v : Value} {l : List SgE} (hO : cV C W v l) (h : bs T1 W X) (hne : 38 ≠ T1) (hnt : 47 ≠ T1) : cV C X v l :=
 aS.keepR hO (λ g o hg ho => by
  obtain ⟨_, _, cur, hc⟩ := hO.blk hg
  rw [hc] at ho
  cases ho
  exact h.cells hc hne) λ L s _ ⟨a, b, e, h1, h2⟩ => ⟨a, b, e, h1.keptT h hnt, h2.keptT h hnt⟩
theorem eo.keptT {C : Nat} {v : Value} {l : List (Tx × Int)} (hO : eo C W v l) (h : bs T1 W X) (hne : 64 ≠ T1) : eo C X v l :=
 aS.keepR hO (λ g o hg ho => by
  obtain ⟨_, _, cur, hc⟩ := hO.blk hg
  rw [hc] at ho
  cases ho
  exact h.cells hc hne) λ _ _ _ h => h
theorem cV.grownTo {C : Nat} {v' : Value} {m : List SgE} (hO : aS (rF C W) C 38 3 X v' m) (h : bs 38 W X) : cV C X v' m :=
 aS.keepR hO (λ _ _ _ h => h) λ L s _ ⟨a, b, e, h1, h2⟩ => ⟨a, b, e, h1.keptT h zD, h2.keptT h zD⟩
theorem cV.keepF {F B C : Nat} {v : Value} {l : List SgE} (hO : cV C W v l) (h : aE F B W X) : cV C X v l :=
 aS.keepR hO (λ g o hg ho => by
  obtain ⟨_, _, cur, hc⟩ := hO.blk hg
  rw [hc] at ho
  cases ho
  exact h.cells g cur _ zD zD zD hc) λ L s _ ⟨a, b, e, h1, h2⟩ => ⟨a, b, e, h.ownTy h1, h.ownTy h2⟩
theorem eo.keepF {F B C : Nat} {v : Value} {l : List (Tx × Int)} (hO : eo C W v l) (h : aE F B W X) : eo C X v l :=
 aS.keepR hO (λ g o hg ho => by
  obtain ⟨_, _, cur, hc⟩ := hO.blk hg
  rw [hc] at ho
  cases ho
  exact h.cells g cur _ zD zD zD hc) λ _ _ _ h => h
theorem dc.under {C : Nat} {v : Value} {l : List Int} (hO : dc C W v l) (hb : Below W.heap.size W X) : dc C X v l := aS.under hO hb
theorem cV.under {C : Nat} {v : Value} {l : List SgE} (hO : cV C W v l) (hb : Below W.heap.size W X) : cV C X v l := hO.keepF ((au.of_below hb (Nat.le_refl _)).but 0)
theorem eo.under {C : Nat} {v : Value} {l : List (Tx × Int)} (hO : eo C W v l) (hb : Below W.heap.size W X) : eo C X v l := aS.under hO hb
structure oR (B F J E : Nat) (Ev : Array Value) (H : TyH) (kv : Value) (t : TSt) (nums : List (Int × Int)) (w : World) : Prop where
 ty : aJ B w H kv t
 mp : aU w F (cD nums)
 nb : w.heap[J]? = some (.cells #[.pointer (some ⟨H.k, 0, none⟩), .map (some F)] 101 (0, 0))
 eb : w.heap[E]? = some (.cells Ev 53 (0, 0))
variable {B F J E : Nat} {Ev : Array Value} {H : TyH} {kv : Value} {t : TSt} {nums nums' : List (Int × Int)}
theorem oR.after (h : oR B F J E Ev H kv t nums W) (ht : aJ B X H kv t) (hm : aU X F (cD nums')) (hk : aE F B W X) : oR B F J E Ev H kv t nums' X :=
 ⟨ht, hm, hk.cells _ _ _ zD zD zD h.nb, hk.cells _ _ _ zD zD zD h.eb⟩
theorem oR.under (h : oR B F J E Ev H kv t nums W) (hb : Below W.heap.size W X) (hB : B <= W.heap.size) : oR B F J E Ev H kv t nums X :=
 h.after (h.ty.under hb hB) (h.mp.under hb) ((au.of_below hb hB).but F)
theorem oR.keptT (h : oR B F J E Ev H kv t nums W) (hk : bs T1 W X) (n1 : 94 ≠ T1) (n2 : 146 ≠ T1) (n3 : 150 ≠ T1) (n4 : 3 ≠ T1) (n5 : 101 ≠ T1) (n6 : 53 ≠ T1) : oR B F J E Ev H kv t nums X := by
 have hown : ∀ {C : Nat} {v : Value} {l : List Int}, cy C W v l -> cy C X v l := λ hO => jQ hO λ g o hg ho => by
  obtain ⟨_, _, cur, hc⟩ := et hO hg; rw [hc] at ho; cases ho; exact hk.cells hc n4
 refine ⟨⟨hk.cells h.ty.box n1, ?_, h.ty.low, ?_, ?_⟩, ?_, hk.cells h.nb n5, hk.cells h.eb n6⟩
 . obtain ⟨M, hk1, hM⟩ := hk; refine h.ty.knot.kept hk1 λ b hb hm => ?_; obtain ⟨cs, h1⟩ := hM b hm; obtain ⟨cs', h2 | h2⟩ := h.ty.knot.foot hb
   . rw [h2] at h1; injection h1 with h1; injection h1 with _ h1 _; exact n2 h1
   . rw [h2] at h1; injection h1 with h1; injection h1 with _ h1 _; exact n3 h1
 . obtain ⟨es, c, hb, hr⟩ := h.ty.vars; exact ⟨es, c, hk.map hb, hr⟩
 . obtain ⟨L, ⟨es, c, hb, hr⟩, h2, h3⟩ := h.ty.funs; refine ⟨L, ⟨es, c, hk.map hb, hr⟩, h2, λ i p q hp hq => ?_⟩; obtain ⟨a, b, e, g1, g2⟩ := h3 i p q hp hq; exact ⟨a, b, e, hown g1, hown g2⟩
 . obtain ⟨es, c, hb, hr⟩ := h.mp; exact ⟨es, c, hk.map hb, hr⟩
end
theorem xt (ks : KS) (s : SgE) (l : List SgE) : ∀ nums : List (Int × Int), aT ks nums (l ++ [s]) = ((oM ks (aT ks nums l).1 s).1, (aT ks nums l).2 ++ [(oM ks (aT ks nums l).1 s).2]) := by
 induction l with
 | nil => intro nums; rfl
 | cons x r ih => intro nums; rw [List.cons_append, aT, ih, aT]; rfl
theorem nD (ks : KS) (l : List SgE) : ∀ nums : List (Int × Int), (aT ks nums l).1.length <= nums.length + gO l /\ (aT ks nums l).2.length = l.length := by
 induction l with
 | nil => intro nums; exact ⟨Nat.le_refl _, rfl⟩
 | cons s r ih =>
   intro nums; rw [aT, gO]; obtain ⟨h1, _⟩ := dy ks s.ins nums; obtain ⟨h2, _⟩ := dy ks s.outs (a7 ks nums s.ins).1; obtain ⟨h3, h4⟩ := ih (oM ks nums s).1; have h5 : (oM ks nums s).1.length <= nums.length + sgN s := by
    show (a7 ks (a7 ks nums s.ins).1 s.outs).1.length <= _; unfold sgN; omega
   simp only [List.length_cons]; exact ⟨by omega, by rw [h4]⟩
end Go.Proofs.YtiholfmmphcbeaaGreatDoor
