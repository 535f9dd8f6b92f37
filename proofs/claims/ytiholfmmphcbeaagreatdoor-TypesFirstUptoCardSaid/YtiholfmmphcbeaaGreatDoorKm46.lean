import Derived.Test.YtiholfmmphcbeaaGreatDoorKm45
set_option maxHeartbeats 8000000
set_option maxRecDepth 100000
namespace Go.Proofs.YtiholfmmphcbeaaGreatDoor
open _root_.Go.Proofs.Tryz
open Go.RowKit
def kE (C : Nat) (w : World) (L : List Value) (q : bz) : Prop := ∃ fv iv ov vv, L = [fv, iv, ov, vv] /\ cV C w fv q.funs /\ dc C w iv q.sg.ins /\ dc C w ov q.sg.outs /\ eo C w vv q.vars
theorem Bp : (prog.info? 41).map (·.size) = some 4 := by kernel_rfl
theorem tS {tmps : Array Value} {w : World} {N : Nat} {x0 x1 x2 x3 : Value} (hp : tmps.getD 4 undef = .pointer (some ⟨N, 0, none⟩)) (hg : w.heap[N]? = some (.cells #[x0, x1, x2, x3] 41 (0, 0))) :
  (results f15 tmps).run prog w = .ok (.agg #[x0, x1, x2, x3]) w :=
 results_cell_row results15 tmps w N 41 _ (0, 0) _ hp hg underlying41 rfl Bp
theorem eK {w : World} {N : Nat} {T : TypeId} {v0 v1 v2 v3 : Value} (h : w.heap[N]? = some (.cells #[v0, v1, v2, v3] T (0, 0))) :
  w.cell? ⟨N, 0, none⟩ = some v0 /\ w.cell? ⟨N, 1, none⟩ = some v1 /\ w.cell? ⟨N, 2, none⟩ = some v2 /\ w.cell? ⟨N, 3, none⟩ = some v3 := by
 refine ⟨?_, ?_, ?_, ?_⟩ <;> simp [World.cell?, h]
theorem iS {X : Type} {R : List Value -> X -> Prop} {B n bytes : Nat} {T TS : TypeId} {z v : Value} {W : World} {xs : List X} {ops : Array Oper} {o : Oper} {a : Act} {K : Act -> World -> Prop} {Q : Exit -> Act -> World -> Prop} {E : Prop} {N : Nat} {L : List Value} {x : X} (hTS : prog.underlying TS = some (.slice T)) (hI : (prog.info? T).map (λ i => (i.zero, i.size, i.bytes)) = some (some z, n, bytes))
  (hz : z.cells.size = n) (hn : 0 < n) (hby : bytes <= 4096) (hR : ∀ L x, R L x -> L.length = n) (hone : ∀ L x, R L x -> ∀ u ∈ L, u.oneCell' = true) (hg : o.guard = none) (s y : Operand)
  (hop : o.op = .call { callee := .builtin .append, args := #[s, y], argTypes := #[TS, TS] }) (hs : a.eval s = v) (hy : a.eval y = .slice (some ⟨N, 0, none⟩) 1 1)
  (hN : W.heap[N]? = some (.cells L.toArray T (0, 0))) (hL : R L x) (hO : aS R B T n W v xs) (hl : xs.length <= 4194303) (hB : B <= W.heap.size)
  (h : ∀ v' w', aS R B T n w' v' (xs ++ [x]) -> W.grownBy w' v.ownBlock -> K (a.put o.dst v') w') : if Region.wanted o (yielded ops a.tmps) = true then Oper.wp prog o a W K Q else E := by
 have hw : Region.wanted o (yielded ops a.tmps) = true := (by simp [Region.wanted, hg]); rw [if_pos hw]; exact yZ s y hop hTS hI hz hn hby hR hone hs hy hO (sZ hN hL (hR L x hL)) (by simp; omega) hB λ v' w' h1 h2 _ => h v' w' h1 h2
theorem pw {l : List Tx} {s : Tx} {r : List Int} {x : Int} (h : l.length = r.length) : (l ++ [s]).zip (r ++ [x]) = l.zip r ++ [(s, x)] := by rw [List.zip_append h]; rfl
theorem cF.keptT {T1 : TypeId} {W X : World} {C : Nat} {v : Value} {l : List Tx} (hO : cF C W v l) (h : bs T1 W X) (hne : 9 ≠ T1) : cF C X v l := hO.keep λ g o hg ho => by
 obtain ⟨_, cur, hc⟩ := hO.block hg
 rw [hc] at ho
 cases ho
 exact h.cells hc hne
section
variable {B : Nat} {w w0 : World} {H : TyH} {kv : Value} {t : TSt}
theorem xg {n : aA} {L : List Value} (h : aJ B w H kv t) (hB : B <= w.heap.size) (hb : Below w0.heap.size w0 w) (hwB : w0.heap.size <= B) (hL : bS w0 L n)
  (hV : ∀ W, Below w0.heap.size w0 W -> Calls prog 30 #[.agg L.toArray] W (λ e w' => ∃ v, e = .returned v /\ cF W.heap.size w' v (aG n) /\ Below W.heap.size W w'))
  (hf : ∀ f ∈ n.funs, bl t.funs f ≠ none) (hn : gO (n.funs.map λ s => (bl t.funs s).getD ⟨[], []⟩) + n.ins.length + n.outs.length + (aG n).length < 4194302) (hfl : n.funs.length <= 6) :
  Calls prog 15 #[.pointer (some ⟨H.N, 0, none⟩), .agg L.toArray] w (λ e w' => ∃ L', e = .returned (.agg L'.toArray) /\ kE w.heap.size w' L' (oq t n) /\ Below B w w') := by
 obtain ⟨fv, iv, ov, xv, rfl, hnm, hfu, hin, hou, hit⟩ := hL; have HIN := zH hin; have HOU := zH hou; obtain ⟨Af, cf, rfl, hfc, hfm, hfe⟩ := hfu; obtain ⟨Ai, ci, rfl, hic, him, hie⟩ := hin; obtain ⟨Ao, co, rfl, hoc, hom, hoe⟩ := hou; obtain ⟨Ax, nx, cx', rfl⟩ := ak.shape hit; have hal := zA w (.cells #[.string (str n.name), .slice Af n.funs.length cf, .slice Ai n.ins.length ci, .slice Ao n.outs.length co, .slice Ax nx cx'] 53); have HFE := zH hfe; have HN := zH hn; have HWB := zH hwB; have HF := zH hf; have HV := zH hV; have HB := zH hB; have H0 := zH h; have HB0 := zH hb; have hmm := @run_makeMap prog; have hal2 := hal.alloc (by simp) (.cells #[.slice none 0 0, .slice none 0 0, .slice none 0 0, .slice none 0 0] 41); have hal3 := hal2.alloc (by simp; omega) (.map #[] 0); have hal4 := hal3.alloc (by simp; omega) (.cells #[.pointer (some ⟨H.k, 0, none⟩), .map (some (w.heap.size + 1 + 1))] 101); have hal5 := hal4.alloc (by simp; omega) (.cells #[.slice none 0 0, .slice none 0 0, .slice none 0 0, .slice none 0 0] 41); obtain ⟨c3, _, _, _, _⟩ := (h.under hal2 hB).cellsAt; have hmv : H.mv ≠ w.heap.size + 1 + 1 := λ e => by have := h.vars.lt; omega
 have hmf : H.mf ≠ w.heap.size + 1 + 1 := λ e => by
  obtain ⟨_, hf1, _⟩ := h.funs; have := hf1.lt; omega
 have hbf : B <= w.heap.size + 1 + 1 := zO; have hs2 : ((w.alloc (.cells #[.string (str n.name), .slice Af n.funs.length cf, .slice Ai n.ins.length ci, .slice Ao n.outs.length co, .slice Ax nx cx'] 53)).alloc (.cells #[.slice none 0 0, .slice none 0 0, .slice none 0 0, .slice none 0 0] 41)).heap.size = w.heap.size + 1 + 1 := (by simp); have hm0 := aU.made ((w.alloc (.cells #[.string (str n.name), .slice Af n.funs.length cf, .slice Ai n.ins.length ci, .slice Ao n.outs.length co, .slice Ax nx cx'] 53)).alloc (.cells #[.slice none 0 0, .slice none 0 0, .slice none 0 0, .slice none 0 0] 41)); rw [hs2] at hm0
 have HSN := zH (show oR B (w.heap.size + 1 + 1) (w.heap.size + 1 + 1 + 1) w.heap.size #[.string (str n.name), .slice Af n.funs.length cf, .slice Ai n.ins.length ci, .slice Ao n.outs.length co, .slice Ax nx cx'] H kv t [] (((((w.alloc (.cells #[.string (str n.name), .slice Af n.funs.length cf, .slice Ai n.ins.length ci, .slice Ao n.outs.length co, .slice Ax nx cx'] 53)).alloc (.cells #[.slice none 0 0, .slice none 0 0, .slice none 0 0, .slice none 0 0] 41)).alloc (.map #[] 0)).alloc (.cells #[.pointer (some ⟨H.k, 0, none⟩), .map (some (w.heap.size + 1 + 1))] 101)).alloc (.cells #[.slice none 0 0, .slice none 0 0, .slice none 0 0, .slice none 0 0] 41)) from
  ⟨h.under hal5 hB, (hm0.under ((Below.refl _ _).alloc (Nat.le_refl _) _)).under ((Below.refl _ _).alloc (Nat.le_refl _) _), az (bh (by simp)), az (az (az (az (heap_alloc_new w _))))⟩)
 have HBI := zH (show (((((w.alloc (.cells #[.string (str n.name), .slice Af n.funs.length cf, .slice Ai n.ins.length ci, .slice Ao n.outs.length co, .slice Ax nx cx'] 53)).alloc (.cells #[.slice none 0 0, .slice none 0 0, .slice none 0 0, .slice none 0 0] 41)).alloc (.map #[] 0)).alloc (.cells #[.pointer (some ⟨H.k, 0, none⟩), .map (some (w.heap.size + 1 + 1))] 101)).alloc (.cells #[.slice none 0 0, .slice none 0 0, .slice none 0 0, .slice none 0 0] 41)).heap[w.heap.size + 1 + 1 + 1 + 1]? = some (.cells #[.slice none 0 0, .slice none 0 0, .slice none 0 0, .slice none 0 0] 41 (0, 0)) from bh (by simp)); have HBR := zH (show (((((w.alloc (.cells #[.string (str n.name), .slice Af n.funs.length cf, .slice Ai n.ins.length ci, .slice Ao n.outs.length co, .slice Ax nx cx'] 53)).alloc (.cells #[.slice none 0 0, .slice none 0 0, .slice none 0 0, .slice none 0 0] 41)).alloc (.map #[] 0)).alloc (.cells #[.pointer (some ⟨H.k, 0, none⟩), .map (some (w.heap.size + 1 + 1))] 101)).alloc (.cells #[.slice none 0 0, .slice none 0 0, .slice none 0 0, .slice none 0 0] 41)).heap[w.heap.size + 1]? = some (.cells #[.slice none 0 0, .slice none 0 0, .slice none 0 0, .slice none 0 0] 41 (0, 0)) from az (az (az (bh (by simp))))); have HBL := zH (hal5.mono hB); have HBB := zH (Nat.le_trans hB hal5.size); have HBW := zH hB; have HF6 := zH hfl; have hfl2 : n.funs.length <= 9223372036854775807 := zO; clear h hB hb hwB hV hf hn hit hoc hom hoe hic him hie hfc hfm hfe hnm hfl hal hal2 hal3 hal4 hal5 hm0 hs2; go_enter func15, ntmps15
 go_wp2_with fail
 obtain ⟨I, hI⟩ : ∃ I, I = w.heap.size + 1 + 1 + 1 + 1 := ⟨_, rfl⟩; rw [<- hI] at HBI; rw [<- hI]; obtain ⟨J, hJ⟩ : ∃ J, J = w.heap.size + 1 + 1 + 1 := ⟨_, rfl⟩; rw [<- hJ] at HSN; rw [<- hJ]; obtain ⟨F, hF⟩ : ∃ F, F = w.heap.size + 1 + 1 := ⟨_, rfl⟩; rw [<- hF] at HSN HBI HBR HBL HBB hmv hmf hbf; rw [<- hF]; obtain ⟨R, hR⟩ : ∃ R, R = w.heap.size + 1 := ⟨_, rfl⟩; rw [<- hR] at HBR; rw [<- hR]; have HIR := zH (show R ≠ I /\ w.heap.size <= R /\ w.heap.size <= I by omega); clear hI hJ hF hR c3; generalize (((((w.alloc (.cells #[.string (str n.name), .slice Af n.funs.length cf, .slice Ai n.ins.length ci, .slice Ao n.outs.length co, .slice Ax nx cx'] 53)).alloc (.cells #[.slice none 0 0, .slice none 0 0, .slice none 0 0, .slice none 0 0] 41)).alloc (.map #[] 0)).alloc (.cells #[.pointer (some ⟨H.k, 0, none⟩), .map (some F)] 101)).alloc (.cells #[.slice none 0 0, .slice none 0 0, .slice none 0 0, .slice none 0 0] 41)) = V0 at *; obtain ⟨fsL, hfsL⟩ : ∃ l, l = n.funs.map λ s => (bl t.funs s).getD ⟨[], []⟩ := ⟨_, rfl⟩; have HFS := zH hfsL; rw [<- hfsL] at HN; clear hfsL; go_loopg [22] n.funs.length (λ g v wr => ∃ j : Nat, j + g = n.funs.length /\ v = .int .i64 j /\ ∃ fv, wr.heap[I]? = some (.cells #[fv, .slice none 0 0, .slice none 0 0, .slice none 0 0] 41 (0, 0)) /\ cV w.heap.size wr fv (aT t.ks [] (fsL.take j)).2 /\ oR B F J w.heap.size #[.string (str n.name), .slice Af n.funs.length cf, .slice Ai n.ins.length ci, .slice Ao n.outs.length co, .slice Ax nx cx'] H kv t (aT t.ks [] (fsL.take j)).1 wr /\ wr.heap[R]? = some (.cells #[.slice none 0 0, .slice none 0 0, .slice none 0 0, .slice none 0 0] 41 (0, 0)) /\ Below B w wr)
 case atStart => exact ⟨0, by omega, rfl, _, HBI.o, aS.nil _, HSN.o, HBR.o, HBL.o⟩
 case round =>
  obtain ⟨j, hjg, rfl, fv, hbi, hsg, hnu, hbr, hbe⟩ := hrel; obtain ⟨wz, rfl⟩ := zW wr; have HK := zH hjg; have BIZ := zH hbi; have HSZ := zH hsg; have HNZ := zH hnu; have BRZ := zH hbr; have HBZ := zH hbe; have HBBZ := zH (Nat.le_trans HBW.o hbe.size); have hjl : j <= n.funs.length := zO; have hfl3 : fsL.length = n.funs.length := (by rw [HFS.o, List.length_map]); have HBWZ := zH (HB0.o.trans (hbe.mono HWB.o)); have HFW := zH (nD t.ks (fsL.take j) []); obtain ⟨A6, n6, c6, rfl, hn6⟩ := hsg.shape; rw [HFW.o.2, List.length_take, hfl3, Nat.min_eq_left hjl] at hn6; subst hn6; clear hjg hbi hsg hnu hbr hbe; by_cases hlt : n6 < n.funs.length
  . obtain ⟨f, hf⟩ := zG hlt; obtain ⟨s, hs⟩ : ∃ s, bl t.funs f = some s := Option.ne_none_iff_exists'.1 (HF.o f (List.mem_of_getElem? hf)); have hfs : fsL[n6]? = some s := (by rw [HFS.o, List.getElem?_map, hf]; simp [hs])
    have HST := zH (show aT t.ks [] (fsL.take (n6 + 1)) = ((oM t.ks (aT t.ks [] (fsL.take n6)).1 s).1, (aT t.ks [] (fsL.take n6)).2 ++ [(oM t.ks (aT t.ks [] (fsL.take n6)).1 s).2]) by
     obtain ⟨hl3, rfl⟩ := List.getElem?_eq_some_iff.1 hfs; rw [List.take_succ_eq_append_getElem hl3, xt])
    have hbd := r5 fsL n6 s hfs; have HFL := zH (show (aT t.ks [] (fsL.take n6)).2.length <= 4194303 by have h2 := HF6.o; rw [HFW.o.2, List.length_take]; omega); obtain ⟨L9, hE9, rfl, hfl9⟩ := HFE.o n6 f hf; obtain ⟨a9, ea9, _, _, q9⟩ := dL (hE9.under HBWZ.o); subst ea9; rw [Nat.mul_one] at q9; obtain ⟨_, _, c5, _, _⟩ := HNZ.o.ty.cellsAt; obtain ⟨fa, fb, h4, h5, hr⟩ := HNZ.o.ty.funs.yes hs; have hrun := (hr _ (Below.refl _ _)).2; obtain ⟨A4, n4, k4, rfl, rfl⟩ := h4.shape; obtain ⟨A5, n5, k5, rfl, rfl⟩ := h5.shape; have hal1 := zA wz (.cells #[.slice none 0 0, .slice A4 s.ins.length k4, .slice A5 s.outs.length k5] 105); have HN1 := zH (HNZ.o.under hal1 HBBZ.o); have HBB1 := zH (Nat.le_trans HBBZ.o hal1.size); have HB1 := zH (HBZ.o.trans (hal1.mono HBBZ.o)); have HS1 := zH (HSZ.o.under hal1); have BI1 := zH ((hal1.block _ (ab BIZ.o)).trans BIZ.o); have BR1 := zH ((hal1.block _ (ab BRZ.o)).trans BRZ.o); have BT1 := zH (heap_alloc_new wz (.cells #[.slice none 0 0, .slice A4 s.ins.length k4, .slice A5 s.outs.length k5] 105)); have H5 := zH (h5.under hal1); have hb1 := HFW.o.1; rw [List.length_nil] at hb1; have HA2 := zH (kJ (F := F) HN1.o.ty HBB1.o hbf hmv hmf HN1.o.mp (h4.under hal1).nums (by have h2 := HN.o; unfold sgN at hbd; omega)); have HFB := zH (show (a7 t.ks (aT t.ks [] (fsL.take n6)).1 s.ins).1.length + s.outs.length < 4194303 by have h1 := (dy t.ks s.ins (aT t.ks [] (fsL.take n6)).1).1; have h2 := HN.o; unfold sgN at hbd; omega); obtain ⟨j0, j1⟩ := bb HN1.o.nb; obtain ⟨_, t1, t2⟩ := bo BT1.o; clear hf hs hfs hbd hE9 hfl9 h4 h5 hr hal1 hb1
    go_wp2_with (go_at_call 34
                 (with_reducible refine HA2.o.mono ?_); rintro e w2 ⟨v2, rfl, ho2, hm2, ht2, hk2⟩; obtain ⟨V2, rfl⟩ := zW w2; have HN2 := zH (HN1.o.after ht2 hm2 hk2); have HBB2 := zH (Nat.le_trans HBB1.o hk2.below.size); have HB2 := zH (HB1.o.trans hk2.below); have HS2 := zH (HS1.o.keepF hk2); have HO2 := zH (show dc w.heap.size V2 v2 (a7 t.ks (aT t.ks [] (fsL.take n6)).1 s.ins).2 from aS.low ho2 HB1.o.size); have BI2 := zH (hk2.cells _ _ _ zD zD zD BI1.o); have BR2 := zH (hk2.cells _ _ _ zD zD zD BR1.o); have BT2 := zH (hk2.cells _ _ _ zD zD zD BT1.o); have HA3 := zH (kJ (F := F) (w := V2.drew) (HN2.o.ty.under (zB V2).drew HBB2.o) HBB2.o hbf hmv hmf (HN2.o.mp.under (zB V2).drew) (show bJ V2.drew _ _ from (hk2.own H5.o).nums) HFB.o); obtain ⟨A2, n2, k2, rfl, rfl⟩ := ho2.shape; obtain ⟨j0, j1⟩ := bb HN2.o.nb; obtain ⟨_, _, t2⟩ := bo BT2.o; obtain ⟨q0, _, _, _⟩ := eK BI2.o; clear ho2 hm2 ht2 hk2)
    have KT := zH (show (λ W : World => W.cell? ⟨J, 0, none⟩ = some (.pointer (some ⟨H.k, 0, none⟩)) /\ W.cell? ⟨J, 1, none⟩ = some (.map (some F)) /\ W.cell? ⟨wz.heap.size, 2, none⟩ = some (.slice A5 s.outs.length k5)) V2.drew from ⟨j0, j1, t2⟩); refine wp_region_held_drew (S := (λ W : World => W.cell? ⟨J, 0, none⟩ = some (.pointer (some ⟨H.k, 0, none⟩)) /\ W.cell? ⟨J, 1, none⟩ = some (.map (some F)) /\ W.cell? ⟨wz.heap.size, 2, none⟩ = some (.slice A5 s.outs.length k5))) zK ?_ (λ hHeld => ?_)
    . exact KT.o
    refine aa 0 ?_; refine aa 1 ?_; refine aa 3 ?_; refine aa 4 ?_; refine aa 5 ?_; refine aa 6 ?_; refine wpAnyH_ready (rs := [2, 7]) zK (by simp) (db 2 rfl (λ K hK => ?_) (db 7 rfl (λ K hK => ?_) AllReadyH.nil))
    . go_simp
      refine hK.out _ _ ⟨j0, j1, t2⟩ (λ hHeld => ?_); clear hK K; try simp only [Act.put, aO, aM, aN]
      refine aq 7 zK rfl (λ K hK => ?_); go_simp
      (go_at_call 34
       (with_reducible refine HA3.o.mono ?_); rintro e w3 ⟨v3, rfl, ho3, hm3, ht3, hk3⟩; obtain ⟨V3, rfl⟩ := zW w3; have HN3 := zH (HN2.o.after ht3 hm3 (((au.of_below (zB V2).drew HBB2.o).but F).trans hk3)); have hkd := ((au.of_below (zB V2).drew HBB2.o).but F).trans hk3; have HBB3 := zH (Nat.le_trans HBB2.o hkd.below.size); have HS3 := zH (HS2.o.keepF hkd); have HO3 := zH (hkd.ownTy HO2.o); have HP3 := zH (show dc w.heap.size V3 v3 (a7 t.ks (a7 t.ks (aT t.ks [] (fsL.take n6)).1 s.ins).1 s.outs).2 from aS.low ho3 HB2.o.size); have BI3 := zH (hkd.cells _ _ _ zD zD zD BI2.o); have BR3 := zH (hkd.cells _ _ _ zD zD zD BR2.o); have BT3 := zH (hkd.cells _ _ _ zD zD zD BT2.o); have HB3 := zH (HB2.o.trans hkd.below); obtain ⟨A3, n3, k3, rfl, rfl⟩ := ho3.shape; obtain ⟨j0, j1⟩ := bb HN3.o.nb; obtain ⟨_, _, t2⟩ := bo BT3.o; obtain ⟨q0, _, _, _⟩ := eK BI3.o; clear ho3 hm3 ht3 hk3 hkd)
      refine hK.out _ _ ⟨j0, j1, t2⟩ (λ hHeld => ?_); clear hK K; try simp only [Act.put, aO, aM, aN]
      refine aa 8 ?_; refine aq 9 zK rfl (λ K hK => ?_); go_simp
      have hal6 := zA V3 (.cells #[.slice none 0 0, .slice A2 (a7 t.ks (aT t.ks [] (fsL.take n6)).1 s.ins).2.length k2, .slice A3 (a7 t.ks (a7 t.ks (aT t.ks [] (fsL.take n6)).1 s.ins).1 s.outs).2.length k3] 38); have HN6 := zH (HN3.o.under hal6 HBB3.o); have HS6 := zH (HS3.o.under hal6); have BI6 := zH ((hal6.block _ (ab BI3.o)).trans BI3.o); have BR6 := zH ((hal6.block _ (ab BR3.o)).trans BR3.o); have BT6 := zH ((hal6.block _ (ab BT3.o)).trans BT3.o); have HB6 := zH (HB3.o.trans (hal6.mono HBB3.o)); have HX6 := zH (show rF w.heap.size (V3.alloc (.cells #[.slice none 0 0, .slice A2 (a7 t.ks (aT t.ks [] (fsL.take n6)).1 s.ins).2.length k2, .slice A3 (a7 t.ks (a7 t.ks (aT t.ks [] (fsL.take n6)).1 s.ins).1 s.outs).2.length k3] 38)) [.slice none 0 0, .slice A2 (a7 t.ks (aT t.ks [] (fsL.take n6)).1 s.ins).2.length k2, .slice A3 (a7 t.ks (a7 t.ks (aT t.ks [] (fsL.take n6)).1 s.ins).1 s.outs).2.length k3] (oM t.ks (aT t.ks [] (fsL.take n6)).1 s).2 from ⟨_, _, rfl, HO3.o.under hal6, HP3.o.under hal6⟩); obtain ⟨j0, j1⟩ := bb HN6.o.nb; obtain ⟨_, _, t2⟩ := bo BT6.o; refine hK.out _ _ ⟨j0, j1, t2⟩ (λ hHeld => ?_); clear hK K hal6; try simp only [Act.put, aO, aM, aN]
      refine aq 10 zK rfl (λ K hK => ?_)
      (refine iS underlying35 pM rfl zD zD pL pK rfl _ _ rfl rfl rfl (heap_alloc_new _ _) HX6.o HS6.o HFL.o HB6.o.size ?_
       intro v7 w7 h7 g7; obtain ⟨V7, rfl⟩ := zW w7; have hk7 : bs 38 _ V7 := bs.grown HS6.o g7; have HN7 := zH (HN6.o.keptT hk7 zD zD zD zD zD zD); have BI7 := zH (hk7.cells BI6.o zD); have BR7 := zH (hk7.cells BR6.o zD); have BT7 := zH (hk7.cells BT6.o zD); have HS7 := zH (cV.grownTo h7 hk7); have HB7 := zH (HB6.o.grown g7 (Nat.le_trans HBW.o HB6.o.size) (λ g hg => Nat.le_trans HBW.o (HS6.o.blk hg).1)); obtain ⟨A7, n7, k7, rfl, -⟩ := h7.shape; clear h7 g7 hk7)
      obtain ⟨j0, j1⟩ := bb HN7.o.nb; obtain ⟨_, _, t2⟩ := bo BT7.o; refine hK.out _ _ ⟨j0, j1, t2⟩ (λ hHeld => ?_); clear hK K; try simp only [Act.put, aO, aM, aN]
      refine aa 11 ?_; refine aa 12 ?_; obtain ⟨i0, _, _, _⟩ := eK BI7.o; have f0 := bc BI7.o 0; have hk8 : bs 41 V7 (V7.setCell ⟨I, 0, none⟩ (.slice A7 n7 k7)) := bs.set BI7.o _; have HN8 := zH (HN7.o.keptT hk8 zD zD zD zD zD zD); have HS8 := zH (cV.keptT (v := .slice A7 n7 k7) HS7.o hk8 zD zD); have BT8 := zH (hk8.cells BT7.o zD); have BI8 := zH (heap_setCell_same V7 I 0 _ _ (.slice A7 n7 k7) BI7.o); have BR8 := zH ((Below.heap_setCell V7 ⟨I, 0, none⟩ (.slice A7 n7 k7) R HIR.o.1).trans BR7.o); have HB8 := zH (HB7.o.setCell (p := ⟨I, 0, none⟩) (Nat.le_trans HBW.o HIR.o.2.2) (.slice A7 n7 k7)); refine aq 13 zK rfl (λ K hK => ?_); go_simp
      obtain ⟨j0, j1⟩ := bb HN8.o.nb; obtain ⟨_, _, t2⟩ := bo BT8.o; refine hK.out _ _ ⟨j0, j1, t2⟩ (λ hHeld => ?_); clear hK K hk8 i0 f0; try simp only [Act.put]
      refine wpAnyH_done zK ?_ _; clear KT; go_wp2_with fail
      go_roundg (n.funs.length - (n6 + 1))
      case measure => have := HK.o; omega
      case rel => exact ⟨n6 + 1, by omega, by go_num, _, BI8.o, by rw [HST.o]; exact HS8.o, by rw [HST.o]; exact HN8.o, BR8.o, HB8.o⟩
    . go_simp
      (go_at_call 34
       (with_reducible refine HA3.o.mono ?_); rintro e w3 ⟨v3, rfl, ho3, hm3, ht3, hk3⟩; obtain ⟨V3, rfl⟩ := zW w3; have HN3 := zH (HN2.o.after ht3 hm3 (((au.of_below (zB V2).drew HBB2.o).but F).trans hk3)); have hkd := ((au.of_below (zB V2).drew HBB2.o).but F).trans hk3; have HBB3 := zH (Nat.le_trans HBB2.o hkd.below.size); have HS3 := zH (HS2.o.keepF hkd); have HO3 := zH (hkd.ownTy HO2.o); have HP3 := zH (show dc w.heap.size V3 v3 (a7 t.ks (a7 t.ks (aT t.ks [] (fsL.take n6)).1 s.ins).1 s.outs).2 from aS.low ho3 HB2.o.size); have BI3 := zH (hkd.cells _ _ _ zD zD zD BI2.o); have BR3 := zH (hkd.cells _ _ _ zD zD zD BR2.o); have BT3 := zH (hkd.cells _ _ _ zD zD zD BT2.o); have HB3 := zH (HB2.o.trans hkd.below); obtain ⟨A3, n3, k3, rfl, rfl⟩ := ho3.shape; obtain ⟨j0, j1⟩ := bb HN3.o.nb; obtain ⟨_, _, t2⟩ := bo BT3.o; obtain ⟨q0, _, _, _⟩ := eK BI3.o; clear ho3 hm3 ht3 hk3 hkd)
      refine hK.out _ _ ⟨j0, j1, t2⟩ (λ hHeld => ?_); clear hK K; try simp only [Act.put, aO, aM, aN]
      refine aa 8 ?_; refine wpAnyH_ready (rs := [2, 9]) zK (by simp) (db 2 rfl (λ K hK => ?_) (db 9 rfl (λ K hK => ?_) AllReadyH.nil))
      . go_simp
        refine hK.out _ _ ⟨j0, j1, t2⟩ (λ hHeld => ?_); clear hK K; try simp only [Act.put, aO, aM, aN]
        refine aq 9 zK rfl (λ K hK => ?_)
        go_simp
        have hal6 := zA V3 (.cells #[.slice none 0 0, .slice A2 (a7 t.ks (aT t.ks [] (fsL.take n6)).1 s.ins).2.length k2, .slice A3 (a7 t.ks (a7 t.ks (aT t.ks [] (fsL.take n6)).1 s.ins).1 s.outs).2.length k3] 38)
        have HN6 := zH (HN3.o.under hal6 HBB3.o)
        have HS6 := zH (HS3.o.under hal6)
        have BI6 := zH ((hal6.block _ (ab BI3.o)).trans BI3.o)
        have BR6 := zH ((hal6.block _ (ab BR3.o)).trans BR3.o)
        have BT6 := zH ((hal6.block _ (ab BT3.o)).trans BT3.o)
        have HB6 := zH (HB3.o.trans (hal6.mono HBB3.o))
        have HX6 := zH (show rF w.heap.size (V3.alloc (.cells #[.slice none 0 0, .slice A2 (a7 t.ks (aT t.ks [] (fsL.take n6)).1 s.ins).2.length k2, .slice A3 (a7 t.ks (a7 t.ks (aT t.ks [] (fsL.take n6)).1 s.ins).1 s.outs).2.length k3] 38)) [.slice none 0 0, .slice A2 (a7 t.ks (aT t.ks [] (fsL.take n6)).1 s.ins).2.length k2, .slice A3 (a7 t.ks (a7 t.ks (aT t.ks [] (fsL.take n6)).1 s.ins).1 s.outs).2.length k3] (oM t.ks (aT t.ks [] (fsL.take n6)).1 s).2 from ⟨_, _, rfl, HO3.o.under hal6, HP3.o.under hal6⟩)
        obtain ⟨j0, j1⟩ := bb HN6.o.nb
        obtain ⟨_, _, t2⟩ := bo BT6.o
        refine hK.out _ _ ⟨j0, j1, t2⟩ (λ hHeld => ?_)
        clear hK K hal6
        try simp only [Act.put, aO, aM, aN]
        refine aq 10 zK rfl (λ K hK => ?_)
        (refine iS underlying35 pM rfl zD zD pL pK rfl _ _ rfl rfl rfl (heap_alloc_new _ _) HX6.o HS6.o HFL.o HB6.o.size ?_
         intro v7 w7 h7 g7
         obtain ⟨V7, rfl⟩ := zW w7
         have hk7 : bs 38 _ V7 := bs.grown HS6.o g7
         have HN7 := zH (HN6.o.keptT hk7 zD zD zD zD zD zD)
         have BI7 := zH (hk7.cells BI6.o zD)
         have BR7 := zH (hk7.cells BR6.o zD)
         have BT7 := zH (hk7.cells BT6.o zD)
         have HS7 := zH (cV.grownTo h7 hk7)
         have HB7 := zH (HB6.o.grown g7 (Nat.le_trans HBW.o HB6.o.size) (λ g hg => Nat.le_trans HBW.o (HS6.o.blk hg).1))
         obtain ⟨A7, n7, k7, rfl, -⟩ := h7.shape
         clear h7 g7 hk7)
        obtain ⟨j0, j1⟩ := bb HN7.o.nb
        obtain ⟨_, _, t2⟩ := bo BT7.o
        refine hK.out _ _ ⟨j0, j1, t2⟩ (λ hHeld => ?_)
        clear hK K
        try simp only [Act.put, aO, aM, aN]
        refine aa 11 ?_
        refine aa 12 ?_
        obtain ⟨i0, _, _, _⟩ := eK BI7.o
        have f0 := bc BI7.o 0
        have hk8 : bs 41 V7 (V7.setCell ⟨I, 0, none⟩ (.slice A7 n7 k7)) := bs.set BI7.o _
        have HN8 := zH (HN7.o.keptT hk8 zD zD zD zD zD zD)
        have HS8 := zH (cV.keptT (v := .slice A7 n7 k7) HS7.o hk8 zD zD)
        have BT8 := zH (hk8.cells BT7.o zD)
        have BI8 := zH (heap_setCell_same V7 I 0 _ _ (.slice A7 n7 k7) BI7.o)
        have BR8 := zH ((Below.heap_setCell V7 ⟨I, 0, none⟩ (.slice A7 n7 k7) R HIR.o.1).trans BR7.o)
        have HB8 := zH (HB7.o.setCell (p := ⟨I, 0, none⟩) (Nat.le_trans HBW.o HIR.o.2.2) (.slice A7 n7 k7))
        refine aq 13 zK rfl (λ K hK => ?_)
        go_simp
        obtain ⟨j0, j1⟩ := bb HN8.o.nb
        obtain ⟨_, _, t2⟩ := bo BT8.o
        refine hK.out _ _ ⟨j0, j1, t2⟩ (λ hHeld => ?_)
        clear hK K hk8 i0 f0
        try simp only [Act.put]
        refine wpAnyH_done zK ?_ _
        clear KT
        go_wp2_with fail
        go_roundg (n.funs.length - (n6 + 1))
        case measure => have := HK.o; omega
        case rel => exact ⟨n6 + 1, by omega, by go_num, _, BI8.o, by rw [HST.o]; exact HS8.o, by rw [HST.o]; exact HN8.o, BR8.o, HB8.o⟩
      . go_simp
        have hal6 := zA V3 (.cells #[.slice none 0 0, .slice A2 (a7 t.ks (aT t.ks [] (fsL.take n6)).1 s.ins).2.length k2, .slice A3 (a7 t.ks (a7 t.ks (aT t.ks [] (fsL.take n6)).1 s.ins).1 s.outs).2.length k3] 38)
        have HN6 := zH (HN3.o.under hal6 HBB3.o)
        have HS6 := zH (HS3.o.under hal6)
        have BI6 := zH ((hal6.block _ (ab BI3.o)).trans BI3.o)
        have BR6 := zH ((hal6.block _ (ab BR3.o)).trans BR3.o)
        have BT6 := zH ((hal6.block _ (ab BT3.o)).trans BT3.o)
        have HB6 := zH (HB3.o.trans (hal6.mono HBB3.o))
        have HX6 := zH (show rF w.heap.size (V3.alloc (.cells #[.slice none 0 0, .slice A2 (a7 t.ks (aT t.ks [] (fsL.take n6)).1 s.ins).2.length k2, .slice A3 (a7 t.ks (a7 t.ks (aT t.ks [] (fsL.take n6)).1 s.ins).1 s.outs).2.length k3] 38)) [.slice none 0 0, .slice A2 (a7 t.ks (aT t.ks [] (fsL.take n6)).1 s.ins).2.length k2, .slice A3 (a7 t.ks (a7 t.ks (aT t.ks [] (fsL.take n6)).1 s.ins).1 s.outs).2.length k3] (oM t.ks (aT t.ks [] (fsL.take n6)).1 s).2 from ⟨_, _, rfl, HO3.o.under hal6, HP3.o.under hal6⟩)
        obtain ⟨j0, j1⟩ := bb HN6.o.nb
        obtain ⟨_, _, t2⟩ := bo BT6.o
        refine hK.out _ _ ⟨j0, j1, t2⟩ (λ hHeld => ?_)
        clear hK K hal6
        try simp only [Act.put, aO, aM, aN]
        obtain ⟨q9, _, _, _⟩ := eK BI6.o
        refine aq 2 zK rfl (λ K hK => ?_)
        go_simp
        refine hK.out _ _ ⟨j0, j1, t2⟩ (λ hHeld => ?_)
        clear hK K
        try simp only [Act.put, aO, aM, aN]
        refine aq 10 zK rfl (λ K hK => ?_)
        (refine iS underlying35 pM rfl zD zD pL pK rfl _ _ rfl rfl rfl (heap_alloc_new _ _) HX6.o HS6.o HFL.o HB6.o.size ?_
         intro v7 w7 h7 g7
         obtain ⟨V7, rfl⟩ := zW w7
         have hk7 : bs 38 _ V7 := bs.grown HS6.o g7
         have HN7 := zH (HN6.o.keptT hk7 zD zD zD zD zD zD)
         have BI7 := zH (hk7.cells BI6.o zD)
         have BR7 := zH (hk7.cells BR6.o zD)
         have BT7 := zH (hk7.cells BT6.o zD)
         have HS7 := zH (cV.grownTo h7 hk7)
         have HB7 := zH (HB6.o.grown g7 (Nat.le_trans HBW.o HB6.o.size) (λ g hg => Nat.le_trans HBW.o (HS6.o.blk hg).1))
         obtain ⟨A7, n7, k7, rfl, -⟩ := h7.shape
         clear h7 g7 hk7)
        obtain ⟨j0, j1⟩ := bb HN7.o.nb
        obtain ⟨_, _, t2⟩ := bo BT7.o
        refine hK.out _ _ ⟨j0, j1, t2⟩ (λ hHeld => ?_)
        clear hK K
        try simp only [Act.put, aO, aM, aN]
        refine aa 11 ?_
        refine aa 12 ?_
        obtain ⟨i0, _, _, _⟩ := eK BI7.o
        have f0 := bc BI7.o 0
        have hk8 : bs 41 V7 (V7.setCell ⟨I, 0, none⟩ (.slice A7 n7 k7)) := bs.set BI7.o _
        have HN8 := zH (HN7.o.keptT hk8 zD zD zD zD zD zD)
        have HS8 := zH (cV.keptT (v := .slice A7 n7 k7) HS7.o hk8 zD zD)
        have BT8 := zH (hk8.cells BT7.o zD)
        have BI8 := zH (heap_setCell_same V7 I 0 _ _ (.slice A7 n7 k7) BI7.o)
        have BR8 := zH ((Below.heap_setCell V7 ⟨I, 0, none⟩ (.slice A7 n7 k7) R HIR.o.1).trans BR7.o)
        have HB8 := zH (HB7.o.setCell (p := ⟨I, 0, none⟩) (Nat.le_trans HBW.o HIR.o.2.2) (.slice A7 n7 k7))
        refine aq 13 zK rfl (λ K hK => ?_)
        go_simp
        obtain ⟨j0, j1⟩ := bb HN8.o.nb
        obtain ⟨_, _, t2⟩ := bo BT8.o
        refine hK.out _ _ ⟨j0, j1, t2⟩ (λ hHeld => ?_)
        clear hK K hk8 i0 f0
        try simp only [Act.put]
        refine wpAnyH_done zK ?_ _
        clear KT
        go_wp2_with fail
        go_roundg (n.funs.length - (n6 + 1))
        case measure => have := HK.o; omega
        case rel => exact ⟨n6 + 1, by omega, by go_num, _, BI8.o, by rw [HST.o]; exact HS8.o, by rw [HST.o]; exact HN8.o, BR8.o, HB8.o⟩
  . have hje : n6 = n.funs.length := by omega
    subst hje
    have htk : fsL.take n.funs.length = fsL := by rw [<- hfl3, List.take_length]
    rw [htk] at HSZ HNZ HFW
    clear htk
    have HQ := zH (show oq t n = ⟨(aT t.ks [] fsL).2, ⟨(a7 t.ks (aT t.ks [] fsL).1 (n.ins.map t.var)).2, (a7 t.ks (a7 t.ks (aT t.ks [] fsL).1 (n.ins.map t.var)).1 (n.outs.map t.var)).2⟩, (aG n).zip (a7 t.ks (a7 t.ks (a7 t.ks (aT t.ks [] fsL).1 (n.ins.map t.var)).1 (n.outs.map t.var)).1 ((aG n).map t.var)).2⟩ by rw [HFS.o]; rfl)
    have hb0 := HFW.o.1
    rw [List.length_nil] at hb0
    obtain ⟨b1, hb1⟩ : ∃ b1, b1 = a7 t.ks (aT t.ks [] fsL).1 (n.ins.map t.var) := ⟨_, rfl⟩
    have hl1 := (dy t.ks (n.ins.map t.var) (aT t.ks [] fsL).1).1
    obtain ⟨b2, hb2⟩ : ∃ b2, b2 = a7 t.ks b1.1 (n.outs.map t.var) := ⟨_, rfl⟩
    have hl2 := (dy t.ks (n.outs.map t.var) b1.1).1
    rw [<- hb1] at hl1 HQ
    rw [<- hb2] at hl2 HQ
    rw [List.length_map] at hl1 hl2
    have HL1 := zH (show (aT t.ks [] fsL).1.length + n.ins.length < 4194303 by have := HN.o; omega)
    have HL2 := zH (show b1.1.length + n.outs.length < 4194303 by have := HN.o; omega)
    have HL3 := zH (show b2.1.length + (aG n).length < 4194303 by have := HN.o; omega)
    have HE1 := zH hb1
    have HE2 := zH hb2
    clear hb0 hb1 hl1 hb2 hl2
    go_wp2_with fail
    obtain ⟨j0, j1⟩ := bb HNZ.o.nb
    obtain ⟨_, _, e2, e3, _⟩ := aW HNZ.o.eb
    have KT := zH (show (λ W : World => W.cell? ⟨J, 0, none⟩ = some (.pointer (some ⟨H.k, 0, none⟩)) /\ W.cell? ⟨J, 1, none⟩ = some (.map (some F)) /\ W.cell? ⟨w.heap.size, 2, none⟩ = some (.slice Ai n.ins.length ci)) wz.drew from ⟨j0, j1, e2⟩)
    have HEL := zH (rO (w := wz.drew) (HNZ.o.ty.under (zB wz).drew HBBZ.o) HBBZ.o (HIN.o.under (HB0.o.trans (Below.drew (Below.mono HBZ.o HWB.o)))) (by have := HN.o; omega))
    refine wp_region_held_drew (S := (λ W : World => W.cell? ⟨J, 0, none⟩ = some (.pointer (some ⟨H.k, 0, none⟩)) /\ W.cell? ⟨J, 1, none⟩ = some (.map (some F)) /\ W.cell? ⟨w.heap.size, 2, none⟩ = some (.slice Ai n.ins.length ci))) zK ?_ (λ hHeld => ?_)
    . exact KT.o
    refine aa 0 ?_
    refine aa 1 ?_
    refine aa 2 ?_
    refine aa 3 ?_
    refine aq 4 zK rfl (λ K hK => ?_)
    go_simp
    (go_at_call 35
     (with_reducible refine HEL.o.mono ?_)
     rintro e w4 ⟨v4, rfl, ho4, ht4, hk4⟩
     obtain ⟨V4iv, rfl⟩ := zW w4
     have hkd := ((au.of_below (zB wz).drew HBBZ.o).trans hk4).but F
     have HN4 := zH (HNZ.o.after ht4 ((hk4.imap (HNZ.o.mp.under (zB wz).drew))) hkd)
     have HBB4 := zH (Nat.le_trans HBBZ.o hkd.below.size)
     have HB4 := zH (HBZ.o.trans hkd.below)
     have HS4 := zH (HSZ.o.keepF hkd)
     have BI4 := zH (hkd.cells _ _ _ zD zD zD BIZ.o)
     have BR4 := zH (hkd.cells _ _ _ zD zD zD BRZ.o)
     have HA4 := zH (kJ (F := F) HN4.o.ty HBB4.o hbf hmv hmf HN4.o.mp ho4.nums (by rw [List.length_map]; exact HL1.o))
     obtain ⟨j0, j1⟩ := bb HN4.o.nb
     obtain ⟨_, _, e2, e3, _⟩ := aW HN4.o.eb
     obtain ⟨A4iv, n4iv, k4iv, rfl, rfl⟩ := ho4.shape
     rw [List.length_map] at HA4
     clear ho4 ht4 hk4 hkd)
    refine hK.out _ _ (⟨j0, j1, e2⟩) (λ hHeld => ?_)
    clear hK K
    try simp only [Act.put, aO, aM, aN]
    refine aq 5 zK rfl (λ K hK => ?_)
    go_simp
    (go_at_call 34
     (with_reducible refine HA4.o.mono ?_)
     rintro e w5 ⟨v5, rfl, ho5, hm5, ht5, hkd⟩
     obtain ⟨V5iv, rfl⟩ := zW w5
     have HN5 := zH (HN4.o.after ht5 hm5 hkd)
     have HBB5 := zH (Nat.le_trans HBB4.o hkd.below.size)
     have HB5 := zH (HB4.o.trans hkd.below)
     have HS5 := zH (HS4.o.keepF hkd)
     have BI5 := zH (hkd.cells _ _ _ zD zD zD BI4.o)
     have BR5 := zH (hkd.cells _ _ _ zD zD zD BR4.o)
     have HOiv5 := zH (show dc w.heap.size V5iv v5 (a7 t.ks (aT t.ks [] fsL).1 (n.ins.map t.var)).2 from aS.low ho5 HB4.o.size)
     obtain ⟨j0, j1⟩ := bb HN5.o.nb
     obtain ⟨_, _, e2, e3, _⟩ := aW HN5.o.eb
     obtain ⟨A5iv, n5iv, k5iv, rfl, -⟩ := ho5.shape
     clear ho5 hm5 ht5 hkd)
    refine hK.out _ _ (⟨j0, j1, e2⟩) (λ hHeld => ?_)
    clear hK K
    try simp only [Act.put, aO, aM, aN]
    refine aa 6 ?_
    refine aa 7 ?_
    obtain ⟨i0, i1, i2, i3⟩ := eK BI5.o
    have f0 := bc BI5.o 1
    have hk8 : bs 41 V5iv (V5iv.setCell ⟨I, 1, none⟩ (.slice A5iv n5iv k5iv)) := bs.set BI5.o _
    have HNZ' := zH (HN5.o.keptT hk8 zD zD zD zD zD zD)
    have HSZ' := zH (HS5.o.keptT hk8 zD zD)
    have HOivZ' := zH (dc.keptT (v := .slice A5iv n5iv k5iv) HOiv5.o hk8 zD)
    have BIZ' := zH (show (V5iv.setCell ⟨I, 1, none⟩ (.slice A5iv n5iv k5iv)).heap[I]? = some (.cells #[.slice A6 n.funs.length c6, .slice A5iv n5iv k5iv, .slice none 0 0, .slice none 0 0] 41 (0, 0)) from heap_setCell_same V5iv I 1 _ _ (.slice A5iv n5iv k5iv) BI5.o)
    have BRZ' := zH ((Below.heap_setCell V5iv ⟨I, 1, none⟩ (.slice A5iv n5iv k5iv) R HIR.o.1).trans BR5.o)
    have HBZ' := zH (HB5.o.setCell (p := ⟨I, 1, none⟩) (Nat.le_trans HBW.o HIR.o.2.2) (.slice A5iv n5iv k5iv))
    have HBBZ' := zH (Nat.le_trans HBW.o HBZ'.out.size)
    refine aq 8 zK rfl (λ K hK => ?_)
    go_simp
    obtain ⟨j0, j1⟩ := bb HNZ'.out.nb
    obtain ⟨_, _, e2, e3, _⟩ := aW HNZ'.out.eb
    refine hK.out _ _ ⟨j0, j1, e2⟩ (λ hHeld => ?_)
    clear hK K hk8 i0 i1 i2 i3 f0 j0 j1 e2 e3 HN5 HS5 BI5 BR5 HB5 HBB5 HN4 HS4 BI4 BR4 HB4 HBB4 HA4 HEL
    try simp only [Act.put]
    refine wpAnyH_done zK ?_ _
    clear KT
    generalize V5iv.setCell ⟨I, 1, none⟩ (.slice A5iv n5iv k5iv) = WZp at *
    rw [<- HE1.o] at HNZ' HOivZ'
    go_wp2_with fail
    obtain ⟨j0, j1⟩ := bb HNZ'.out.nb
    obtain ⟨_, _, e2, e3, _⟩ := aW HNZ'.out.eb
    have KT := zH (show (λ W : World => W.cell? ⟨J, 0, none⟩ = some (.pointer (some ⟨H.k, 0, none⟩)) /\ W.cell? ⟨J, 1, none⟩ = some (.map (some F)) /\ W.cell? ⟨w.heap.size, 3, none⟩ = some (.slice Ao n.outs.length co)) WZp.drew from ⟨j0, j1, e3⟩)
    have HEL := zH (rO (w := WZp.drew) (HNZ'.out.ty.under (zB WZp).drew HBBZ'.out) HBBZ'.out (HOU.o.under (HB0.o.trans (Below.drew (Below.mono HBZ'.out HWB.o)))) (by have := HN.o; omega))
    refine wp_region_held_drew (S := (λ W : World => W.cell? ⟨J, 0, none⟩ = some (.pointer (some ⟨H.k, 0, none⟩)) /\ W.cell? ⟨J, 1, none⟩ = some (.map (some F)) /\ W.cell? ⟨w.heap.size, 3, none⟩ = some (.slice Ao n.outs.length co))) zK ?_ (λ hHeld => ?_)
    . exact KT.o
    refine aa 0 ?_
    refine aa 1 ?_
    refine aa 2 ?_
    refine aa 3 ?_
    refine aq 4 zK rfl (λ K hK => ?_)
    go_simp
    (go_at_call 35
     (with_reducible refine HEL.o.mono ?_)
     rintro e w4 ⟨v4, rfl, ho4, ht4, hk4⟩
     obtain ⟨V4ov, rfl⟩ := zW w4
     have hkd := ((au.of_below (zB WZp).drew HBBZ'.out).trans hk4).but F
     have HN4 := zH (HNZ'.out.after ht4 ((hk4.imap (HNZ'.out.mp.under (zB WZp).drew))) hkd)
     have HBB4 := zH (Nat.le_trans HBBZ'.out hkd.below.size)
     have HB4 := zH (HBZ'.out.trans hkd.below)
     have HS4 := zH (HSZ'.out.keepF hkd)
     have BI4 := zH (hkd.cells _ _ _ zD zD zD BIZ'.out)
     have BR4 := zH (hkd.cells _ _ _ zD zD zD BRZ'.out)
     have HOiv4 := zH (hkd.ownTy HOivZ'.out)
     have HA4 := zH (kJ (F := F) HN4.o.ty HBB4.o hbf hmv hmf HN4.o.mp ho4.nums (by rw [List.length_map]; exact HL2.o))
     obtain ⟨j0, j1⟩ := bb HN4.o.nb
     obtain ⟨_, _, e2, e3, _⟩ := aW HN4.o.eb
     obtain ⟨A4ov, n4ov, k4ov, rfl, rfl⟩ := ho4.shape
     rw [List.length_map] at HA4
     clear ho4 ht4 hk4 hkd)
    refine hK.out _ _ (⟨j0, j1, e3⟩) (λ hHeld => ?_)
    clear hK K
    try simp only [Act.put, aO, aM, aN]
    refine aq 5 zK rfl (λ K hK => ?_)
    go_simp
    (go_at_call 34
     (with_reducible refine HA4.o.mono ?_)
     rintro e w5 ⟨v5, rfl, ho5, hm5, ht5, hkd⟩
     obtain ⟨V5ov, rfl⟩ := zW w5
     have HN5 := zH (HN4.o.after ht5 hm5 hkd)
     have HBB5 := zH (Nat.le_trans HBB4.o hkd.below.size)
     have HB5 := zH (HB4.o.trans hkd.below)
     have HS5 := zH (HS4.o.keepF hkd)
     have BI5 := zH (hkd.cells _ _ _ zD zD zD BI4.o)
     have BR5 := zH (hkd.cells _ _ _ zD zD zD BR4.o)
     have HOiv5 := zH (hkd.ownTy HOiv4.o)
     have HOov5 := zH (show dc w.heap.size V5ov v5 (a7 t.ks b1.1 (n.outs.map t.var)).2 from aS.low ho5 HB4.o.size)
     obtain ⟨j0, j1⟩ := bb HN5.o.nb
     obtain ⟨_, _, e2, e3, _⟩ := aW HN5.o.eb
     obtain ⟨A5ov, n5ov, k5ov, rfl, -⟩ := ho5.shape
     clear ho5 hm5 ht5 hkd)
    refine hK.out _ _ (⟨j0, j1, e3⟩) (λ hHeld => ?_)
    clear hK K
    try simp only [Act.put, aO, aM, aN]
    refine aa 6 ?_
    refine aa 7 ?_
    obtain ⟨i0, i1, i2, i3⟩ := eK BI5.o
    have f0 := bc BI5.o 2
    have hk8 : bs 41 V5ov (V5ov.setCell ⟨I, 2, none⟩ (.slice A5ov n5ov k5ov)) := bs.set BI5.o _
    have HNZ'' := zH (HN5.o.keptT hk8 zD zD zD zD zD zD)
    have HSZ'' := zH (HS5.o.keptT hk8 zD zD)
    have HOivZ'' := zH (HOiv5.o.keptT hk8 zD)
    have HOovZ'' := zH (dc.keptT (v := .slice A5ov n5ov k5ov) HOov5.o hk8 zD)
    have BIZ'' := zH (show (V5ov.setCell ⟨I, 2, none⟩ (.slice A5ov n5ov k5ov)).heap[I]? = some (.cells #[.slice A6 n.funs.length c6, .slice A5iv n5iv k5iv, .slice A5ov n5ov k5ov, .slice none 0 0] 41 (0, 0)) from heap_setCell_same V5ov I 2 _ _ (.slice A5ov n5ov k5ov) BI5.o)
    have BRZ'' := zH ((Below.heap_setCell V5ov ⟨I, 2, none⟩ (.slice A5ov n5ov k5ov) R HIR.o.1).trans BR5.o)
    have HBZ'' := zH (HB5.o.setCell (p := ⟨I, 2, none⟩) (Nat.le_trans HBW.o HIR.o.2.2) (.slice A5ov n5ov k5ov))
    have HBBZ'' := zH (Nat.le_trans HBW.o HBZ''.out.size)
    refine aq 8 zK rfl (λ K hK => ?_)
    go_simp
    obtain ⟨j0, j1⟩ := bb HNZ''.out.nb
    obtain ⟨_, _, e2, e3, _⟩ := aW HNZ''.out.eb
    refine hK.out _ _ ⟨j0, j1, e3⟩ (λ hHeld => ?_)
    clear hK K hk8 i0 i1 i2 i3 f0 j0 j1 e2 e3 HN5 HS5 BI5 BR5 HB5 HBB5 HN4 HS4 BI4 BR4 HB4 HBB4 HA4 HEL
    try simp only [Act.put]
    refine wpAnyH_done zK ?_ _
    clear KT
    generalize V5ov.setCell ⟨I, 2, none⟩ (.slice A5ov n5ov k5ov) = WZpp at *
    rw [<- HE2.o] at HNZ'' HOovZ''
    have HVC := zH (HV.o WZpp (HB0.o.trans (Below.mono HBZ''.out HWB.o)))
    obtain ⟨e0, e1, e2, e3, e4⟩ := aW HNZ''.out.eb
    go_wp2_with (go_at_call 30
                 (with_reducible refine HVC.o.mono ?_)
                 rintro e w6 ⟨v6, rfl, ho6, hb6⟩
                 obtain ⟨V6, rfl⟩ := zW w6
                 have HN6 := zH (HNZ''.out.under hb6 HBBZ''.out)
                 have HS6 := zH (HSZ''.out.under hb6)
                 have HOiv6 := zH (HOivZ''.out.under hb6)
                 have HOov6 := zH (HOovZ''.out.under hb6)
                 have BI6 := zH ((hb6.block _ (ab BIZ''.out)).trans BIZ''.out)
                 have BR6 := zH ((hb6.block _ (ab BRZ''.out)).trans BRZ''.out)
                 have HB6 := zH (HBZ''.out.trans (hb6.mono HBBZ''.out))
                 have HBB6 := zH (Nat.le_trans HBBZ''.out hb6.size)
                 have HO6 := zH ho6
                 obtain ⟨A7, n7, k7, rfl, rfl⟩ := ho6.shape
                 clear ho6 hb6)
    have hvl : (aG n).length <= 9223372036854775807 := by have := HN.o; omega
    go_loopg [69] (aG n).length (λ g v wr => ∃ j : Nat, j + g = (aG n).length /\ v = .int .i64 j /\ ∃ vv, wr.heap[I]? = some (.cells #[.slice A6 n.funs.length c6, .slice A5iv n5iv k5iv, .slice A5ov n5ov k5ov, vv] 41 (0, 0)) /\ cV w.heap.size wr (.slice A6 n.funs.length c6) (aT t.ks [] fsL).2 /\ dc w.heap.size wr (.slice A5iv n5iv k5iv) b1.2 /\ dc w.heap.size wr (.slice A5ov n5ov k5ov) b2.2 /\ eo w.heap.size wr vv (((aG n).take j).zip (a7 t.ks b2.1 (((aG n).take j).map t.var)).2) /\ oR B F J w.heap.size #[.string (str n.name), .slice Af n.funs.length cf, .slice Ai n.ins.length ci, .slice Ao n.outs.length co, .slice Ax nx cx'] H kv t (a7 t.ks b2.1 (((aG n).take j).map t.var)).1 wr /\ cF WZpp.heap.size wr (.slice A7 (aG n).length k7) (aG n) /\ wr.heap[R]? = some (.cells #[.slice none 0 0, .slice none 0 0, .slice none 0 0, .slice none 0 0] 41 (0, 0)) /\ Below B w wr)
    case atStart => exact ⟨0, by omega, rfl, _, BI6.o, HS6.o, HOiv6.o, HOov6.o, aS.nil _, HN6.o, HO6.o, BR6.o, HB6.o⟩
    case round =>
     obtain ⟨j, hjg, rfl, vv, hbi, hsg, hoi, hoo, hnm, hnu, hos, hbr, hbe⟩ := hrel
     obtain ⟨wy, rfl⟩ := zW wr
     have HK := zH hjg
     have BIY := zH hbi
     have HSY := zH hsg
     have HOivY := zH hoi
     have HOovY := zH hoo
     have HVY := zH hnm
     have HNY := zH hnu
     have HOY := zH hos
     have BRY := zH hbr
     have HBY := zH hbe
     have HBBY := zH (Nat.le_trans HBW.o hbe.size)
     have hjl : j <= (aG n).length := by omega
     have HFV := zH (dy t.ks (((aG n).take j).map t.var) b2.1)
     obtain ⟨A8, n8, c8, rfl, -⟩ := hnm.shape
     clear hjg hbi hsg hoi hoo hnm hnu hos hbr hbe
     by_cases hlt : j < (aG n).length
     . obtain ⟨s, hs⟩ := zG hlt
       obtain ⟨As, cs', es, _, _, hse⟩ := HOY.o.strs
       injection es with es1 _ es3
       subst es1 es3
       obtain ⟨L9, hE9, rfl, hsl⟩ := hse j s hs
       obtain ⟨a9, ea9, _, _, q9⟩ := dL hE9
       subst ea9
       rw [Nat.mul_one] at q9
       have HSL := zH hsl
       obtain ⟨y, hy⟩ : ∃ y, t.var s = y := ⟨_, rfl⟩
       have HY := zH hy
       have HTK := zH (show (aG n).take (j + 1) = (aG n).take j ++ [s] by
        obtain ⟨_, rfl⟩ := List.getElem?_eq_some_iff.1 hs
        rw [List.take_succ_eq_append_getElem hlt])
       obtain ⟨x, hx⟩ : ∃ x, iW t.ks (a7 t.ks b2.1 (((aG n).take j).map t.var)).1 y = x := ⟨_, rfl⟩
       have HST := zH (show (a7 t.ks b2.1 (((aG n).take (j + 1)).map t.var)) = (x.1, (a7 t.ks b2.1 (((aG n).take j).map t.var)).2 ++ [x.2]) by rw [HTK.o, vC, hy, tb, hx])
       have HZL := zH (show ((aG n).take j).length = (a7 t.ks b2.1 (((aG n).take j).map t.var)).2.length by rw [HFV.o.2, List.length_map])
       have HFL := zH (show (((aG n).take j).zip (a7 t.ks b2.1 (((aG n).take j).map t.var)).2).length <= 4194303 by have := HL3.o; rw [List.length_zip, <- HZL.o, List.length_take]; omega)
       have hc1 := rN (F := F) (w := wy.drew) (HNY.o.ty.under (zB wy).drew HBBY.o) HBBY.o hbf hmv hmf (HNY.o.mp.under (zB wy).drew) (by have h1 := HFV.o.1; have h2 := HL3.o; rw [List.length_map, List.length_take] at h1; omega) y
       rw [hx] at hc1
       have HC1 := zH hc1
       obtain ⟨j0, j1⟩ := bb HNY.o.nb
       obtain ⟨_, m4, _, _, _⟩ := HNY.o.ty.cellsAt
       have hlk := HNY.o.ty.look HSL.o
       rw [HY.o] at hlk
       obtain ⟨_, _, _, q3⟩ := eK BIY.o
       have hlkd := (HNY.o.ty.under (zB wy).drew HBBY.o).look hsl
       rw [hy] at hlkd
       have KT := zH (show (λ W : World => W.cell? ⟨J, 0, none⟩ = some (.pointer (some ⟨H.k, 0, none⟩)) /\ W.cell? ⟨J, 1, none⟩ = some (.map (some F)) /\ W.cell? ⟨H.N, 4, none⟩ = some (.map (some H.mv)) /\ (Instr.lookup 91 (.map (some H.mv)) (.string (str s)) false).run prog W = .ok (.int .i64 y) W) wy.drew from ⟨j0, j1, m4, hlkd⟩)
       clear hs hse hE9 hsl hy hx hc1
       go_wp2_with fail
       refine wp_region_held_drew (S := (λ W : World => W.cell? ⟨J, 0, none⟩ = some (.pointer (some ⟨H.k, 0, none⟩)) /\ W.cell? ⟨J, 1, none⟩ = some (.map (some F)) /\ W.cell? ⟨H.N, 4, none⟩ = some (.map (some H.mv)) /\ (Instr.lookup 91 (.map (some H.mv)) (.string (str s)) false).run prog W = .ok (.int .i64 y) W)) zK ?_ (λ hHeld => ?_)
       . exact KT.o
       refine aa 0 ?_
       refine aa 2 ?_
       refine aa 3 ?_
       refine aa 4 ?_
       refine aa 5 ?_
       refine aa 6 ?_
       refine aa 7 ?_
       refine aa 8 ?_
       refine aa 9 ?_
       refine wpAnyH_ready (rs := [1, 10]) zK (by simp) (db 1 rfl (λ K hK => ?_) (db 10 rfl (λ K hK => ?_) AllReadyH.nil))
       . go_simp
         refine hK.out _ _ ⟨j0, j1, m4, hlkd⟩ (λ hHeld => ?_)
         clear hK K
         try simp only [Act.put, aO, aM, aN]
         refine aq 10 zK rfl (λ K hK => ?_)
         go_simp
         (go_at_call 36
          (with_reducible refine HC1.o.mono ?_)
          rintro e w3 ⟨rfl, hm3, ht3, hk3⟩
          obtain ⟨V3, rfl⟩ := zW w3
          have hkd := ((au.of_below (zB wy).drew HBBY.o).but F).trans hk3
          have HN7 := zH (HNY.o.after ht3 hm3 hkd)
          have HBB7 := zH (Nat.le_trans HBBY.o hkd.below.size)
          have HS7 := zH (HSY.o.keepF hkd)
          have HV7 := zH (HVY.o.keepF hkd)
          have HOiv7 := zH (hkd.ownTy HOivY.o)
          have HOov7 := zH (hkd.ownTy HOovY.o)
          have HO7 := zH (cF.keepF hkd HOY.o)
          have BI7 := zH (hkd.cells _ _ _ zD zD zD BIY.o)
          have BR7 := zH (hkd.cells _ _ _ zD zD zD BRY.o)
          have HB7 := zH (HBY.o.trans hkd.below)
          obtain ⟨_, _, _, q3⟩ := eK BI7.o
          obtain ⟨j0, j1⟩ := bb HN7.o.nb
          obtain ⟨_, m4, _, _, _⟩ := HN7.o.ty.cellsAt
          have hlk := HN7.o.ty.look HSL.o
          rw [HY.o] at hlk
          clear hm3 ht3 hk3 hkd)
         refine hK.out _ _ ⟨j0, j1, m4, hlk⟩ (λ hHeld => ?_)
         clear hK K
         try simp only [Act.put, aO, aM, aN]
         refine aa 11 ?_
         refine aq 12 zK rfl (λ K hK => ?_)
         go_simp
         have hal7 := zA V3 (.cells #[.string (str s), .int .i64 x.2, .slice none 0 0] 64)
         have HN8 := zH (HN7.o.under hal7 HBB7.o)
         have HS8 := zH (HS7.o.under hal7)
         have HV8 := zH (HV7.o.under hal7)
         have HOiv8 := zH (HOiv7.o.under hal7)
         have HOov8 := zH (HOov7.o.under hal7)
         have HO8 := zH (HO7.o.under hal7)
         have BI8 := zH ((hal7.block _ (ab BI7.o)).trans BI7.o)
         have BR8 := zH ((hal7.block _ (ab BR7.o)).trans BR7.o)
         have HB8 := zH (HB7.o.trans (hal7.mono HBB7.o))
         have HX8 := zH (show wK [.string (str s), .int .i64 x.2, .slice none 0 0] (s, x.2) from ⟨rfl, HSL.o⟩)
         obtain ⟨j0, j1⟩ := bb HN8.o.nb
         obtain ⟨_, m4, _, _, _⟩ := HN8.o.ty.cellsAt
         have hlk := HN8.o.ty.look HSL.o
         rw [HY.o] at hlk
         refine hK.out _ _ ⟨j0, j1, m4, hlk⟩ (λ hHeld => ?_)
         clear hK K
         try simp only [Act.put, aO, aM, aN]
         clear hal7
         refine aq 13 zK rfl (λ K hK => ?_)
         (refine iS underlying39 qa rfl zD zD p9 p8 rfl _ _ rfl rfl rfl (heap_alloc_new _ _) HX8.o HV8.o HFL.o HB8.o.size ?_
          intro v9 w9 h9 g9
          obtain ⟨V9, rfl⟩ := zW w9
          have hk9 : bs 64 _ V9 := bs.grown HV8.o g9
          have HN9 := zH (HN8.o.keptT hk9 zD zD zD zD zD zD)
          have HS9 := zH (HS8.o.keptT hk9 zD zD)
          have HOiv9 := zH (HOiv8.o.keptT hk9 zD)
          have HOov9 := zH (HOov8.o.keptT hk9 zD)
          have HO9 := zH (HO8.o.keptT hk9 zD)
          have BI9 := zH (hk9.cells BI8.o zD)
          have BR9 := zH (hk9.cells BR8.o zD)
          have HV9 := zH (show eo w.heap.size V9 v9 _ from h9)
          have HB9 := zH (HB8.o.grown g9 (Nat.le_trans HBW.o HB8.o.size) (λ g hg => Nat.le_trans HBW.o (HV8.o.blk hg).1))
          obtain ⟨A9, n9, k9, rfl, -⟩ := h9.shape
          clear h9 g9 hk9)
         obtain ⟨j0, j1⟩ := bb HN9.o.nb
         obtain ⟨_, m4, _, _, _⟩ := HN9.o.ty.cellsAt
         have hlk := HN9.o.ty.look HSL.o
         rw [HY.o] at hlk
         refine hK.out _ _ ⟨j0, j1, m4, hlk⟩ (λ hHeld => ?_)
         clear hK K
         try simp only [Act.put, aO, aM, aN]
         refine aa 14 ?_
         obtain ⟨i0, i1, i2, i3⟩ := eK BI9.o
         have f0 := bc BI9.o 3
         have hk8 : bs 41 V9 (V9.setCell ⟨I, 3, none⟩ (.slice A9 n9 k9)) := bs.set BI9.o _
         have HNa := zH (HN9.o.keptT hk8 zD zD zD zD zD zD)
         have HSa := zH (HS9.o.keptT hk8 zD zD)
         have HOiva := zH (HOiv9.o.keptT hk8 zD)
         have HOova := zH (HOov9.o.keptT hk8 zD)
         have HOa := zH (HO9.o.keptT hk8 zD)
         have HVa := zH (eo.keptT (v := .slice A9 n9 k9) HV9.o hk8 zD)
         have BIa := zH (heap_setCell_same V9 I 3 _ _ (.slice A9 n9 k9) BI9.o)
         have BRa := zH ((Below.heap_setCell V9 ⟨I, 3, none⟩ (.slice A9 n9 k9) R HIR.o.1).trans BR9.o)
         have HBa := zH (HB9.o.setCell (p := ⟨I, 3, none⟩) (Nat.le_trans HBW.o HIR.o.2.2) (.slice A9 n9 k9))
         refine aq 15 zK rfl (λ K hK => ?_)
         go_simp
         obtain ⟨j0, j1⟩ := bb HNa.o.nb
         obtain ⟨_, m4, _, _, _⟩ := HNa.o.ty.cellsAt
         have hlk := HNa.o.ty.look HSL.o
         rw [HY.o] at hlk
         refine hK.out _ _ ⟨j0, j1, m4, hlk⟩ (λ hHeld => ?_)
         clear hK K hk8 i0 i1 i2 i3 f0
         try simp only [Act.put]
         refine wpAnyH_done zK ?_ _
         clear KT
         go_wp2_with fail
         go_roundg ((aG n).length - (j + 1))
         case measure => have := HK.o; omega
         case rel => exact ⟨j + 1, by omega, by go_num, _, BIa.o, HSa.o, HOiva.o, HOova.o, by rw [HST.o, HTK.o, pw HZL.o]; exact HVa.o, by rw [HST.o]; exact HNa.o, HOa.o, BRa.o, HBa.o⟩
       . go_simp
         (go_at_call 36
          (with_reducible refine HC1.o.mono ?_)
          rintro e w3 ⟨rfl, hm3, ht3, hk3⟩
          obtain ⟨V3, rfl⟩ := zW w3
          have hkd := ((au.of_below (zB wy).drew HBBY.o).but F).trans hk3
          have HN7 := zH (HNY.o.after ht3 hm3 hkd)
          have HBB7 := zH (Nat.le_trans HBBY.o hkd.below.size)
          have HS7 := zH (HSY.o.keepF hkd)
          have HV7 := zH (HVY.o.keepF hkd)
          have HOiv7 := zH (hkd.ownTy HOivY.o)
          have HOov7 := zH (hkd.ownTy HOovY.o)
          have HO7 := zH (cF.keepF hkd HOY.o)
          have BI7 := zH (hkd.cells _ _ _ zD zD zD BIY.o)
          have BR7 := zH (hkd.cells _ _ _ zD zD zD BRY.o)
          have HB7 := zH (HBY.o.trans hkd.below)
          obtain ⟨_, _, _, q3⟩ := eK BI7.o
          obtain ⟨j0, j1⟩ := bb HN7.o.nb
          obtain ⟨_, m4, _, _, _⟩ := HN7.o.ty.cellsAt
          have hlk := HN7.o.ty.look HSL.o
          rw [HY.o] at hlk
          clear hm3 ht3 hk3 hkd)
         refine hK.out _ _ ⟨j0, j1, m4, hlk⟩ (λ hHeld => ?_)
         clear hK K
         try simp only [Act.put, aO, aM, aN]
         refine aa 11 ?_
         refine wpAnyH_ready (rs := [1, 12]) zK (by simp) (db 1 rfl (λ K hK => ?_) (db 12 rfl (λ K hK => ?_) AllReadyH.nil))
         . go_simp
           refine hK.out _ _ ⟨j0, j1, m4, hlk⟩ (λ hHeld => ?_)
           clear hK K
           try simp only [Act.put, aO, aM, aN]
           refine aq 12 zK rfl (λ K hK => ?_)
           go_simp
           have hal7 := zA V3 (.cells #[.string (str s), .int .i64 x.2, .slice none 0 0] 64)
           have HN8 := zH (HN7.o.under hal7 HBB7.o)
           have HS8 := zH (HS7.o.under hal7)
           have HV8 := zH (HV7.o.under hal7)
           have HOiv8 := zH (HOiv7.o.under hal7)
           have HOov8 := zH (HOov7.o.under hal7)
           have HO8 := zH (HO7.o.under hal7)
           have BI8 := zH ((hal7.block _ (ab BI7.o)).trans BI7.o)
           have BR8 := zH ((hal7.block _ (ab BR7.o)).trans BR7.o)
           have HB8 := zH (HB7.o.trans (hal7.mono HBB7.o))
           have HX8 := zH (show wK [.string (str s), .int .i64 x.2, .slice none 0 0] (s, x.2) from ⟨rfl, HSL.o⟩)
           obtain ⟨j0, j1⟩ := bb HN8.o.nb
           obtain ⟨_, m4, _, _, _⟩ := HN8.o.ty.cellsAt
           have hlk := HN8.o.ty.look HSL.o
           rw [HY.o] at hlk
           refine hK.out _ _ ⟨j0, j1, m4, hlk⟩ (λ hHeld => ?_)
           clear hK K
           try simp only [Act.put, aO, aM, aN]
           clear hal7
           refine aq 13 zK rfl (λ K hK => ?_)
           (refine iS underlying39 qa rfl zD zD p9 p8 rfl _ _ rfl rfl rfl (heap_alloc_new _ _) HX8.o HV8.o HFL.o HB8.o.size ?_
            intro v9 w9 h9 g9
            obtain ⟨V9, rfl⟩ := zW w9
            have hk9 : bs 64 _ V9 := bs.grown HV8.o g9
            have HN9 := zH (HN8.o.keptT hk9 zD zD zD zD zD zD)
            have HS9 := zH (HS8.o.keptT hk9 zD zD)
            have HOiv9 := zH (HOiv8.o.keptT hk9 zD)
            have HOov9 := zH (HOov8.o.keptT hk9 zD)
            have HO9 := zH (HO8.o.keptT hk9 zD)
            have BI9 := zH (hk9.cells BI8.o zD)
            have BR9 := zH (hk9.cells BR8.o zD)
            have HV9 := zH (show eo w.heap.size V9 v9 _ from h9)
            have HB9 := zH (HB8.o.grown g9 (Nat.le_trans HBW.o HB8.o.size) (λ g hg => Nat.le_trans HBW.o (HV8.o.blk hg).1))
            obtain ⟨A9, n9, k9, rfl, -⟩ := h9.shape
            clear h9 g9 hk9)
           obtain ⟨j0, j1⟩ := bb HN9.o.nb
           obtain ⟨_, m4, _, _, _⟩ := HN9.o.ty.cellsAt
           have hlk := HN9.o.ty.look HSL.o
           rw [HY.o] at hlk
           refine hK.out _ _ ⟨j0, j1, m4, hlk⟩ (λ hHeld => ?_)
           clear hK K
           try simp only [Act.put, aO, aM, aN]
           refine aa 14 ?_
           obtain ⟨i0, i1, i2, i3⟩ := eK BI9.o
           have f0 := bc BI9.o 3
           have hk8 : bs 41 V9 (V9.setCell ⟨I, 3, none⟩ (.slice A9 n9 k9)) := bs.set BI9.o _
           have HNa := zH (HN9.o.keptT hk8 zD zD zD zD zD zD)
           have HSa := zH (HS9.o.keptT hk8 zD zD)
           have HOiva := zH (HOiv9.o.keptT hk8 zD)
           have HOova := zH (HOov9.o.keptT hk8 zD)
           have HOa := zH (HO9.o.keptT hk8 zD)
           have HVa := zH (eo.keptT (v := .slice A9 n9 k9) HV9.o hk8 zD)
           have BIa := zH (heap_setCell_same V9 I 3 _ _ (.slice A9 n9 k9) BI9.o)
           have BRa := zH ((Below.heap_setCell V9 ⟨I, 3, none⟩ (.slice A9 n9 k9) R HIR.o.1).trans BR9.o)
           have HBa := zH (HB9.o.setCell (p := ⟨I, 3, none⟩) (Nat.le_trans HBW.o HIR.o.2.2) (.slice A9 n9 k9))
           refine aq 15 zK rfl (λ K hK => ?_)
           go_simp
           obtain ⟨j0, j1⟩ := bb HNa.o.nb
           obtain ⟨_, m4, _, _, _⟩ := HNa.o.ty.cellsAt
           have hlk := HNa.o.ty.look HSL.o
           rw [HY.o] at hlk
           refine hK.out _ _ ⟨j0, j1, m4, hlk⟩ (λ hHeld => ?_)
           clear hK K hk8 i0 i1 i2 i3 f0
           try simp only [Act.put]
           refine wpAnyH_done zK ?_ _
           clear KT
           go_wp2_with fail
           go_roundg ((aG n).length - (j + 1))
           case measure => have := HK.o; omega
           case rel => exact ⟨j + 1, by omega, by go_num, _, BIa.o, HSa.o, HOiva.o, HOova.o, by rw [HST.o, HTK.o, pw HZL.o]; exact HVa.o, by rw [HST.o]; exact HNa.o, HOa.o, BRa.o, HBa.o⟩
         . go_simp
           have hal7 := zA V3 (.cells #[.string (str s), .int .i64 x.2, .slice none 0 0] 64)
           have HN8 := zH (HN7.o.under hal7 HBB7.o)
           have HS8 := zH (HS7.o.under hal7)
           have HV8 := zH (HV7.o.under hal7)
           have HOiv8 := zH (HOiv7.o.under hal7)
           have HOov8 := zH (HOov7.o.under hal7)
           have HO8 := zH (HO7.o.under hal7)
           have BI8 := zH ((hal7.block _ (ab BI7.o)).trans BI7.o)
           have BR8 := zH ((hal7.block _ (ab BR7.o)).trans BR7.o)
           have HB8 := zH (HB7.o.trans (hal7.mono HBB7.o))
           have HX8 := zH (show wK [.string (str s), .int .i64 x.2, .slice none 0 0] (s, x.2) from ⟨rfl, HSL.o⟩)
           obtain ⟨j0, j1⟩ := bb HN8.o.nb
           obtain ⟨_, m4, _, _, _⟩ := HN8.o.ty.cellsAt
           have hlk := HN8.o.ty.look HSL.o
           rw [HY.o] at hlk
           refine hK.out _ _ ⟨j0, j1, m4, hlk⟩ (λ hHeld => ?_)
           clear hK K
           try simp only [Act.put, aO, aM, aN]
           clear hal7
           obtain ⟨_, _, _, q3'⟩ := eK BI8.o
           refine aq 1 zK rfl (λ K hK => ?_)
           go_simp
           refine hK.out _ _ ⟨j0, j1, m4, hlk⟩ (λ hHeld => ?_)
           clear hK K
           try simp only [Act.put, aO, aM, aN]
           refine aq 13 zK rfl (λ K hK => ?_)
           (refine iS underlying39 qa rfl zD zD p9 p8 rfl _ _ rfl rfl rfl (heap_alloc_new _ _) HX8.o HV8.o HFL.o HB8.o.size ?_
            intro v9 w9 h9 g9
            obtain ⟨V9, rfl⟩ := zW w9
            have hk9 : bs 64 _ V9 := bs.grown HV8.o g9
            have HN9 := zH (HN8.o.keptT hk9 zD zD zD zD zD zD)
            have HS9 := zH (HS8.o.keptT hk9 zD zD)
            have HOiv9 := zH (HOiv8.o.keptT hk9 zD)
            have HOov9 := zH (HOov8.o.keptT hk9 zD)
            have HO9 := zH (HO8.o.keptT hk9 zD)
            have BI9 := zH (hk9.cells BI8.o zD)
            have BR9 := zH (hk9.cells BR8.o zD)
            have HV9 := zH (show eo w.heap.size V9 v9 _ from h9)
            have HB9 := zH (HB8.o.grown g9 (Nat.le_trans HBW.o HB8.o.size) (λ g hg => Nat.le_trans HBW.o (HV8.o.blk hg).1))
            obtain ⟨A9, n9, k9, rfl, -⟩ := h9.shape
            clear h9 g9 hk9)
           obtain ⟨j0, j1⟩ := bb HN9.o.nb
           obtain ⟨_, m4, _, _, _⟩ := HN9.o.ty.cellsAt
           have hlk := HN9.o.ty.look HSL.o
           rw [HY.o] at hlk
           refine hK.out _ _ ⟨j0, j1, m4, hlk⟩ (λ hHeld => ?_)
           clear hK K
           try simp only [Act.put, aO, aM, aN]
           refine aa 14 ?_
           obtain ⟨i0, i1, i2, i3⟩ := eK BI9.o
           have f0 := bc BI9.o 3
           have hk8 : bs 41 V9 (V9.setCell ⟨I, 3, none⟩ (.slice A9 n9 k9)) := bs.set BI9.o _
           have HNa := zH (HN9.o.keptT hk8 zD zD zD zD zD zD)
           have HSa := zH (HS9.o.keptT hk8 zD zD)
           have HOiva := zH (HOiv9.o.keptT hk8 zD)
           have HOova := zH (HOov9.o.keptT hk8 zD)
           have HOa := zH (HO9.o.keptT hk8 zD)
           have HVa := zH (eo.keptT (v := .slice A9 n9 k9) HV9.o hk8 zD)
           have BIa := zH (heap_setCell_same V9 I 3 _ _ (.slice A9 n9 k9) BI9.o)
           have BRa := zH ((Below.heap_setCell V9 ⟨I, 3, none⟩ (.slice A9 n9 k9) R HIR.o.1).trans BR9.o)
           have HBa := zH (HB9.o.setCell (p := ⟨I, 3, none⟩) (Nat.le_trans HBW.o HIR.o.2.2) (.slice A9 n9 k9))
           refine aq 15 zK rfl (λ K hK => ?_)
           go_simp
           obtain ⟨j0, j1⟩ := bb HNa.o.nb
           obtain ⟨_, m4, _, _, _⟩ := HNa.o.ty.cellsAt
           have hlk := HNa.o.ty.look HSL.o
           rw [HY.o] at hlk
           refine hK.out _ _ ⟨j0, j1, m4, hlk⟩ (λ hHeld => ?_)
           clear hK K hk8 i0 i1 i2 i3 f0
           try simp only [Act.put]
           refine wpAnyH_done zK ?_ _
           clear KT
           go_wp2_with fail
           go_roundg ((aG n).length - (j + 1))
           case measure => have := HK.o; omega
           case rel => exact ⟨j + 1, by omega, by go_num, _, BIa.o, HSa.o, HOiva.o, HOova.o, by rw [HST.o, HTK.o, pw HZL.o]; exact HVa.o, by rw [HST.o]; exact HNa.o, HOa.o, BRa.o, HBa.o⟩
     . have hje : j = (aG n).length := by omega
       subst hje
       rw [List.take_length] at HVY
       obtain ⟨q0, q1, q2, q3⟩ := eK BIY.o
       obtain ⟨z0, z1, z2, z3⟩ := eK BRY.o
       have f0 := bc BRY.o 0
       have s1 := heap_setCell_same wy R 0 _ _ (.slice A6 n.funs.length c6) BRY.o
       have s2 := heap_setCell_same _ R 1 _ _ (.slice A5iv n5iv k5iv) s1
       have s3 := heap_setCell_same _ R 2 _ _ (.slice A5ov n5ov k5ov) s2
       have HXX := zH (heap_setCell_same _ R 3 _ _ (.slice A8 n8 c8) s3)
       obtain ⟨_, y1, _, _⟩ := eK s1
       have f1 := bc s1 1
       obtain ⟨_, _, y2, _⟩ := eK s2
       have f2 := bc s2 2
       obtain ⟨_, _, _, y3⟩ := eK s3
       have f3 := bc s3 3
       have hkp := (((((ba.refl (· = R) wy).set (a := ⟨R, 0, none⟩) (.inl rfl) (.slice A6 n.funs.length c6)).set (a := ⟨R, 1, none⟩) (.inl rfl) (.slice A5iv n5iv k5iv)).set (a := ⟨R, 2, none⟩) (.inl rfl) (.slice A5ov n5ov k5ov)).set (a := ⟨R, 3, none⟩) (.inl rfl) (.slice A8 n8 c8))
       have HKT := zH (show bs 41 wy _ from ⟨_, hkp, λ b hb => ⟨#[.slice none 0 0, .slice none 0 0, .slice none 0 0, .slice none 0 0], by rw [show b = R from hb]; exact BRY.o⟩⟩)
       have HBE := zH (((((HBY.o.setCell (p := ⟨R, 0, none⟩) (Nat.le_trans HBW.o HIR.o.2.1) (.slice A6 n.funs.length c6)).setCell (p := ⟨R, 1, none⟩) (Nat.le_trans HBW.o HIR.o.2.1) (.slice A5iv n5iv k5iv)).setCell (p := ⟨R, 2, none⟩) (Nat.le_trans HBW.o HIR.o.2.1) (.slice A5ov n5ov k5ov)).setCell (p := ⟨R, 3, none⟩) (Nat.le_trans HBW.o HIR.o.2.1) (.slice A8 n8 c8)))
       clear s1 s2 s3 hkp
       go_wp2_with fail
       refine bodyPost_ret (tS rfl HXX.o) rfl ⟨[_, _, _, _], rfl, ⟨_, _, _, _, rfl, ?_, ?_, ?_, ?_⟩, HBE.o⟩
       . rw [HQ.o]; exact HSY.o.keptT HKT.o zD zD
       . rw [HQ.o]; exact HOivY.o.keptT HKT.o zD
       . rw [HQ.o]; exact HOovY.o.keptT HKT.o zD
       . rw [HQ.o]; exact HVY.o.keptT HKT.o zD
end
end Go.Proofs.YtiholfmmphcbeaaGreatDoor
