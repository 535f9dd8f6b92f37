import Derived.Test.YtiholfmmphcbeaaGreatDoorKm41
set_option maxHeartbeats 6000000
set_option maxRecDepth 100000
namespace Go.Proofs.YtiholfmmphcbeaaGreatDoor
open _root_.Go.Proofs.Tryz
open Go.RowKit
theorem Gm {w w' : World} {x : Addr} (h : w'.heap[x.block]? = w.heap[x.block]?) : w'.cell? x = w.cell? x := by unfold World.cell?; rw [h]
theorem aS.there {X : Type} {R : List Value -> X -> Prop} {B : Nat} {T : TypeId} {n : Nat} {W : World} {v : Value} {xs : List X} (h : aS R B T n W v xs) (h0 : 0 < xs.length) : ∃ g c, v = .slice (some ⟨g, 0, none⟩) xs.length c /\ ∃ cur, W.heap[g]? = some (.cells cur T (0, 0)) := by
 obtain ⟨Ls, h1, _⟩ := h; rcases h1.2 with ⟨_, e⟩ | ⟨g, cap, cur, rfl, _, hh, _⟩
 . omega
 . exact ⟨g, cap, rfl, cur, hh⟩
section
variable {B : Nat} {w w0 : World} {H : TyH} {kv : Value} {t : TSt}
theorem au.cell {w' : World} (h : au B w w') {x : Addr} {u : Value} {T0 : TypeId} {cs : Array Value} (hx : w.heap[x.block]? = some (.cells cs T0 (0, 0))) (n1 : T0 ≠ 146) (n2 : T0 ≠ 150) (n3 : T0 ≠ 94) (hu : w.cell? x = some u) : w'.cell? x = some u :=
 (Gm ((h.cells _ cs T0 n1 n2 n3 hx).trans hx.symm)).trans hu
theorem xj {cx : TCx} {D : Nat} {n : Nat} {m : Int} {nm : Tx} {cs : List Tx} {ks : List Ex} {cv kk : Value} (h : aJ B w H kv t) (hB : B <= w.heap.size) (hS : lZ H cx.sig D w0) (hb : Below w0.heap.size w0 w) (hwB : w0.heap.size <= B)
  (hl : nm.length <= maxLen) (hcs : aF w0 cv cs) (hkk : ak w0 (bM w0) kk ks) (ho : nM t.funs cx.sig nm) (hoc : ∀ c ∈ cs, nM t.funs cx.sig c) (hcl : cs.length <= (t.den cx nm).2.1.length) (hE : wP B H cx w0 kk ks t.funs D) (hn6 : n <= 6) (hn : t.ks.n + gh D (.mk 14 nm m cs ks) < 4194303) :
  Calls prog 101 #[.pointer (some ⟨H.N, 0, none⟩), .agg #[.int .i64 14, .string (str nm), .int .i64 m, cv, kk], .int .i64 (n : Int)] w (re B H (dA cx t n (.mk 14 nm m cs ks)).1 (dA cx t n (.mk 14 nm m cs ks)).2 w) := by
 have hDS : ∀ nm q, cx.sig nm = some q -> qN q <= D := hS.small; have HQ := zH (show dA cx t n (.mk 14 nm m cs ks) = ((((bt cx ((t.den cx nm).1.pass cx (t.den cx nm).2.1 cs) ks).1.adds n).agree (t.den cx nm).2.2 ⟨(bt cx ((t.den cx nm).1.pass cx (t.den cx nm).2.1 cs) ks).2, (bt cx ((t.den cx nm).1.pass cx (t.den cx nm).2.1 cs) ks).1.news n⟩), (bt cx ((t.den cx nm).1.pass cx (t.den cx nm).2.1 cs) ks).1.news n) by rw [dA, if_pos rfl]); have HDS := zH (TSt.den_stay hDS t nm); rw [gh, Nat.mul_succ] at hn; obtain ⟨Ac, cc, rfl, hcc, hcm, hce⟩ := hcs; obtain ⟨Ak, ck, rfl, hkc, hkm, hke⟩ := hkk; have hcl2 : cs.length <= 9223372036854775807 := (by unfold maxLen at hcm; omega); have hal := zA w (.cells #[.int .i64 14, .string (str nm), .int .i64 m, .slice Ac cs.length cc, .slice Ak ks.length ck] 81); have HBW := zH (hb.trans (hal.mono hb.size)); have HB0 := zH (Nat.le_trans hB hal.size); have HE0 := zH (au.of_below hal hB); have HDN := zH (rP (h.under hal hB) HB0.o hS HBW.o hwB ho hl zO); have BE := zH (heap_alloc_new w (.cells #[.int .i64 14, .string (str nm), .int .i64 m, .slice Ac cs.length cc, .slice Ak ks.length ck] 81)); have HS := zH hS; have HWB := zH hwB; have HOC := zH hoc; have HCL := zH hcl; have HEX := zH hE; have HN := zH hn; have HN6 := zH hn6; have HCE := zH hce; clear h hB hS hb hwB hl ho hoc hcl hE hn hn6 hcm hce hkc hkm hke hal hcc; generalize t.den cx nm = d at *; go_enter func101, ntmps101
 go_wp2_with (go_at_call 139
              (with_reducible refine HDN.o.mono ?_); rintro e w1 ⟨v1, rfl, ⟨fv, a, b, rfl, s1, x1, y1⟩, ⟨kv1, ht1⟩, hk1⟩; obtain ⟨V1, rfl⟩ := zW w1; have hB1 := Nat.le_trans HB0.o hk1.below.size; have hal1 := zA V1 (.cells #[fv, a, b] 105); have HT2 := zH (ht1.under hal1 hB1); have HE2 := zH ((HE0.o.trans hk1).trans (au.of_below hal1 hB1)); have BE2 := zH ((hal1.block _ (ab (hk1.cells _ _ _ zD zD zD BE.o))).trans (hk1.cells _ _ _ zD zD zD BE.o)); have BY2 := zH (heap_alloc_new V1 (.cells #[fv, a, b] 105)); have HS2 := zH (s1.under hal1); have HX2 := zH (x1.under hal1); have HY2 := zH (y1.under hal1); have HB2 := zH (Nat.le_trans hB1 hal1.size); have HBW2 := zH (HBW.o.trans ((hk1.below.mono HWB.o).trans (hal1.mono (Nat.le_trans HWB.o hB1)))); obtain ⟨Af, nf, cf, rfl, rfl⟩ := s1.shape; obtain ⟨Aa, na, ca, rfl, rfl⟩ := x1.shape; obtain ⟨Ab, nb, cb, rfl, rfl⟩ := y1.shape; obtain ⟨_, p1, _, p3, p4⟩ := aW BE2.o; clear s1 x1 y1 ht1 hk1 hB1 hal1)
 obtain ⟨Y, hY⟩ : ∃ Y, Y = V1.heap.size := ⟨_, rfl⟩; rw [<- hY] at BY2; rw [<- hY]; clear hY p1 p3 p4; generalize V1.alloc (.cells #[.slice Af d.2.1.length cf, .slice Aa d.2.2.ins.length ca, .slice Ab d.2.2.outs.length cb] 105) = V2 at *; go_loopg [18] cs.length (λ g v wr => ∃ j : Nat, j + g = cs.length /\ v = .int .i64 j /\ (∃ kv', aJ B wr H kv' (d.1.pass cx (d.2.1.take j) (cs.take j))) /\ au B V2 wr)
 case atStart => exact ⟨0, by omega, rfl, ⟨kv1, by simpa [TSt.pass] using HT2.o⟩, au.refl _ _⟩
 case round =>
  obtain ⟨j, hjg, rfl, ⟨kv2, hty⟩, hke⟩ := hrel; obtain ⟨wz, rfl⟩ := zW wr; have HK := zH hjg; have HT := zH hty; have HE := zH hke; have HBZ := zH (Nat.le_trans HB2.o hke.below.size); have hjl : j <= cs.length := zO; have HBWZ := zH (HBW2.o.trans (hke.below.mono HWB.o)); have HSZ := zH ((hke.but 0).sgs HS2.o); have BEZ := zH (hke.cells _ _ _ zD zD zD BE2.o); have BYZ := zH (hke.cells _ _ _ zD zD zD BY2.o); have HPS := zH (HDS.o.trans (TSt.pass_stay hDS (d.2.1.take j) (cs.take j) d.1) (Nat.le_refl _)); clear hjg hty hke; by_cases hlt : j < cs.length
  . obtain ⟨c, hc⟩ := zG hlt; have hltd : j < d.2.1.length := (by have := HCL.o; omega); obtain ⟨f, hf⟩ := zG hltd; obtain ⟨L9, hE9, rfl, hcx⟩ := HCE.o j c hc; obtain ⟨a9, ea9, _, _, q9⟩ := dL (hE9.under HBWZ.o); subst ea9; rw [Nat.mul_one] at q9; obtain ⟨A5, c5, e5, _, _, hs5⟩ := HSZ.o.at_; obtain ⟨L5, hL5, a5, b5, rfl, ho5, hp5⟩ := hs5 j f hf; obtain ⟨g5, k5, e6, cur5, hb5⟩ := HSZ.o.there zO; obtain ⟨x5, ex5, _, _, d0, d1, d2⟩ := gz hL5; subst ex5; injection e5 with e5 _ e7; subst e5 e7; injection e6 with e6 _ e7; subst e7; injection e6 with e6; have hbx : wz.heap[x5.block]? = some (.cells cur5 105 (0, 0)) := (by rw [e6]; exact hb5); have HBX := zH (show wz.heap[(x5.add (j * 3)).block]? = some (.cells cur5 105 (0, 0)) by rw [dP]; exact hbx); have HO5 := zH ho5.nums; have HP5 := zH hp5.nums; obtain ⟨A6, n6, c6, rfl, rfl⟩ := ho5.shape; obtain ⟨A7, n7, c7, rfl, rfl⟩ := hp5.shape; obtain ⟨y0, _, _⟩ := bo BYZ.o; obtain ⟨_, _, _, p3, _⟩ := aW BEZ.o; have HDR := zH (HT.o.under (zB wz).drew HBZ.o); have hdb : (d.1.pass cx (d.2.1.take j) (cs.take j)).ks.n + D < 4194303 := by
     have h1 := HPS.o.2.2; have h2 := HN.o; have h3 : D * (cs.take j).length + D <= D * cs.length := (by rw [List.length_take, Nat.min_eq_left hjl, <- Nat.mul_succ]; exact Nat.mul_le_mul_left D hlt); omega
    have HDC := zH (rP (w := wz.drew) HDR.o HBZ.o HS.o HBWZ.o.drew HWB.o (nm := c) (by rw [HPS.o.2.1]; exact HOC.o c (List.mem_of_getElem? hc)) hcx hdb)
    have HST := zH (show d.1.pass cx (d.2.1.take (j + 1)) (cs.take (j + 1)) = (((d.1.pass cx (d.2.1.take j) (cs.take j)).den cx c).1.agree f ((d.1.pass cx (d.2.1.take j) (cs.take j)).den cx c).2.2) by
     obtain ⟨_, rfl⟩ := List.getElem?_eq_some_iff.1 hc; obtain ⟨_, rfl⟩ := List.getElem?_eq_some_iff.1 hf; rw [List.take_succ_eq_append_getElem hlt, List.take_succ_eq_append_getElem hltd, TSt.pass_snoc _ _ _ _ _ [] (by rw [List.length_take, List.length_take]; omega)])
    have KT := zH (show (λ W : World => W.cell? ⟨Y, 0, none⟩ = some (.slice (some x5) d.2.1.length cf) /\ W.cell? (x5.add (j * 3)) = some (.slice none 0 0) /\ W.cell? { block := (x5.add (j * 3)).block, off := (x5.add (j * 3)).off + 1 } = some (.slice A6 f.ins.length c6) /\ W.cell? { block := (x5.add (j * 3)).block, off := (x5.add (j * 3)).off + 2 } = some (.slice A7 f.outs.length c7)) wz.drew from ⟨y0, d0, d1, d2⟩); clear hc hf hE9 hcx hs5 hL5 ho5 hp5 hb5 e6 hbx hdb; go_wp2_with fail
    refine wp_region_held_drew (S := (λ W : World => W.cell? ⟨Y, 0, none⟩ = some (.slice (some x5) d.2.1.length cf) /\ W.cell? (x5.add (j * 3)) = some (.slice none 0 0) /\ W.cell? { block := (x5.add (j * 3)).block, off := (x5.add (j * 3)).off + 1 } = some (.slice A6 f.ins.length c6) /\ W.cell? { block := (x5.add (j * 3)).block, off := (x5.add (j * 3)).off + 2 } = some (.slice A7 f.outs.length c7))) zK ?_ (λ hHeld => ?_)
    . exact KT.o
    refine aa 0 ?_; refine aa 1 ?_; refine aa 2 ?_; refine aa 3 ?_; refine aa 4 ?_; refine aa 5 ?_; refine aa 6 ?_; refine aa 7 ?_; refine aq 8 zK rfl (λ K hK => ?_); go_simp
    (go_at_call 139
     (with_reducible refine HDC.o.mono ?_); rintro e w8 ⟨v8, rfl, ⟨fv8, a8, b8, rfl, s8, x8, y8⟩, ⟨kv8, ht8⟩, hk8⟩; obtain ⟨V8, rfl⟩ := zW w8; have hkd := (au.of_below (zB wz).drew HBZ.o).trans hk8; have HE8 := zH (HE.o.trans hkd); have HK8 := zH (show (λ W : World => W.cell? ⟨Y, 0, none⟩ = some (.slice (some x5) d.2.1.length cf) /\ W.cell? (x5.add (j * 3)) = some (.slice none 0 0) /\ W.cell? { block := (x5.add (j * 3)).block, off := (x5.add (j * 3)).off + 1 } = some (.slice A6 f.ins.length c6) /\ W.cell? { block := (x5.add (j * 3)).block, off := (x5.add (j * 3)).off + 2 } = some (.slice A7 f.outs.length c7)) V8 from ⟨hkd.cell (x := ⟨Y, 0, none⟩) BYZ.o zD zD zD y0, hkd.cell HBX.o zD zD zD d0, hkd.cell (x := { block := (x5.add (j * 3)).block, off := (x5.add (j * 3)).off + 1 }) HBX.o zD zD zD d1, hkd.cell (x := { block := (x5.add (j * 3)).block, off := (x5.add (j * 3)).off + 2 }) HBX.o zD zD zD d2⟩); have HBX8 := zH (hkd.cells _ _ _ zD zD zD HBX.o); have BY8 := zH (hkd.cells _ _ _ zD zD zD BYZ.o); have HAG := zH (nX (f1 := .slice none 0 0) (f2 := fv8) ht8 (Nat.le_trans HBZ.o hkd.below.size) (hkd.nums HO5.o) (hkd.nums HP5.o) x8.nums y8.nums); obtain ⟨A3, n3, c3, rfl, rfl⟩ := s8.shape; obtain ⟨A4, n4, c4, rfl, rfl⟩ := x8.shape; obtain ⟨A8, n8, c8, rfl, rfl⟩ := y8.shape; clear s8 x8 y8 ht8 hk8 hkd HDC)
    refine hK.out _ _ (HK8.o) (λ hHeld => ?_); clear hK K; try simp only [Act.put, aO, aM, aN]
    refine aq 9 zK rfl (λ K hK => ?_); go_simp
    (go_at_call 140
     (with_reducible refine HAG.o.mono ?_); rintro e w9 ⟨rfl, ht9, hk9⟩; obtain ⟨V9, rfl⟩ := zW w9; have HT9 := zH ht9; have HE9 := zH (HE8.o.trans hk9); obtain ⟨z0, z1, z2, z3⟩ := HK8.o; have HK9 := zH (show (λ W : World => W.cell? ⟨Y, 0, none⟩ = some (.slice (some x5) d.2.1.length cf) /\ W.cell? (x5.add (j * 3)) = some (.slice none 0 0) /\ W.cell? { block := (x5.add (j * 3)).block, off := (x5.add (j * 3)).off + 1 } = some (.slice A6 f.ins.length c6) /\ W.cell? { block := (x5.add (j * 3)).block, off := (x5.add (j * 3)).off + 2 } = some (.slice A7 f.outs.length c7)) V9 from ⟨hk9.cell (x := ⟨Y, 0, none⟩) BY8.o zD zD zD z0, hk9.cell HBX8.o zD zD zD z1, hk9.cell (x := { block := (x5.add (j * 3)).block, off := (x5.add (j * 3)).off + 1 }) HBX8.o zD zD zD z2, hk9.cell (x := { block := (x5.add (j * 3)).block, off := (x5.add (j * 3)).off + 2 }) HBX8.o zD zD zD z3⟩); clear ht9 hk9 z0 z1 z2 z3)
    refine hK.out _ _ (HK9.o) (λ hHeld => ?_); clear hK K; try simp only [Act.put, aO, aM, aN]
    refine wpAnyH_done zK ?_ _; go_wp2_with fail
    go_roundg (cs.length - (j + 1))
    case measure => have := HK.o; omega
    case rel => exact ⟨j + 1, by omega, by go_num, by rw [HST.o]; exact HT9.o, HE9.o⟩
  . have hje : j = cs.length := by omega
    subst hje
    have HTE := zH (show aJ B wz H kv2 (d.1.pass cx d.2.1 cs) by
     have h1 := HT.o; rw [List.take_length] at h1; rw [<- TSt.pass_cut cs (d.2.1.take cs.length) (d.2.1.drop cs.length) d.1 (by rw [List.length_take]; have := HCL.o; omega), List.take_append_drop] at h1; exact h1)
    have HPE := zH (HDS.o.trans (TSt.pass_stay hDS d.2.1 cs d.1) (Nat.le_refl _)); generalize d.1.pass cx d.2.1 cs = u at HTE HPE HQ; have HCX := zH (HEX.o u kv2 wz HTE.o HBZ.o HBWZ.o HPE.o.2.1 (by have h1 := HPE.o.2.2; have h2 := HN.o; omega)); have HKS := zH (pT hDS ks u); obtain ⟨_, _, _, p3, p4⟩ := aW BEZ.o; clear HT
    go_wp2_with (first
     | (go_at_call 105; (with_reducible refine HCX.o.mono ?_); rintro e w3 ⟨v3, rfl, ho3, ⟨kv3, ht3⟩, hk3⟩; obtain ⟨V3, rfl⟩ := zW w3; have HB3 := zH (Nat.le_trans HBZ.o hk3.below.size); have HE3 := zH (HE.o.trans hk3); have HO3 := zH ho3; have HAN := zH (nz ht3 HB3.o n (by have h1 := HPE.o.2.2; have h2 := HN.o; have h3 := HKS.o.2.2; have h4 := HN6.o; omega)); obtain ⟨A3, n3, c3, rfl, rfl⟩ := ho3.shape; clear ho3 ht3 hk3)
     | (go_at_call 59; (with_reducible refine HAN.o.mono ?_); rintro e w4 ⟨v4, rfl, ho4, ⟨kv4, ht4⟩, hk4⟩; obtain ⟨V4, rfl⟩ := zW w4; have hB4 := Nat.le_trans HB3.o hk4.below.size; have HO4 := zH ho4; have hE4 := HE3.o.trans hk4; have ho3 := hk4.own HO3.o; obtain ⟨A4, n4, c4, rfl, rfl⟩ := ho4.shape; have hal4 := zA V4 (.cells #[.slice none 0 0, .slice A3 (bt cx u ks).2.length c3, .slice A4 ((bt cx u ks).1.news n).length c4] 105); have HE4 := zH (hE4.trans (au.of_below hal4 hB4)); have BX4 := zH (heap_alloc_new V4 (.cells #[.slice none 0 0, .slice A3 (bt cx u ks).2.length c3, .slice A4 ((bt cx u ks).1.news n).length c4] 105)); have BY4 := HE4.o.cells _ _ _ zD zD zD BY2.o; have HAG := zH (nX (s := ⟨(bt cx u ks).2, (bt cx u ks).1.news n⟩) (f1 := .slice Af d.2.1.length cf) (f2 := .slice none 0 0) (ht4.under hal4 hB4) (Nat.le_trans hB4 hal4.size) (HE4.o.own HX2.o).nums (HE4.o.own HY2.o).nums (ho3.under hal4).nums (ho4.under hal4).nums); have HP4 := zH (ho4.under hal4); obtain ⟨y0, y1, y2⟩ := bo BY4; clear ho4 ht4 hk4 hB4 hE4 ho3 hal4 BY4)
     | (go_at_call 140; (with_reducible refine HAG.o.mono ?_); rintro e w9 ⟨rfl, ht9, hk9⟩; obtain ⟨V9, rfl⟩ := zW w9; have HT9 := zH ht9; have HE9 := zH ((HE2.o.trans HE4.o).trans hk9); have HP9 := zH (hk9.own HP4.o); obtain ⟨_, _, x2⟩ := bo (hk9.cells _ _ _ zD zD zD BX4.o); clear ht9 hk9))
    go_ret; rw [HQ.o]; exact ⟨_, rfl, HP9.o, HT9.o, HE9.o⟩
end
section
variable {B : Nat} {w w0 : World} {H : TyH} {kv : Value} {t : TSt}
theorem Av {cx : TCx} {fs : List (Tx × SgE)} {op m : Int} {nm : Tx} {cs : List Tx} {ks : List Ex} {cv kk v : Value} {l : List Int} (h : aJ B w H kv t) (hB : B <= w.heap.size) (hn : t.ks.n < 4194303) (hC : oL H cx.con w0) (hcb : ∀ c, cx.con c < 9223372036854775808) (hT : ∀ nm k, iI nm k) (hb : Below w0.heap.size w0 w) (hwB : w0.heap.size <= B)
  (hnm : nm.length <= maxLen) (hcs : aF w0 cv cs) (hl : bJ w v l) (hk : okE fs cx.sig op nm cs ks) (hll : l.length = ks.length) :
  Calls prog 104 #[.pointer (some ⟨H.N, 0, none⟩), .agg #[.int .i64 op, .string (str nm), .int .i64 m, cv, kk], v] w (iu B H (t.value cx op nm cs l).1 (t.value cx op nm cs l).2 w) := by
 obtain ⟨con, sig⟩ := cx; obtain ⟨_, k11, k0, k7, _, _⟩ := hk; have hne : ks ≠ [] -> l ≠ [] := λ hks e => by rw [e] at hll; exact hks (List.eq_nil_of_length_eq_zero hll.symm)
 by_cases h12 : op = 1 ∨ op = 2
 . exact ux h hB hn h12
 by_cases h3 : op = 3
 . subst h3; exact Au h hB hn hC hb (hcb nm)
 by_cases h4 : op = 4
 . subst h4; exact Ar h hB hnm
 have h0 := hne (k0 zO zO h3 h4); by_cases h56 : op = 5 ∨ op = 6
 . exact Cw h hB hn hl h0 (hT nm _) h56
 by_cases h7 : op = 7
 . subst h7; have hlen := k7 rfl; obtain ⟨a, b, r, hr⟩ : ∃ a b r, l = a :: b :: r := by
    match l, hll with
    | a :: b :: r, _ => exact ⟨a, b, r, rfl⟩
    | [], e => simp at e; omega
    | [_], e => simp at e; omega
   exact Cx h hB hl hr
 by_cases h11 : op = 11 ∨ op = 12
 . obtain ⟨c, hc⟩ : ∃ c, cs[0]? = some c := by
    cases cs with
    | nil => exact absurd rfl (k11 h11)
    | cons c r => exact ⟨c, rfl⟩
   exact wZ h hB hnm hcs hc hC hb hwB (hcb c) hl h0 h11
 exact xa h hB hl h0 ⟨by omega, by omega, h3, h4, by omega, by omega, h7, by omega, by omega⟩
theorem Fm (hB : B <= w.heap.size) (a : Int) : cy B (w.alloc (.cells #[.int .i64 a] 3)) (.slice (some ⟨w.heap.size, 0, none⟩) 1 1) [a] :=
 ⟨by simp, .inr ⟨w.heap.size, 1, #[.int .i64 a], rfl, hB, heap_alloc_new w _, Nat.le_refl _, by unfold maxLen; omega, by simp, by simp [DE]⟩⟩
theorem zo (cx : TCx) {fs : List (Tx × SgE)} {sig : Tx -> Option bz} : ∀ x : Ex, okX fs sig x -> ∀ (t : TSt) (n : Nat), 1 <= n -> (dA cx t n x).2 ≠ [] := by
 refine Ex.ind λ op nm m cs ks ih => ?_; intro hk t n hn; rw [okX] at hk; rw [dA]; split
 . simp only; intro e; have := congrArg List.length e; rw [TSt.news_len] at this; simp at this; omega
 . split
   . rename_i h15; obtain ⟨a, b, rfl⟩ := hk.1.2.2.2.2.2 h15; rw [qz]; exact ih a (by simp) (vt hk.2 a (by simp)) _ n hn
   . simp
end
section
variable {B : Nat} {w0 : World} {H : TyH} {cx : TCx} {fs : List (Tx × SgE)} {D : Nat}
theorem uA {op m : Int} {nm : Tx} {cs : List Tx} {ks : List Ex} (hC : oL H cx.con w0) (hcb : ∀ c, cx.con c < 9223372036854775808) (hT : ∀ nm k, iI nm k) (hDS : ∀ nm q, cx.sig nm = some q -> qN q <= D) (hwB : w0.heap.size <= B) (hk : okE fs cx.sig op nm cs ks) (hE : ∀ v, ak w0 (bM w0) v ks -> wP B H cx w0 v ks fs D) (h14 : op ≠ 14) (h15 : op ≠ 15) : oK B H cx w0 (.mk op nm m cs ks) fs D := by
 intro n t kv w L hn6 h hB hb hx hf hn; obtain ⟨cv, kk, rfl, _, hnm, _, hcs, hkk⟩ := hx.open_; have HEX := zH (hE kk hkk); have hal := zA w (.cells #[.int .i64 op, .string (str nm), .int .i64 m, cv, kk] 81); have HBW := zH (hb.trans (hal.mono hb.size)); have HB0 := zH (Nat.le_trans hB hal.size); have HE0 := zH (au.of_below hal hB); have HT0 := zH (h.under hal hB); have BE := zH (heap_alloc_new w (.cells #[.int .i64 op, .string (str nm), .int .i64 m, cv, kk] 81)); have HQ := zH (show dA cx t n (.mk op nm m cs ks) = (((bt cx t ks).1.value cx op nm cs (bt cx t ks).2).1, [((bt cx t ks).1.value cx op nm cs (bt cx t ks).2).2]) by rw [dA, if_neg h14, if_neg h15]); rw [gh] at hn; have HN := zH hn; have HKS := zH (pT hDS ks t); have HWB := zH hwB; have HCS := zH hcs; have HNM := zH hnm; have HK := zH hk; have HC := zH hC; have HCB := zH hcb; have HTK := zH hT; have HFS := zH hf; obtain ⟨Ac, ncs, cc, rfl⟩ := ak.shape hcs; obtain ⟨Ak, nks, ck, rfl⟩ := ak.shape hkk; have q14 : (op == 14) = false := (by simpa using h14); have q15 : (op == 15) = false := (by simpa using h15); clear h hB hb hx hf hn hnm hcs hkk hk hC hcb hT hal hE hDS hwB; go_enter func60, ntmps60
 go_wp2_with fail
 obtain ⟨E, hEE⟩ : ∃ E, E = w.heap.size := ⟨_, rfl⟩; rw [<- hEE] at BE; rw [<- hEE]; clear hEE; generalize w.alloc (.cells #[.int .i64 op, .string (str nm), .int .i64 m, .slice Ac ncs cc, .slice Ak nks ck] 81) = V0 at *; obtain ⟨p0, p1, p2, p3, p4⟩ := aW BE.o; have HCX := zH (HEX.o t kv V0.drew (HT0.o.under (zB V0).drew HB0.o) HB0.o HBW.o.drew HFS.o (by have := HN.o; omega)); have KT := zH (show (λ W : World => W.cell? ⟨E, 0, none⟩ = some (.int .i64 op) /\ W.cell? ⟨E, 1, none⟩ = some (.string (str nm)) /\ W.cell? ⟨E, 2, none⟩ = some (.int .i64 m) /\ W.cell? ⟨E, 3, none⟩ = some (.slice Ac ncs cc) /\ W.cell? ⟨E, 4, none⟩ = some (.slice Ak nks ck)) V0.drew from ⟨p0, p1, p2, p3, p4⟩); refine wp_region_held_drew (S := (λ W : World => W.cell? ⟨E, 0, none⟩ = some (.int .i64 op) /\ W.cell? ⟨E, 1, none⟩ = some (.string (str nm)) /\ W.cell? ⟨E, 2, none⟩ = some (.int .i64 m) /\ W.cell? ⟨E, 3, none⟩ = some (.slice Ac ncs cc) /\ W.cell? ⟨E, 4, none⟩ = some (.slice Ak nks ck))) zK ?_ (λ hHeld => ?_)
 . exact KT.o
 refine aa 0 ?_; refine aa 1 ?_; refine aa 2 ?_; refine aa 3 ?_; refine aa 4 ?_; refine aq 5 zK rfl (λ K hK => ?_); go_simp
 (go_at_call 105
  (with_reducible refine HCX.o.mono ?_); rintro e w3 ⟨v3, rfl, ho3, ⟨kv3, ht3⟩, hk3⟩; obtain ⟨V3, rfl⟩ := zW w3; have hkd := (au.of_below (zB V0).drew HB0.o).trans hk3; have HB3 := zH (Nat.le_trans HB0.o hkd.below.size); have HE3 := zH (HE0.o.trans hkd); have BE3 := zH (hkd.cells _ _ _ zD zD zD BE.o); have HV := zH (Av (m := m) (kk := .slice Ak nks ck) ht3 HB3.o (by have h1 := HKS.o.2.2; have h2 := HN.o; omega) HC.o HCB.o HTK.o (HBW.o.trans (hkd.below.mono HWB.o)) HWB.o HNM.o HCS.o ho3.nums HK.o (nG cx ks t)); obtain ⟨A3, n3, c3, rfl, rfl⟩ := ho3.shape; obtain ⟨r0, r1, r2, r3, r4⟩ := aW BE3.o; clear ho3 ht3 hk3 hkd)
 refine hK.out _ _ (⟨r0, r1, r2, r3, r4⟩) (λ hHeld => ?_); clear hK K; try simp only [Act.put, aO, aM, aN]
 refine aq 6 zK rfl (λ K hK => ?_); go_simp
 (go_at_call 104
  (with_reducible refine HV.o.mono ?_); rintro e w9 ⟨rfl, ht9, hk9⟩; obtain ⟨V9, rfl⟩ := zW w9; have hB9 := Nat.le_trans HB3.o hk9.below.size; have HB9 := zH hB9; have HT9 := zH ht9; have HE9 := zH (HE3.o.trans hk9); have BE9 := zH (hk9.cells _ _ _ zD zD zD BE3.o); obtain ⟨s0, s1, s2, s3, s4⟩ := aW BE9.o; clear ht9 hk9 hB9)
 refine hK.out _ _ (⟨s0, s1, s2, s3, s4⟩) (λ hHeld => ?_); clear hK K; try simp only [Act.put, aO, aM, aN]
 refine aq 7 zK rfl (λ K hK => ?_); go_simp
 have hal9 := zA V9 (.cells #[.int .i64 ((bt cx t ks).1.value cx op nm cs (bt cx t ks).2).2] 3); have BE10 := zH ((hal9.block _ (ab BE9.o)).trans BE9.o); obtain ⟨u0, u1, u2, u3, u4⟩ := aW BE10.o; refine hK.out _ _ (⟨u0, u1, u2, u3, u4⟩) (λ hHeld => ?_); clear hK K; try simp only [Act.put, aO, aM, aN]
 refine aa 8 ?_; refine wpAnyH_done zK ?_ _; go_wp2_with fail
 go_ret; rw [HQ.o]; obtain ⟨kv9, ht9⟩ := HT9.o; exact ⟨_, rfl, Fm HB9.o _, ⟨kv9, ht9.under hal9 HB9.o⟩, HE9.o.trans (au.of_below hal9 HB9.o)⟩
end
section
variable {B : Nat} {w0 : World} {H : TyH} {cx : TCx} {fs : List (Tx × SgE)} {D : Nat}
theorem xb {m : Int} {nm : Tx} {cs : List Tx} {ks : List Ex} (hS : lZ H cx.sig D w0) (hwB : w0.heap.size <= B) (hk : okE fs cx.sig 14 nm cs ks) (hE : ∀ v, ak w0 (bM w0) v ks -> wP B H cx w0 v ks fs D) : oK B H cx w0 (.mk 14 nm m cs ks) fs D := by
 intro n t kv w L hn6 h hB hb hx hf hn; obtain ⟨cv, kk, rfl, _, hnm, _, hcs, hkk⟩ := hx.open_; obtain ⟨_, _, _, _, k14, _⟩ := hk; obtain ⟨g1, g2, g3, g4⟩ := k14 rfl; have hcl : cs.length <= (t.den cx nm).2.1.length := by
  unfold TSt.den; rw [hf]; cases hg : bl fs nm with
  | some s => rw [g3 (by rw [hg]; simp)]; exact Nat.zero_le _
  | none =>
    simp only; cases hs : cx.sig nm with
    | none =>
      rcases g2 with g2 | g2
      . exact absurd hg g2
      . exact absurd hs g2
    | some q =>
      simp only; rw [(TSt.inst_stay t q).2]; exact g4 hg q hs
 have hal := zA w (.cells #[.int .i64 14, .string (str nm), .int .i64 m, cv, kk] 81); have HE0 := zH (au.of_below hal hB); have HC := zH (xj (n := n) (m := m) (h.under hal hB) (Nat.le_trans hB hal.size) hS (hb.trans (hal.mono hb.size)) hwB hnm hcs hkk (by rw [hf]; exact g2) (by rw [hf]; exact g1) hcl (by rw [hf]; exact hE kk hkk) hn6 hn); have BE := zH (heap_alloc_new w (.cells #[.int .i64 14, .string (str nm), .int .i64 m, cv, kk] 81)); clear h hB hb hx hf hn hn6 hcs hkk hal hS hwB g1 g2 g3 g4 k14 hcl hE hnm; go_enter func60, ntmps60
 go_wp2_with (go_at_call 101
              (with_reducible refine HC.o.mono ?_); rintro e w9 ⟨v9, rfl, ho9, ht9, hk9⟩; obtain ⟨V9, rfl⟩ := zW w9; have HO9 := zH ho9; have HT9 := zH ht9; have HE9 := zH (HE0.o.trans hk9); clear ho9 ht9 hk9)
 go_ret; exact ⟨_, rfl, HO9.o, HT9.o, HE9.o⟩
theorem uB {m : Int} {nm : Tx} {cs : List Tx} {a b : Ex} (hDS : ∀ nm q, cx.sig nm = some q -> qN q <= D) (hwB : w0.heap.size <= B) (ha : oK B H cx w0 a fs D) (hbr : oK B H cx w0 b fs D) (hbn : ∀ t : TSt, (dA cx t 1 b).2 ≠ []) : oK B H cx w0 (.mk 15 nm m cs [a, b]) fs D := by
 intro n t kv w L hn6 h hB hb hx hf hn; obtain ⟨cv, kk, rfl, _, hnm, _, hcs, hkk⟩ := hx.open_; obtain ⟨Ak, ck, rfl, hkc, hkm, hke⟩ := hkk; rw [show ([a, b] : List Ex).length = 2 from rfl]; obtain ⟨L0, hE0, hX0⟩ := hke 0 a rfl; obtain ⟨L1, hE1, hX1⟩ := hke 1 b rfl; obtain ⟨o0, s0, i0, A0, m0, k0, C0, n0, j0, rfl⟩ := hX0.shape; obtain ⟨o1, s1, i1, A1, m1, k1, C1, n1, j1, rfl⟩ := hX1.shape; have hal := zA w (.cells #[.int .i64 15, .string (str nm), .int .i64 m, cv, .slice Ak 2 ck] 81); have HBW := zH (hb.trans (hal.mono hb.size)); have HB0 := zH (Nat.le_trans hB hal.size); have HK0 := zH (au.of_below hal hB); have HT0 := zH (h.under hal hB); have BE := zH (heap_alloc_new w (.cells #[.int .i64 15, .string (str nm), .int .i64 m, cv, .slice Ak 2 ck] 81)); rw [gh, bQ, bQ, bQ] at hn; have HN := zH hn; have HN6 := zH hn6; have HSB := zH (kP hDS b t 1 zO); have HWB := zH hwB; have HA := zH ha; have HXA := zH hX0; have HEA := zH hE0; have HFS := zH hf; obtain ⟨y, hy⟩ : ∃ y, dA cx t 1 b = y := ⟨_, rfl⟩; obtain ⟨ty, ly⟩ := y; obtain ⟨c, r, hly⟩ : ∃ c r, ly = c :: r := by
  have := hbn t; rw [hy] at this; cases ly with
  | nil => exact absurd rfl this
  | cons c r => exact ⟨c, r, rfl⟩
 subst hly; have HQ := zH (show dA cx t n (.mk 15 nm m cs [a, b]) = dA cx (ty.is c 2) n a by rw [dA, if_neg (by decide : ¬ (15 : Int) = 14), if_pos rfl, qz, hy]; rfl); rw [hy] at HSB; have hal1 := (Below.refl (w.alloc (.cells #[.int .i64 15, .string (str nm), .int .i64 m, cv, .slice Ak 2 ck] 81)).heap.size (w.alloc (.cells #[.int .i64 15, .string (str nm), .int .i64 m, cv, .slice Ak 2 ck] 81))).alloc (Nat.le_refl _) (.cells #[.int .i64 o1, .string s1, .int .i64 i1, .slice A1 m1 k1, .slice C1 n1 j1] 81); have HR := zH (hbr 1 t kv _ _ zO (HT0.o.under hal1 HB0.o) (Nat.le_trans HB0.o hal1.size) (HBW.o.trans (hal1.mono HBW.o.size)) hX1 hf zO); rw [hy] at HR; have HCX := zH (pC (w := w.alloc (.cells #[.int .i64 15, .string (str nm), .int .i64 m, cv, .slice Ak 2 ck] 81)) (t' := ty) (a := c) (r := r) HB0.o HR.o); obtain ⟨x1, ex1, _, _, d0, d1, d2, d3, d4⟩ := eh (hE1.under HBW.o); subst ex1; have e5 : x1.add (1 * 5) = { block := x1.block, off := x1.off + 5 } := (by have := bk x1 0 5 zO; rwa [add_zero] at this); simp only [e5] at d0 d1 d2 d3 d4; obtain ⟨Ac, ncs, cc, rfl⟩ := ak.shape hcs; clear h hB hb hx hf hn hn6 hcs hal hal1 hke hkc hkm hE0 hE1 hX0 hX1 hnm ha hbr hbn HR hDS hwB; go_enter func60, ntmps60
 go_wp2_with (first
  | (go_at_call 103; (with_reducible refine HCX.o.mono ?_); rintro e w3 ⟨rfl, ⟨kv3, ht3⟩, hk3⟩; obtain ⟨V3, rfl⟩ := zW w3; have hB3 := Nat.le_trans HB0.o hk3.below.size; have HB3 := zH hB3; have HK3 := zH (HK0.o.trans hk3); have HBW3 := zH (HBW.o.trans (hk3.below.mono HWB.o)); have BE3 := zH (hk3.cells _ _ _ zD zD zD BE.o); have HI := zH (jL ht3 hB3 c 2 zO); clear ht3 hk3 hB3)
  | (go_at_call 102; (with_reducible refine HI.o.mono ?_); rintro e w4 ⟨rfl, ⟨kv4, ht4⟩, hk4⟩; obtain ⟨V4, rfl⟩ := zW w4; have HBW4 := HBW3.o.trans (hk4.below.mono HWB.o); obtain ⟨_, _, _, _, p4⟩ := aW (hk4.cells _ _ _ zD zD zD BE3.o); obtain ⟨x2, ex2, _, _, e0, e1, e2, e3, e4⟩ := eh (HEA.o.under HBW4); injection ex2 with ex2; subst ex2; rw [Nat.zero_mul, add_zero] at e0 e1 e2 e3 e4; have HK4 := zH (HK3.o.trans hk4); have HRA := zH (HA.o n (ty.is c 2) kv4 V4 _ HN6.o ht4 (Nat.le_trans HB3.o hk4.below.size) HBW4 HXA.o ((TSt.is_stay ty c 2).2.1.trans (HSB.o.2.1.trans HFS.o)) (by have h1 := HSB.o.2.2; have h2 := HN.o; have h3 := (TSt.is_stay ty c 2).2.2; omega)); clear ht4 hk4 HBW4)
  | (go_at_call 60; (with_reducible refine HRA.o.mono ?_); rintro e w9 ⟨v9, rfl, ho9, ht9, hk9⟩; obtain ⟨V9, rfl⟩ := zW w9; have HO9 := zH ho9; have HT9 := zH ht9; have HE9 := zH (HK4.o.trans hk9); clear ho9 ht9 hk9))
 go_ret; rw [HQ.o]; exact ⟨_, rfl, HO9.o, HT9.o, HE9.o⟩
theorem Aw (hS : lZ H cx.sig D w0) (hC : oL H cx.con w0) (hcb : ∀ c, cx.con c < 9223372036854775808) (hT : ∀ nm k, iI nm k) (hwB : w0.heap.size <= B) : ∀ x : Ex, okX fs cx.sig x -> oK B H cx w0 x fs D := by
 refine Ex.ind λ op nm m cs ks ih => ?_; intro hk; rw [okX] at hk; have hks := vt hk.2
 have hE : ∀ v, ak w0 (bM w0) v ks -> wP B H cx w0 v ks fs D := λ v hv => uE hv (λ k hk => ih k hk (hks k hk)) (λ k hk t => by
  obtain ⟨_, h2, h3⟩ := kP hS.small k t 1 zO; exact ⟨zo cx k (hks k hk) t 1 zO, h2, h3⟩) hk.1.1 hwB
 by_cases h14 : op = 14
 . subst h14; exact xb hS hwB hk.1 hE
 by_cases h15 : op = 15
 . subst h15; obtain ⟨a, b, rfl⟩ := hk.1.2.2.2.2.2 rfl; exact uB hS.small hwB (ih a (by simp) (hks a (by simp))) (ih b (by simp) (hks b (by simp))) (λ t => zo cx b (hks b (by simp)) t 1 zO)
 exact uA hC hcb hT hS.small hwB hk.1 hE h14 h15
end
theorem mb (s : Tx) (a : Int) : ∀ (l : List Tx) (r : List Int) (t : TSt), l.length = r.length -> df t (l ++ [s]) (r ++ [a]) = (df t l r).tie ((df t l r).var s) a
 | [], [], t, _ => rfl
 | [], _ :: _, _, h => by simp at h
 | _ :: _, [], _, h => by simp at h
 | x :: l, b :: r, t, h => mb s a l r (t.tie (t.var x) b) (by simpa using h)
theorem nY : ∀ (l m : List Tx) (r : List Int) (t : TSt), l.length = r.length -> df t (l ++ m) r = df t l r
 | [], m, [], t, _ => by cases m <;> rfl
 | [], _, _ :: _, _, h => by simp at h
 | _ :: _, _, [], _, h => by simp at h
 | x :: l, m, b :: r, t, h => nY l m r (t.tie (t.var x) b) (by simpa using h)
theorem ma : ∀ (l : List Tx) (r : List Int) (t : TSt), bR t (df t l r) 0
 | [], r, t => by cases r <;> exact bR.refl _ _
 | _ :: _, [], t => bR.refl _ _
 | x :: l, b :: r, t => bR.trans (a := 0) (b := 0) (u := t.tie (t.var x) b) ⟨rfl, rfl, by show (lJ t.ks _ b).n <= _; rw [th]; omega⟩ (ma l r _) zO
theorem j9 {cx : TCx} {D : Nat} (hD : ∀ nm q, cx.sig nm = some q -> qN q <= D) (t : TSt) (q : QEq) (hq : q.names.length <= 6) : bR t (dO cx t q) (gh D q.e) := by
 unfold dO; exact (kP hD q.e t q.names.length hq).trans (ma _ _ _) zO
section
variable {B : Nat} {w w0 : World} {H : TyH} {kv : Value} {t : TSt} {cx : TCx} {fs : List (Tx × SgE)} {D : Nat}
def IN (B : Nat) (H : TyH) (t' : TSt) (W : World) (e : Ending) (w' : World) : Prop := e = .returned (.bool (!t'.ref)) /\ (∃ kv', aJ B w' H kv' t') /\ au B W w'
theorem Ay {q : QEq} {L : List Value} (h : aJ B w H kv t) (hB : B <= w.heap.size) (hb : Below w0.heap.size w0 w) (hwB : w0.heap.size <= B) (hq : l7 w0 L q) (hR : oK B H cx w0 q.e t.funs D) (hn6 : q.names.length <= 6) (hlen : (dA cx t q.names.length q.e).2.length <= q.names.length) (hn : t.ks.n + gh D q.e < 4194303) :
  Calls prog 33 #[.pointer (some ⟨H.N, 0, none⟩), .agg L.toArray] w (IN B H (dO cx t q) w) := by
 obtain ⟨nv, L', rfl, hnv, hx⟩ := hq; obtain ⟨An, cn, rfl, hnc, hnm, hne⟩ := hnv; have HX := zH hx; obtain ⟨o0, s0, i0, A0, m0, k0, C0, n0, j0, rfl⟩ := hx.shape; have hal := zA w (.cells #[.slice An q.names.length cn, .int .i64 o0, .string s0, .int .i64 i0, .slice A0 m0 k0, .slice C0 n0 j0] 83); have HBW := zH (hb.trans (hal.mono hb.size)); have HB0 := zH (Nat.le_trans hB hal.size); have HK0 := zH (au.of_below hal hB); have HR := zH (hR q.names.length t kv _ _ hn6 (h.under hal hB) HB0.o HBW.o hx rfl hn); have BE := zH (heap_alloc_new w (.cells #[.slice An q.names.length cn, .int .i64 o0, .string s0, .int .i64 i0, .slice A0 m0 k0, .slice C0 n0 j0] 83)); have HWB := zH hwB; have HNE := zH hne; have HQ := zH (show dO cx t q = df (dA cx t q.names.length q.e).1 q.names (dA cx t q.names.length q.e).2 from rfl); have HL := zH hlen; have hnl : q.names.length <= 9223372036854775807 := zO; generalize dA cx t q.names.length q.e = u at *; obtain ⟨tu, lu⟩ := u; have hul : lu.length <= 9223372036854775807 := Nat.le_trans HL.o hnl; clear h hB hb hwB hx hR hn6 hlen hn hal hne hnc hnm; go_enter func33, ntmps33
 go_wp2_with (go_at_call 60
              (with_reducible refine HR.o.mono ?_); rintro e w1 ⟨v1, rfl, ho1, ⟨kv1, ht1⟩, hk1⟩; obtain ⟨V1, rfl⟩ := zW w1; have HT1 := zH ht1; have HO1 := zH ho1; have HK1 := zH (HK0.o.trans hk1); have HB1 := zH (Nat.le_trans HB0.o hk1.below.size); have HBW1 := zH (HBW.o.trans (hk1.below.mono HWB.o)); have BE1 := zH (hk1.cells _ _ _ zD zD zD BE.o); obtain ⟨A1, n1, c1, rfl, rfl⟩ := ho1.shape; clear ho1 ht1 hk1)
 go_loopg [15] lu.length (λ g v wr => ∃ j : Nat, j + g = lu.length /\ v = .int .i64 j /\ (∃ kv', aJ B wr H kv' (df tu (q.names.take j) (lu.take j))) /\ au B V1 wr)
 case atStart => exact ⟨0, by omega, rfl, ⟨kv1, by simpa [df] using HT1.o⟩, au.refl _ _⟩
 case round =>
  obtain ⟨j, hjg, rfl, ⟨kv2, hty⟩, hke⟩ := hrel; obtain ⟨wz, rfl⟩ := zW wr; have HK := zH hjg; have HT := zH hty; have HE := zH hke; have HBZ := zH (Nat.le_trans HB1.o hke.below.size); have hjl : j <= lu.length := zO; have HBWZ := zH (HBW1.o.trans (hke.below.mono HWB.o)); have BEZ := zH (hke.cells _ _ _ zD zD zD BE1.o); have HOZ := zH (hke.own HO1.o); clear hjg hty hke; by_cases hlt : j < lu.length
  . have hltn : j < q.names.length := Nat.lt_of_lt_of_le hlt HL.o; obtain ⟨x, hx⟩ := zG hlt; obtain ⟨s, hs⟩ := zG hltn; obtain ⟨g1, o1, e1⟩ := HOZ.o.nums.some (λ e => by rw [e] at hx; cases hx); subst e1; have hfx := HOZ.o.nums.get hx; obtain ⟨L9, hE9, rfl, hsl⟩ := HNE.o j s hs; obtain ⟨a9, ea9, _, hz9, q9⟩ := dL hE9; subst ea9; rw [Nat.mul_one] at q9 hz9; have HAB := zH hz9; have HAQ := zH q9; have HQW := zH (show ∀ W, Below B wz W -> W.cell? (a9.add j) = some (.string (str s)) from λ W hW => ((HBWZ.o.trans (hW.mono HWB.o)).cell HAB.o).trans HAQ.o); obtain ⟨p0, _⟩ := CS BEZ.o; obtain ⟨_, c4, _, _, _⟩ := HT.o.cellsAt; have HD := zH (HT.o.under (zB wz).drew HBZ.o); have HSL := zH hsl; obtain ⟨y, hy⟩ : ∃ y, (df tu (q.names.take j) (lu.take j)).var s = y := ⟨_, rfl⟩
    have HST := zH (show df tu (q.names.take (j + 1)) (lu.take (j + 1)) = (df tu (q.names.take j) (lu.take j)).ties y [x] by
     obtain ⟨_, rfl⟩ := List.getElem?_eq_some_iff.1 hx; obtain ⟨_, rfl⟩ := List.getElem?_eq_some_iff.1 hs; rw [List.take_succ_eq_append_getElem hlt, List.take_succ_eq_append_getElem hltn, mb _ _ _ _ _ (by rw [List.length_take, List.length_take]; omega), hy]; rfl)
    have hlk := HD.o.look hsl; rw [hy] at hlk; have KT := zH (show (λ W : World => W.cell? ⟨H.N, 4, none⟩ = some (.map (some H.mv)) /\ W.cell? ⟨w.heap.size, 0, none⟩ = some (.slice (some a9) q.names.length cn) /\ W.cell? (a9.add j) = some (.string (str s)) /\ (Instr.lookup 91 (.map (some H.mv)) (.string (str s)) false).run prog W = .ok (.int .i64 y) W) wz.drew from ⟨c4, p0, HQW.o _ (Below.refl B wz).drew, hlk⟩); clear hx hs hE9 hlk; go_wp2_with fail
    refine wp_region_held_drew (S := (λ W : World => W.cell? ⟨H.N, 4, none⟩ = some (.map (some H.mv)) /\ W.cell? ⟨w.heap.size, 0, none⟩ = some (.slice (some a9) q.names.length cn) /\ W.cell? (a9.add j) = some (.string (str s)) /\ (Instr.lookup 91 (.map (some H.mv)) (.string (str s)) false).run prog W = .ok (.int .i64 y) W)) zK ?_ (λ hHeld => ?_)
    . exact KT.o
    refine aa 0 ?_; refine aa 1 ?_; refine aa 2 ?_; refine aa 3 ?_; refine aa 4 ?_; refine aa 5 ?_; refine aa 6 ?_; refine aa 7 ?_; refine aa 8 ?_; refine aa 9 ?_; refine aa 10 ?_; refine aa 11 ?_; have hal2 := (zA wz (.cells #[.int .i64 y, .int .i64 x] 3)).drew; have HT2 := zH (HT.o.under hal2 HBZ.o); have HK2 := zH (au.of_below hal2 HBZ.o); have HB2 := zH (Nat.le_trans HBZ.o hal2.size); have HSM := zH (fJ HT2.o HB2.o (show bJ ((wz.alloc (.cells #[.int .i64 y, .int .i64 x] 3)).drew) _ [y, x] from GQ (w := wz) y x)); have BE2 := zH (HK2.o.cells _ _ _ zD zD zD BEZ.o); refine aq 12 zK rfl (λ K hK => ?_); go_simp
    have hk2 := HT2.o.look HSL.o; rw [hy] at hk2; obtain ⟨_, c4', _, _, _⟩ := HT2.o.cellsAt; obtain ⟨p0', _⟩ := CS BE2.o; refine hK.out _ _ (⟨c4', p0', HQW.o _ HK2.o.below, hk2⟩) (λ hHeld => ?_); clear hK K; try simp only [Act.put, aO, aM, aN]
    clear hk2; refine aq 13 zK rfl (λ K hK => ?_); go_simp
    (go_at_call 61
     (with_reducible refine HSM.o.mono ?_); rintro e w8 ⟨rfl, ⟨kv8, ht8⟩, hk8⟩; obtain ⟨V8, rfl⟩ := zW w8; have HT8 := zH ht8; have HK8 := zH (HK2.o.trans hk8); have hk9 := ht8.look HSL.o; rw [show ((df tu (q.names.take j) (lu.take j)).ties y [x]).var s = y from hy] at hk9; obtain ⟨_, c5', _, _, _⟩ := ht8.cellsAt; obtain ⟨p1', _⟩ := CS (hk8.cells _ _ _ zD zD zD BE2.o); have HC8 := zH (show (λ W : World => W.cell? ⟨H.N, 4, none⟩ = some (.map (some H.mv)) /\ W.cell? ⟨w.heap.size, 0, none⟩ = some (.slice (some a9) q.names.length cn) /\ W.cell? (a9.add j) = some (.string (str s)) /\ (Instr.lookup 91 (.map (some H.mv)) (.string (str s)) false).run prog W = .ok (.int .i64 y) W) V8 from ⟨c5', p1', HQW.o _ HK8.o.below, hk9⟩); clear ht8 hk8 hk9)
    refine hK.out _ _ (HC8.o) (λ hHeld => ?_); clear hK K; try simp only [Act.put, aO, aM, aN]
    refine wpAnyH_done zK ?_ _; clear KT; go_wp2_with fail
    go_roundg (lu.length - (j + 1))
    case measure => have := HK.o; omega
    case rel => exact ⟨j + 1, by omega, by go_num, ⟨kv8, by rw [HST.o]; exact HT8.o⟩, HE.o.trans HK8.o⟩
  . have hje : j = lu.length := by omega
    subst hje
    have HTE := zH (show aJ B wz H kv2 (df tu q.names lu) by
     have h1 := HT.o; rw [List.take_length] at h1; rw [<- nY (q.names.take lu.length) (q.names.drop lu.length) lu tu (by rw [List.length_take]; have := HL.o; omega), List.take_append_drop] at h1; exact h1)
    obtain ⟨_, _, _, c6, _⟩ := HTE.o.cellsAt; clear HT; go_wp2_with fail
    go_ret; exact ⟨by rw [HQ.o]; rfl, ⟨kv2, by rw [HQ.o]; exact HTE.o⟩, HK1.o.trans HE.o⟩
end
end Go.Proofs.YtiholfmmphcbeaaGreatDoor
