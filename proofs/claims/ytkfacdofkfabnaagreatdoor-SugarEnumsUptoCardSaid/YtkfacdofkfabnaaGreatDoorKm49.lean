import Derived.Test.YtkfacdofkfabnaaGreatDoorKm42
import Derived.Test.YtkfacdofkfabnaaGreatDoorKm44
import Derived.Test.YtkfacdofkfabnaaGreatDoorKm47
import Derived.Test.YtkfacdofkfabnaaGreatDoorKm48
set_option maxHeartbeats 4000000
set_option maxRecDepth 100000
namespace Go.Proofs.YtkfacdofkfabnaaGreatDoor
open _root_.Go.Proofs.Tryz
open Go.RowKit
theorem wJ {l : List a8} {j : Nat} {x : a8} (h : l[j]? = some x) : b8 (l.take (j + 1)) = b8 (l.take j) + js x := by rw [bo h, ff]
theorem Cx {l : List aY} {j : Nat} {x : aY} (h : l[j]? = some x) : cM (l.take (j + 1)) = cM (l.take j) + b8 x.items := by rw [bo h, nX]
theorem Cp {w : World} {p : cZ} {L : List Value} (hL : ew w L p) (hx : ∀ x ∈ p.nodes, (fc x).length <= 1048576) (htab : Tab w) : Calls prog 3 #[.agg L.toArray] w (Fy w) := by
 have HLP := zH hL; have HX := zH hx; obtain ⟨ev, nv, rfl, hen, hno⟩ := hL; have HEN := zH hen; obtain ⟨E, ke, rfl, he1, he2, he3⟩ := hen; obtain ⟨N, kn, rfl, hn1, hn2, hn3⟩ := hno; have hle : p.enums.length <= 9223372036854775807 := (by unfold maxLen at he2; omega); have hln : p.nodes.length <= 9223372036854775807 := (by unfold maxLen at hn2; omega); have HN3 := zH hn3; have hal := zH (zA w (.cells #[.slice E p.enums.length ke, .slice N p.nodes.length kn] 25)); have BP := zH (heap_alloc_new w (.cells #[.slice E p.enums.length ke, .slice N p.nodes.length kn] 25)); have HT := zH (htab.under hal.o); clear hx he1 he3 hn1 hn3 htab; by_cases hp : (b9 p).1 = 0
 . have HP := zH hp; clear hp; go_enter func3, ntmps3
   go_upto_region 7 with (first
    | (go_at_call 4; (with_reducible refine (qi HT.o).mono ?_); rintro e w1 ⟨rfl, hb1⟩; obtain ⟨V1, rfl⟩ := zW w1; have HB1 := zH (hal.o.trans (hb1.mono hal.o.size)); have BP1 := zH (ab hb1 BP.o); have HT1 := zH (HT.o.under hb1); have HPL := zH (rX (HLP.o.under HB1.o) HX.o HT1.o (λ h => Da h)); obtain ⟨p0, p1⟩ := bG BP1.o; clear hb1)
    | (go_at_call 5; (with_reducible refine HPL.o.mono ?_); rintro e w2 ⟨hb2, Au, nu, ku, Av, nv, kv, rfl, hP⟩; obtain ⟨V2, rfl⟩ := zW w2; rw [HP.o]; obtain ⟨_, ev2, nv2, hPe, hQE, _⟩ := hP HP.o; obtain ⟨A', k', rfl, hq1, hq2, hq3⟩ := id hQE; obtain ⟨rfl, rfl, rfl, rfl⟩ : Au = A' /\ nu = (p.enums ++ bJ 0 p.nodes).length /\ ku = k' /\ .slice Av nv kv = nv2 := by simpa [i6, and_assoc] using hPe
       obtain ⟨tot, htot⟩ : ∃ n, n = (p.enums ++ bJ 0 p.nodes).length := ⟨_, rfl⟩; rw [<- htot]; have HTOT := zH htot; have HG2 := zH (show Below w.heap.size w ((V2.alloc (.cells #[.slice Au tot ku, .slice Av nv kv] 25)).alloc (.cells #[.int .i64 0, .int .i64 (b9 p).2.1, .int .i64 (b9 p).2.2] 29)) from ((HB1.o.trans (hb2.mono HB1.o.size)).alloc (by have := HB1.o.size; have := hb2.size; omega) _).alloc (by have := HB1.o.size; have := hb2.size; simp; omega) _); have HPB := zH (ag (o := .cells #[.int .i64 0, .int .i64 (b9 p).2.1, .int .i64 (b9 p).2.2] 29) (ag (o := .cells #[.slice Au tot ku, .slice Av nv kv] 25) (ab hb2 BP1.o))); have HQB := zH (ag (o := .cells #[.int .i64 0, .int .i64 (b9 p).2.1, .int .i64 (b9 p).2.2] 29) (heap_alloc_new V2 (.cells #[.slice Au tot ku, .slice Av nv kv] 25))); have HFB := zH (aF (w := V2.alloc (.cells #[.slice Au tot ku, .slice Av nv kv] 25)) (o := .cells #[.int .i64 0, .int .i64 (b9 p).2.1, .int .i64 (b9 p).2.2] 29) (n := V2.heap.size + 1) (by simp))
       have HQE := zH (show aw ((V2.alloc (.cells #[.slice Au tot ku, .slice Av nv kv] 25)).alloc (.cells #[.int .i64 0, .int .i64 (b9 p).2.1, .int .i64 (b9 p).2.2] 29)) (bE ((V2.alloc (.cells #[.slice Au tot ku, .slice Av nv kv] 25)).alloc (.cells #[.int .i64 0, .int .i64 (b9 p).2.1, .int .i64 (b9 p).2.2] 29))) (.slice Au tot ku) (p.enums ++ bJ 0 p.nodes) from by
        have hS := Sub.trans (fl V1.heap.size V2) (show Sub V2 ((V2.alloc (.cells #[.slice Au tot ku, .slice Av nv kv] 25)).alloc (.cells #[.int .i64 0, .int .i64 (b9 p).2.1, .int .i64 (b9 p).2.2] 29)) from λ a v hv => cT ((zA V2 (.cells #[.slice Au tot ku, .slice Av nv kv] 25)).alloc (by simp) (.cells #[.int .i64 0, .int .i64 (b9 p).2.1, .int .i64 (b9 p).2.2] 29)) hv); have h : ∀ W, Sub (cj V1.heap.size V2) W -> aw W (bE W) (.slice Au tot ku) (p.enums ++ bJ 0 p.nodes) := λ W hS => by rw [htot]; exact hQE.sub hS λ _ _ h => bE.sub h hS
        exact h _ hS)
       have htk : tot <= ku := (by rw [htot]; exact hq1); have htl : tot <= 9223372036854775807 := (by unfold maxLen at hq2; omega); have hpt : p.enums.length <= tot := (by rw [htot, sG]; omega); obtain ⟨x0, x1⟩ := bG HPB.o; obtain ⟨y0, y1⟩ := bG HQB.o; obtain ⟨z0, z1, z2⟩ := eG HFB.o; clear hb2 hP hPe hQE hq1 hq2 hq3 htot))
   generalize (V2.alloc (.cells #[.slice Au tot ku, .slice Av nv kv] 25)).alloc (.cells #[.int .i64 0, .int .i64 (b9 p).2.1, .int .i64 (b9 p).2.2] 29) = V at *
   have HSL := zH (show aw V (bE V) (.slice Au p.enums.length ku) p.enums by
    have h := HQE.o; rw [HTOT.o] at h; have h := aw.take h (k := p.enums.length) (by rw [List.length_append]; omega); rwa [List.take_left] at h)
   have HSAME := zH (λ W hW => xK HSL.o (HEN.o.mono HG2.o λ _ _ h => h.under HG2.o) W hW); have f7 : ((tot : Int) < (p.enums.length : Int)) = False := (by simp; omega); have f8 : p.enums.length <= ku := zO; refine wp_region_held_drew (S := (λ X => X.cell? ⟨V2.heap.size, 0, none⟩ = some (.slice Au tot ku) /\ X.cell? ⟨w.heap.size, 0, none⟩ = some (.slice E p.enums.length ke))) zK ?_ (λ hHeld => ?_)
   . (try dsimp only); go_keep
   refine aa 0 ?_; refine aa 1 ?_; refine aa 2 ?_; refine aa 3 ?_; refine aa 4 ?_; refine aa 5 ?_; refine aa 6 ?_; refine aa 7 ?_; refine aa 8 ?_; refine aa 9 ?_; refine aa 10 ?_; refine aa 11 ?_; refine aa 12 ?_; refine aa 13 ?_; refine ay 14 zK rfl (λ K hK => ?_); go_simp
   (go_at_call 6
    (with_reducible refine (HSAME.o _ (Below.refl _ _).drew).mono ?_); rintro e w3 ⟨rfl, hb3⟩; obtain ⟨Y, rfl⟩ := zW w3; have HBY := zH (show Below V.heap.size V Y from (Below.refl _ _).drew.trans hb3); have HY := zH (HG2.o.trans (HBY.o.mono HG2.o.size)); have HPY := zH (ab HBY.o HPB.o); have HQY := zH (ab HBY.o HQB.o); obtain ⟨x0, x1⟩ := bG HPY.o; obtain ⟨y0, y1⟩ := bG HQY.o; clear hb3)
   refine hK.out _ _ ?_ (λ hHeld => ?_)
   . (try dsimp only); go_keep
   clear hK K; try simp only [Act.put, aK, aI, aJ]
   refine aa 15 ?_; refine aa 16 ?_; refine wpAnyH_done zK ?_ _; go_wp2_with fail
   have HQ3 := zH (show aw Y (bE Y) (.slice Au tot ku) (p.enums ++ bJ 0 p.nodes) from HQE.o.mono HBY.o λ _ _ h => h.under HBY.o); clear HQE; go_loopg [5, 6] p.nodes.length (λ g v5 v6 wr => ∃ i : Nat, i + g = p.nodes.length /\ v5 = .int .i64 ((p.enums.length + cM (p.nodes.take i) : Nat) : Int) /\ v6 = .int .i64 i /\ Below Y.heap.size Y wr)
   case atStart => exact ⟨0, by omega, by simp [cM], rfl, Below.refl _ _⟩
   case round =>
    obtain ⟨i, hig, rfl, rfl, hbw⟩ := hrel; obtain ⟨wi, rfl⟩ := zW wr; have HI := zH hig; have HBI := zH hbw; have HWI := zH (HY.o.trans (hbw.mono HY.o.size)); obtain ⟨x0, x1⟩ := bG (ab hbw HPY.o); obtain ⟨y0, y1⟩ := bG (ab hbw HQY.o); clear hig hbw; by_cases hlt : i < p.nodes.length
    . obtain ⟨⟨nm, fs, is, os, its⟩, hn⟩ := zG hlt; obtain ⟨Ln, hLn, fv, iv, ov, xv, rfl, _, _, _, _, X, kx, rfl, hx1, hx2, hx3⟩ := HN3.o i _ hn; dsimp only at hx1 hx2 hx3 hLn
      have hli : its.length <= 9223372036854775807 := (by unfold maxLen at hx2; omega); have HLN := zH hLn; have HX3 := zH hx3; have HNI := zH hn; obtain ⟨a, rfl, ha, haa, d0, d1, d2, d3, d4⟩ := fB (hLn.under HWI.o); clear hx1 hx2 hx3 hn hLn; go_wp2_with fail
      go_loopg [5, 7] its.length (λ g v5 v7 wr => ∃ k : Nat, k + g = its.length /\ v5 = .int .i64 ((p.enums.length + cM (p.nodes.take i) + b8 (its.take k) : Nat) : Int) /\ v7 = .int .i64 k /\ Below Y.heap.size Y wr)
      case atStart => exact ⟨0, by omega, by simp [b8], rfl, HBI.o⟩
      case round =>
       obtain ⟨k, hkg, rfl, rfl, hbw⟩ := hrel; obtain ⟨wk, rfl⟩ := zW wr; have HK := zH hkg; have HBK := zH hbw; have HWK := zH (HY.o.trans (hbw.mono HY.o.size)); obtain ⟨x0, x1⟩ := bG (ab hbw HPY.o); obtain ⟨y0, y1⟩ := bG (ab hbw HQY.o); obtain ⟨_, ea, _, _, d0, d1, d2, d3, d4⟩ := fB (HLN.o.under HWK.o); obtain rfl := Option.some.inj ea; clear hkg hbw ea; by_cases hlk : k < its.length
       . obtain ⟨⟨⟨nms, ex⟩, sts⟩, hy⟩ := zG hlk; obtain ⟨Li, hLi, L', sv, rfl, ⟨nv, L2, rfl, hns, hex⟩, SA, sc, rfl, hs1, hs2, hs3⟩ := HX3.o k _ hy; obtain ⟨o1, s1, n1, A5, n5, k5, A1, m1, k1, rfl⟩ := hex.shape; dsimp only at hs1 hs2 hs3 hLi
         have HLI := zH hLi; have HS3 := zH hs3; have HYK := zH hy; have hls : sts.length <= 9223372036854775807 := (by unfold maxLen at hs2; omega); obtain ⟨ai, rfl, hai, haai, e0, e1, e2, e3, e4, e5, e6⟩ := qG (hLi.under HWK.o); clear hs1 hs2 hs3 hy hLi hns hex; by_cases hst : sts = []
         . subst hst; have HST := zH (show b8 (its.take (k + 1)) = b8 (its.take k) by rw [wJ HYK.o]; rfl); go_wp2_with fail
           go_roundg (its.length - (k + 1))
           case measure => have := HK.o; omega
           case rel => exact ⟨k + 1, by omega, by rw [HST.o], by go_num, HBK.o⟩
         . have HST := zH (show b8 (its.take (k + 1)) = b8 (its.take k) + 1 by rw [wJ HYK.o]; unfold js; rw [if_neg hst]); have hpos : sts.length ≠ 0 := λ e => hst (List.length_eq_zero_iff.1 e); obtain ⟨m, hm⟩ : ∃ m, m = p.enums.length + cM (p.nodes.take i) + b8 (its.take k) := ⟨_, rfl⟩; have hml : m < tot := (by rw [hm, HTOT.o]; exact Hp HNI.o HYK.o hst); obtain ⟨c0, hc0⟩ : ∃ c, (p.enums ++ bJ 0 p.nodes)[m]? = some (kq c sts) := ⟨_, by rw [hm]; exact AN HNI.o HYK.o hst⟩; obtain ⟨A0, k0, e0', hz1, hz2, hz3⟩ := HQ3.o; obtain ⟨Le, hLe, cv, rfl, _, C, cc, rfl, hc1, hc2, hc3⟩ := hz3 m _ hc0; obtain rfl : Au = A0 := by simpa using (by injection e0' : Au = A0)
           have hcl : (kq c0 sts).cons = sts.map aM.name := rfl; rw [hcl] at hc1 hc3 hLe; rw [List.length_map] at hc1 hLe; have HLE := zH hLe; have HC3 := zH hc3; have HM := zH hm; obtain ⟨aq, rfl, haq, haaq, g0, g1⟩ := mT (hLe.under HBK.o); rw [<- hm]; clear hc0 e0' hz1 hz2 hz3 hc1 hc2 hc3 hLe hcl hm hst; have f9 : ((sts.length : Int) != (sts.length : Int)) = false := (by simp); go_wp2_with fail
           go_loopg [9] sts.length (λ g v wr => ∃ j : Nat, j + g = sts.length /\ v = .int .i64 j /\ Below Y.heap.size Y wr)
           case atStart => exact ⟨0, by omega, rfl, HBK.o⟩
           case round =>
            obtain ⟨j, hjg, rfl, hbw⟩ := hrel; obtain ⟨wj, rfl⟩ := zW wr; have HJ := zH hjg; have HBJ := zH hbw; have HWJ := zH (HY.o.trans (hbw.mono HY.o.size)); obtain ⟨y0, y1⟩ := bG (ab hbw HQY.o); obtain ⟨_, ea, _, _, g0, g1⟩ := mT (HLE.o.under HBJ.o); obtain rfl := Option.some.inj ea; clear hjg hbw ea; by_cases hlj : j < sts.length
            . obtain ⟨st, hsj⟩ := zG hlj; obtain ⟨Ls, hLs, ev, wv, rfl, _, _, _⟩ := HS3.o j _ hsj; obtain ⟨sa, rfl, has, haas, t0, t1, t2⟩ := il (hLs.under HWJ.o); obtain ⟨Lc, hLc, rfl, _⟩ := HC3.o j st.name (by rw [List.getElem?_map, hsj]; rfl); obtain ⟨ac, rfl, hac, haac, u0⟩ := et (hLc.under HBJ.o); rw [Nat.mul_one] at u0 haac; have f4 : ((str st.name).toList != (str st.name).toList) = false := (by simp); clear hsj hLs hLc; go_wp2_with fail
              go_quiet (fail)
              go_wp2_with fail
              go_roundg (sts.length - (j + 1))
              case measure => have := HJ.o; omega
              case rel => exact ⟨j + 1, by omega, by go_num, gi HBJ.o _⟩
            . have hje : j = sts.length := by have := HJ.o; omega
              clear HJ; go_wp2_with fail
              go_roundg (its.length - (k + 1))
              case measure => have := HK.o; omega
              case rel => exact ⟨k + 1, by omega, by rw [HST.o, HM.o]; go_num, by go_num, HBJ.o⟩
       . have hke : k = its.length := by have := HK.o; omega
         have HNS := zH (show cM (p.nodes.take (i + 1)) = cM (p.nodes.take i) + b8 (its.take k) by rw [Cx HNI.o, hke, List.take_length]); clear HK; go_wp2_with fail
         go_roundg (p.nodes.length - (i + 1))
         case measure => have := HI.o; omega
         case rel => exact ⟨i + 1, by omega, by rw [HNS.o, Nat.add_assoc], by go_num, HBK.o⟩
    . have hie : i = p.nodes.length := by have := HI.o; omega
      have hfin : p.enums.length + cM (p.nodes.take i) = tot := (by rw [HTOT.o, sG, hie, List.take_length]); rw [hfin]; clear HI; go_wp2_with fail
      go_ret; exact ⟨by simp, HWI.o⟩
 . have HP := zH hp; go_enter func3, ntmps3
   go_wp2_with (first
    | (go_at_call 4; (with_reducible refine (qi HT.o).mono ?_); rintro e w1 ⟨rfl, hb1⟩; obtain ⟨V1, rfl⟩ := zW w1; have HB1 := zH (hal.o.trans (hb1.mono hal.o.size)); have BP1 := zH (ab hb1 BP.o); have HT1 := zH (HT.o.under hb1); have HPL := zH (rX (HLP.o.under HB1.o) HX.o HT1.o (λ h => Da h)); obtain ⟨p0, p1⟩ := bG BP1.o; clear hb1)
    | (go_at_call 5; (with_reducible refine HPL.o.mono ?_); rintro e w2 ⟨hb2, Au, nu, ku, Av, nv, kv, rfl, hP⟩; obtain ⟨V2, rfl⟩ := zW w2; have HB2 := zH (HB1.o.trans (hb2.mono HB1.o.size)); have h0 := HP.o; have hne : ((b9 p).1 != 0) = true := (by simpa using h0); obtain ⟨z0, z1, z2⟩ := eG (aF (w := V2.alloc (.cells #[.slice Au nu ku, .slice Av nv kv] 25)) (o := .cells #[.int .i64 (b9 p).1, .int .i64 (b9 p).2.1, .int .i64 (b9 p).2.2] 29) (n := V2.heap.size + 1) (by simp)); clear hb2 hP))
   go_ret; exact ⟨rfl, (HB2.o.alloc HB2.o.size _).alloc (by have := HB2.o.size; simp; omega) _⟩
end Go.Proofs.YtkfacdofkfabnaaGreatDoor
namespace Go.Proofs.YtkfacdofkfabnaaGreatDoor
open _root_.Go.Proofs.Tryz
open Go.RowKit Go.ChangeShapes Go.WideShapes Go.ChangeAt
theorem Dd {rest : List (String × DataW Unit)} {W : World} (h : laidMet prog (("internal/strconv.uint64pow10", Rows.laid_internal_strconv_uint64pow10) :: rest) W) : Tab W :=
 Lib.tabIs_of_head (g := 0) (t := 221) (e := 189) (n := 20) zK zK zK zK zK zK h
theorem yy {W : World} (h : laidMetH prog Rows.sugarEnumsUptoRow.laid W) : Tab W := by
 have h : laidMet prog Rows.sugarEnumsUptoRow.laid W := h; exact Dd h.tail.tail
theorem yQ (L : List Value) (x : cZ) (w : World) (hx : ew w L x) (hq : px x <= 1048576) (htab : Tab w) :
  Calls prog 3 #[.agg L.toArray] w (Fy w) := Cp hx (Dy hq) htab
end Go.Proofs.YtkfacdofkfabnaaGreatDoor
