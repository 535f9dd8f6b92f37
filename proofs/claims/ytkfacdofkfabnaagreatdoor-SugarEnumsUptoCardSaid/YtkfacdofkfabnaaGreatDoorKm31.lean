import Derived.Test.YtkfacdofkfabnaaGreatDoorKm30
set_option maxHeartbeats 8000000
set_option maxRecDepth 100000
namespace Go.Proofs.YtkfacdofkfabnaaGreatDoor
open _root_.Go.Proofs.Tryz
open Go.RowKit
open Go.ChangeMaps Go.MapKept
open Go.Maps
section
variable {S P e1 c1 n1 t1 f1 v1 : Nat} {nd : Value × Value × Value × Value × Value} {s : fu}
theorem BV {w : World} (h : dX w S P e1 c1 n1 t1 f1 v1 nd s) {op n : Int} {nm : Tx} {A B : Option Addr} {cs : List Tx} {ca k kc : Nat} (hnm : nm.length <= maxLen) (hcs : aH w (.slice A cs.length ca) cs) (r : Int) (u : Bool)
  (hne : op = 11 ∨ op = 12 ∨ op = 13 -> cs ≠ []) :
  Calls prog 149 #[.pointer (some ⟨S, 0, none⟩), .agg #[.int .i64 op, .string (str nm), .int .i64 n, .slice A cs.length ca, .slice B k kc], .agg #[.int .i64 r, .bool u]] w (aA (bK s op nm cs k r u) w) := by
 by_cases h4 : op = 4
 . subst h4; exact Je h hnm hcs r u
 by_cases h3 : op = 3
 . subst h3; exact Jf h hnm hcs r u
 by_cases h11 : op = 11
 . subst h11; exact GG h hnm hcs r u (hne (.inl rfl))
 by_cases h12 : op = 12
 . subst h12; exact GF h hnm hcs r u (hne (.inr (.inl rfl)))
 by_cases h13 : op = 13
 . subst h13; exact GD h hnm hcs r u (hne (.inr (.inr rfl)))
 by_cases h14 : op = 14
 . subst h14; exact GC h hnm hcs r u
 exact Jd h hnm hcs r u (by simpa using h4) (by simpa using h3) (by simpa using h11) (by simpa using h12) (by simpa using h13) (by simpa using h14)
theorem ur (op r : Int) (u first : Bool) (x : Ex) (l : List Ex) : fG s op r u first (x :: l) = (eY s (if op = 15 /\ first = true then r else 1) u x && fG s op r u false l) := by rw [fG]
theorem FT (op n : Int) (nm : Tx) (cs : List Tx) (ks : List Ex) (r : Int) (u : Bool) : eY s r u (.mk op nm n cs ks) = (bK s op nm cs ks.length r u && fG s op r (u || op == 13) true ks) := by rw [eY]
theorem Du {made : Bool} {op n : Int} {nm : Tx} {cs : List Tx} {ks : List Ex} (h : ed made (.mk op nm n cs ks) = true) : (op = 11 ∨ op = 12 ∨ op = 13 -> cs ≠ []) /\ ∀ k ∈ ks, ed made k = true := by
 rw [ed, Bool.and_eq_true, jR, List.all_eq_true] at h; refine ⟨λ ho hc => ?_, h.2⟩; have h1 := h.1; subst hc; rcases ho with rfl | rfl | rfl <;> simp [bO, gk] at h1
theorem iy {made : Bool} {w0 : World} (h0 : dX w0 S P e1 c1 n1 t1 f1 v1 nd s) {L : List Value} {x : Ex} (h : a7 w0 L x) : ed made x = true -> ∀ (r : Int) (u : Bool) (w : World), Below w0.heap.size w0 w ->
  Calls prog 109 #[.pointer (some ⟨S, 0, none⟩), .agg L.toArray, .agg #[.int .i64 r, .bool u]] w (aA (eY s r u x) w) := by
 induction h with
 | @mk op nm n cs ks cv A c C hop hnm hn hcs hl hc hk hx ih =>
   intro hr r u w hb; have hlm : ks.length <= 9223372036854775807 := (by unfold maxLen at hc; omega); obtain ⟨hne, hrk⟩ := Du hr; have HNE := zH hne; have HRK := zH hrk; have H0 := zH h0; have HB := zH hb; have HNM := zH hnm; have HCS := zH hcs; have hsz0 := hb.size; obtain ⟨A2, c2, rfl, _⟩ := hcs; have HNA := zH (λ (W : World) (hW : Below w0.heap.size w0 W) => BV (B := A) (k := ks.length) (kc := c) (n := n) (H0.o.under hW) HNM.o (HCS.o.under hW) r u HNE.o); have HQ := zH (FT (s := s) op n nm cs ks r u); clear hop hn hb hl hc hnm hne hrk hr h0; cases hnq : bK s op nm cs ks.length r u
   . rw [hnq] at HNA HQ; clear hnq; go_enter func109, ntmps109
     go_wp2_with (go_at_call 149
                  have a1 : Below w.heap.size w ((w.alloc (.cells #[.int .i64 op, .string (str nm), .int .i64 n, .slice A2 cs.length c2, .slice A ks.length c] 39)).alloc (.cells #[.int .i64 r, .bool u] 168)) := ((Below.refl _ w).alloc (Nat.le_refl _) _).alloc (by simp) _; (with_reducible refine (HNA.o _ (HB.o.trans (a1.mono hsz0))).mono ?_); rintro e w7 ⟨rfl, hb7⟩; have G1 := zH (a1.trans (hb7.mono a1.size)); clear a1 hb7)
     go_ret; exact ⟨au (by rw [HQ.o]; rfl), G1.o⟩
   . rw [hnq] at HNA HQ; clear hnq; rw [Bool.true_and] at HQ; go_enter func109, ntmps109
     go_wp2_with (go_at_call 149
                  have a1 : Below w.heap.size w ((w.alloc (.cells #[.int .i64 op, .string (str nm), .int .i64 n, .slice A2 cs.length c2, .slice A ks.length c] 39)).alloc (.cells #[.int .i64 r, .bool u] 168)) := ((Below.refl _ w).alloc (Nat.le_refl _) _).alloc (by simp) _; (with_reducible refine (HNA.o _ (HB.o.trans (a1.mono hsz0))).mono ?_); rintro e w7 ⟨rfl, hb7⟩; obtain ⟨V, rfl⟩ := zW w7; have G1 := zH (a1.trans (hb7.mono a1.size)); have BX := zH (show V.heap[w.heap.size]? = some (.cells #[.int .i64 op, .string (str nm), .int .i64 n, .slice A2 cs.length c2, .slice A ks.length c] 39 (0, 0)) from ab hb7 (aT (heap_alloc_new w _))); have BY := zH (show V.heap[w.heap.size + 1]? = some (.cells #[.int .i64 r, .bool u] 168 (0, 0)) from ab hb7 (aF (by simp))); obtain ⟨b0, b1, b2, b3, b4⟩ := aN BX.o; obtain ⟨g0, g1⟩ := bG BY.o; clear a1 hb7)
     clear b0 b1 b2 b3 g0 g1; go_loopg [17] ks.length (λ g v wr => ∃ k : Nat, k + g = ks.length /\ v = .int .i64 k /\ fG s op r (u || op == 13) true ks = fG s op r (u || op == 13) (decide (k = 0)) (ks.drop k) /\ Below V.heap.size V wr)
     case atStart => exact ⟨0, by omega, rfl, by simp, Below.refl _ _⟩
     case round =>
      obtain ⟨k, hkg, rfl, hu, hbw⟩ := hrel; obtain ⟨wq, rfl⟩ := zW wr; have HK := zH hkg; have HU := zH hu; have HW := zH hbw; have HG := zH (G1.o.trans (hbw.mono G1.o.size)); have BXQ := zH (ab hbw BX.o); have BYQ := zH (ab hbw BY.o); obtain ⟨b0, b1, b2, b3, b4⟩ := aN BXQ.o; obtain ⟨g0, g1⟩ := bG BYQ.o; have hkl : k <= ks.length := zO; clear hkg hu hbw; by_cases hlt : k < ks.length
      . obtain ⟨y, hy⟩ := zG hlt; have hC := hk k y hy; have hih := zH (ih k y hy (HRK.o y (List.mem_of_getElem? hy))); have hxk := hx k y hy; have HD := zH (cU hy); obtain ⟨o1, s1, n1', A1, m1, k1, A2', m2, k2, hL⟩ := hxk.shape; generalize C k = L at hC hih hxk hL; subst hL; clear hy hxk hk hx ih; have hB0 := zH (HB.o.trans (HG.o.mono hsz0)); obtain ⟨a, rfl, ha, haa, d0, d1, d2, d3, d4⟩ := fB (hC.under hB0.o); clear hC
        have HNX := zH (show fG s op r (u || op == 13) true ks = (eY s (jI op r k) (u || op == 13) y && fG s op r (u || op == 13) false (ks.drop (k + 1))) by
         rw [HU.o, HD.o, ur]; congr 2
         unfold jI; by_cases h0 : k = 0 <;> simp [h0])
        go_wp2_with fail
        have HY := zH (zA wq (.cells #[.int .i64 o1, .string s1, .int .i64 n1', .slice A1 m1 k1, .slice A2' m2 k2] 39)); have BZ := zH (heap_alloc_new wq (.cells #[.int .i64 o1, .string s1, .int .i64 n1', .slice A1 m1 k1, .slice A2' m2 k2] 39)); generalize wq.alloc (.cells #[.int .i64 o1, .string s1, .int .i64 n1', .slice A1 m1 k1, .slice A2' m2 k2] 39) = Y at *
        have KEEP := zH (show ∀ W, Below Y.heap.size Y W -> (λ W => W.cell? ⟨wq.heap.size, 0, none⟩ = some (.int .i64 o1) /\ W.cell? ⟨wq.heap.size, 1, none⟩ = some (.string s1) /\ W.cell? ⟨wq.heap.size, 2, none⟩ = some (.int .i64 n1') /\ W.cell? ⟨wq.heap.size, 3, none⟩ = some (.slice A1 m1 k1) /\ W.cell? ⟨wq.heap.size, 4, none⟩ = some (.slice A2' m2 k2) /\ W.cell? ⟨w.heap.size, 0, none⟩ = some (.int .i64 op) /\ W.cell? ⟨w.heap.size, 1, none⟩ = some (.string (str nm)) /\ W.cell? ⟨w.heap.size, 2, none⟩ = some (.int .i64 n) /\ W.cell? ⟨w.heap.size, 3, none⟩ = some (.slice A2 cs.length c2) /\ W.cell? ⟨w.heap.size, 4, none⟩ = some (.slice (some a) ks.length c) /\ W.cell? ⟨w.heap.size + 1, 0, none⟩ = some (.int .i64 r) /\ W.cell? ⟨w.heap.size + 1, 1, none⟩ = some (.bool u)) W from
         λ W hW => by
          obtain ⟨q0, q1, q2, q3, q4⟩ := aN (ab hW BZ.o); obtain ⟨b0, b1, b2, b3, b4⟩ := aN (ab hW (ab HY.o BXQ.o)); obtain ⟨g0, g1⟩ := bG (ab hW (ab HY.o BYQ.o)); exact ⟨q0, q1, q2, q3, q4, b0, b1, b2, b3, b4, g0, g1⟩)
        have hYB := zH (hB0.o.trans (HY.o.mono hB0.o.size)); clear b0 b1 b2 b3 b4 g0 g1 d0 d1 d2 d3 d4; refine wp_region_held_drew (S := (λ W => W.cell? ⟨wq.heap.size, 0, none⟩ = some (.int .i64 o1) /\ W.cell? ⟨wq.heap.size, 1, none⟩ = some (.string s1) /\ W.cell? ⟨wq.heap.size, 2, none⟩ = some (.int .i64 n1') /\ W.cell? ⟨wq.heap.size, 3, none⟩ = some (.slice A1 m1 k1) /\ W.cell? ⟨wq.heap.size, 4, none⟩ = some (.slice A2' m2 k2) /\ W.cell? ⟨w.heap.size, 0, none⟩ = some (.int .i64 op) /\ W.cell? ⟨w.heap.size, 1, none⟩ = some (.string (str nm)) /\ W.cell? ⟨w.heap.size, 2, none⟩ = some (.int .i64 n) /\ W.cell? ⟨w.heap.size, 3, none⟩ = some (.slice A2 cs.length c2) /\ W.cell? ⟨w.heap.size, 4, none⟩ = some (.slice (some a) ks.length c) /\ W.cell? ⟨w.heap.size + 1, 0, none⟩ = some (.int .i64 r) /\ W.cell? ⟨w.heap.size + 1, 1, none⟩ = some (.bool u))) zK ?_ (λ hHeld => ?_)
        . exact KEEP.o _ (Below.refl _ _).drew
        refine aa 0 ?_; refine aa 1 ?_; refine aa 2 ?_; refine aa 3 ?_; refine aa 4 ?_; refine ay 5 zK rfl (λ K hK => ?_); go_simp
        (go_at_call 150
         (with_reducible refine (GO op r _ n u (str nm) _ _ _ _ _ _ _).mono ?_); rintro e w7 ⟨rfl, hb7⟩; obtain ⟨z1, rfl⟩ := zW w7; have G2 := zH ((zB Y).drew.trans hb7); clear hb7)
        refine hK.out _ _ (KEEP.o _ ?_) (λ hHeld => ?_)
        . (repeat (first | exact Below.refl _ _ | exact G2.o | refine Below.drew ?_ | refine Below.alloc ?_ (by simp) _ | refine Below.setCell ?_ (by simp) _))
        clear hK K; try simp only [Act.put, aK, aI, aJ]
        cases hq : eY s (jI op r k) (u || op == 13) y
        . have HQY := zH hq; clear hq; refine ay 6 zK rfl (λ K hK => ?_); go_simp
          (go_at_call 109
           (with_reducible refine (hih.o (jI op r k) (u || op == 13) _ (hYB.o.trans (G2.o.mono hYB.o.size))).mono ?_); rintro e w7 ⟨he, hb7⟩; rw [HQY.o] at he; subst he; obtain ⟨z2, rfl⟩ := zW w7; have G3 := zH (G2.o.trans (hb7.mono G2.o.size)); clear hb7)
          refine hK.out _ _ (KEEP.o _ ?_) (λ hHeld => ?_)
          . (repeat (first | exact Below.refl _ _ | exact G3.o | refine Below.drew ?_ | refine Below.alloc ?_ (by simp) _ | refine Below.setCell ?_ (by simp) _))
          clear hK K; try simp only [Act.put, aK, aI, aJ]
          refine aa 7 ?_; refine wpAnyH_done zK ?_ _; have HFIN := zH (show eY s r u (.mk op nm n cs ks) = false by rw [HQ.o, HNX.o, HQY.o, Bool.false_and]); go_wp2_with fail
          go_ret; exact ⟨au HFIN.o.symm, HG.o.trans ((HY.o.mono HG.o.size).trans (G3.o.mono (Nat.le_trans HG.o.size HY.o.size)))⟩
        . have HQY := zH hq; clear hq; refine ay 6 zK rfl (λ K hK => ?_); go_simp
          (go_at_call 109
           (with_reducible refine (hih.o (jI op r k) (u || op == 13) _ (hYB.o.trans (G2.o.mono hYB.o.size))).mono ?_); rintro e w7 ⟨he, hb7⟩; rw [HQY.o] at he; subst he; obtain ⟨z2, rfl⟩ := zW w7; have G3 := zH (G2.o.trans (hb7.mono G2.o.size)); clear hb7)
          refine hK.out _ _ (KEEP.o _ ?_) (λ hHeld => ?_)
          . (repeat (first | exact Below.refl _ _ | exact G3.o | refine Below.drew ?_ | refine Below.alloc ?_ (by simp) _ | refine Below.setCell ?_ (by simp) _))
          clear hK K; try simp only [Act.put, aK, aI, aJ]
          refine aa 7 ?_; refine wpAnyH_done zK ?_ _; have HFIN := zH (show fG s op r (u || op == 13) true ks = fG s op r (u || op == 13) (decide (k + 1 = 0)) (ks.drop (k + 1)) by rw [HNX.o, HQY.o, Bool.true_and]; simp); go_wp2_with fail
          go_roundg (ks.length - (k + 1))
          case measure => have := HK.o; omega
          case rel => exact ⟨k + 1, by omega, by go_num, HFIN.o, HW.o.trans ((HY.o.mono HW.o.size).trans (G3.o.mono (Nat.le_trans HW.o.size HY.o.size)))⟩
      . have hke : k = ks.length := by omega
        have HFIN := zH (show eY s r u (.mk op nm n cs ks) = true by rw [HQ.o, HU.o, hke, List.drop_length, fG]); clear hke; go_wp2_with fail
        go_ret; exact ⟨au HFIN.o.symm, HG.o⟩
end
section
variable {S P e1 c1 n1 t1 f1 v1 : Nat} {nd : Value × Value × Value × Value × Value} {s : fu}
def gG (s : fu) (q : aM) : Bool := (q.eqs.all λ e => eY s 1 true e.e) && q.ways.all λ y => eY s 1 true y.cond
theorem oM {made : Bool} {i : a8} (h : cK made i = true) : (i.states = [] -> ed made i.eq.e = true) /\ ∀ q ∈ i.states, (∀ e ∈ q.eqs, ed made e.e = true) /\ ∀ y ∈ q.ways, ed made y.cond = true := by
 unfold cK at h; by_cases h0 : i.states = []
 . rw [if_pos h0] at h; refine ⟨λ _ => ?_, λ q hq => by rw [h0] at hq; cases hq⟩; unfold fi at h; rw [Bool.and_eq_true] at h; exact h.2
 . rw [if_neg h0, Bool.and_eq_true, Bool.and_eq_true] at h; refine ⟨λ e => absurd e h0, λ q hq => ?_⟩; have h1 := h.2.2; unfold gk at h1; rw [Bool.and_eq_true, List.all_eq_true] at h1; have h2 := h1.2 q hq; unfold dM gk at h2; simp only [Bool.and_eq_true, List.all_eq_true] at h2; refine ⟨λ e he => ?_, λ y hy => ?_⟩
   . have := h2.2.1.2 e he; unfold fi at this; rw [Bool.and_eq_true] at this; exact this.2
   . have := h2.2.2.2 y hy; unfold iP at this; rw [Bool.and_eq_true] at this; exact this.2
theorem C4 {made : Bool} {w0 : World} (h0 : dX w0 S P e1 c1 n1 t1 f1 v1 nd s) {L : List Value} {i : a8} (hL : bf w0 L i) (hr : cK made i = true) : ∀ w, Below w0.heap.size w0 w ->
  Calls prog 55 #[.pointer (some ⟨S, 0, none⟩), .agg L.toArray] w (aA (fW s i) w) := by
 intro w hb; have H0 := zH h0; have HB := zH hb; have hsz := hb.size; obtain ⟨hr1, hr2⟩ := oM hr; obtain ⟨L', sv, rfl, hEq, hst⟩ := hL; obtain ⟨⟨nl, ex⟩, sts⟩ := i; obtain ⟨nv, Le, rfl, hnv, hxe⟩ := hEq; replace hnv : aH w0 nv nl := hnv; replace hxe : a7 w0 Le ex := hxe; replace hst : aw w0 (bt w0) sv sts := hst; have HR1 := zH hr1; have HR2 := zH hr2; have HX := zH hxe; obtain ⟨A0, k0, rfl, hnc, hnm, _⟩ := hnv; have hnl : nl.length <= 9223372036854775807 := (by unfold maxLen at hnm; omega); obtain ⟨o1, s2, o3, A4, n4, k4, A5, n5, k5, rfl⟩ := hxe.shape; obtain ⟨sA, sc, rfl, hsc, hsm, hes⟩ := hst; have hsl : sts.length <= 9223372036854775807 := (by unfold maxLen at hsm; omega); have HES := zH hes; simp only [List.cons_append, List.nil_append]; clear hb hes hsc hsm hxe hnc hnm hr hr1 hr2 h0; by_cases hs0 : sts = []
 . have HE := zH (iy H0.o HX.o (HR1.o hs0)); subst hs0; have HQ := zH (show fW s ⟨⟨nl, ex⟩, []⟩ = eY s nl.length false ex from rfl); simp only [List.length_nil] at *; go_enter func55, ntmps55
   go_wp2_with (go_at_call 109
                (with_reducible refine (HE.o _ _ _ (HB.o.alloc zO _)).mono ?_); rintro e w1 ⟨rfl, hb1⟩)
   go_ret; exact ⟨au HQ.o.symm, ((Below.refl _ w).alloc (Nat.le_refl _) _).trans (hb1.mono (by simp))⟩
 . have HQ := zH (show fW s ⟨⟨nl, ex⟩, sts⟩ = sts.all (gG s) by rw [fW, if_neg hs0]; rfl); have hd : ((sts.length : Int) == 0) = false := by cases sts with
    | nil => exact absurd rfl hs0
    | cons a b => simp; omega
   clear hs0; go_enter func55, ntmps55
   go_wp2_with fail
   have a1 : Below w.heap.size w (w.alloc (.cells #[.slice A0 nl.length k0, .int .i64 o1, .string s2, .int .i64 o3, .slice A4 n4 k4, .slice A5 n5 k5, .slice sA sts.length sc] 44)) := (Below.refl _ w).alloc (Nat.le_refl _) _; have HV := zH (a1.alloc (by simp) (.cells #[.int .i64 1, .bool true] 168)); have BP := zH (show ((w.alloc (.cells #[.slice A0 nl.length k0, .int .i64 o1, .string s2, .int .i64 o3, .slice A4 n4 k4, .slice A5 n5 k5, .slice sA sts.length sc] 44)).alloc (.cells #[.int .i64 1, .bool true] 168)).heap[w.heap.size + 1]? = some (.cells #[.int .i64 1, .bool true] 168 (0, 0)) from aF (by simp)); generalize (w.alloc (.cells #[.slice A0 nl.length k0, .int .i64 o1, .string s2, .int .i64 o3, .slice A4 n4 k4, .slice A5 n5 k5, .slice sA sts.length sc] 44)).alloc (.cells #[.int .i64 1, .bool true] 168) = V at *; clear a1; go_loopg [30] sts.length (λ g v wr => ∃ k : Nat, k + g = sts.length /\ v = .int .i64 k /\ bY (gG s) sts k /\ Below V.heap.size V wr)
   case atStart => exact ⟨0, by omega, rfl, bY.zero, Below.refl _ _⟩
   case round =>
    obtain ⟨k, hkg, rfl, hto, hbw⟩ := hrel; obtain ⟨wq, rfl⟩ := zW wr; have HK := zH hkg; have HT := zH hto; have HW := zH hbw; have HQW := zH (HV.o.trans (hbw.mono HV.o.size)); have HBQ := zH (HB.o.trans (HQW.o.mono hsz)); have hkl : k <= sts.length := zO; clear hkg hto hbw; by_cases hlt : k < sts.length
    . obtain ⟨st, hst⟩ := zG hlt; obtain ⟨hre, hry⟩ := HR2.o st (List.mem_of_getElem? hst); have HRE := zH hre; have HRY := zH hry; have HST := zH hst; obtain ⟨X, hEX, ev, wv, rfl, hsn, ⟨E, ce, rfl, hec, hem, hee⟩, ⟨VV, cv, rfl, hvc, hvm, hve⟩⟩ := HES.o k st hst; have hel : st.eqs.length <= 9223372036854775807 := (by unfold maxLen at hem; omega); have hvl : st.ways.length <= 9223372036854775807 := (by unfold maxLen at hvm; omega); have HEE := zH hee; have HVE := zH hve; obtain ⟨a, rfl, ha, haa, d0, d1, d2⟩ := il (hEX.under HBQ.o); clear hEX hec hem hee hvc hvm hve hsn hst hre hry; go_wp2_with fail
      have BY := zH (heap_alloc_new wq (.cells #[.string (str st.name), .slice E st.eqs.length ce, .slice VV st.ways.length cv] 50)); have HY := zH (zA wq (.cells #[.string (str st.name), .slice E st.eqs.length ce, .slice VV st.ways.length cv] 50)); generalize wq.alloc (.cells #[.string (str st.name), .slice E st.eqs.length ce, .slice VV st.ways.length cv] 50) = Y at *; clear d0 d1 d2; have HYW := zH (HQW.o.trans (HY.o.mono HQW.o.size)); go_loopg [37] st.eqs.length (λ g v wr => ∃ j : Nat, j + g = st.eqs.length /\ v = .int .i64 j /\ bY (λ e : QEq => eY s 1 true e.e) st.eqs j /\ Below Y.heap.size Y wr)
      case atStart => exact ⟨0, by omega, rfl, bY.zero, Below.refl _ _⟩
      case round =>
       obtain ⟨j, hjg, rfl, hto, hbw⟩ := hrel; obtain ⟨wy, rfl⟩ := zW wr; have JK := zH hjg; have JT := zH hto; have JY := zH hbw; have JQ := zH (HYW.o.trans (hbw.mono HYW.o.size)); have JB := zH (HB.o.trans (JQ.o.mono hsz)); have JV := zH (HW.o.trans ((HY.o.mono HW.o.size).trans (hbw.mono (Nat.le_trans HW.o.size HY.o.size)))); obtain ⟨q0, q1, q2⟩ := eG (ab hbw BY.o); obtain ⟨g0, g1⟩ := bG (ab JV.o BP.o); have hpl := ak (ab JV.o BP.o); have hjl : j <= st.eqs.length := zO; clear hjg hto hbw; by_cases hlt2 : j < st.eqs.length
       . obtain ⟨y, hy⟩ := zG hlt2; obtain ⟨U, hEU, nv2, L2, rfl, hn2, hx2⟩ := HEE.o j y hy; have HF := zH (iy H0.o hx2 (HRE.o y (List.mem_of_getElem? hy))); obtain ⟨u0, u1, u2, rfl⟩ := aw.shape hn2; obtain ⟨u3, u4, u5, u6, u7, u8, u9, u10, u11, rfl⟩ := hx2.shape; obtain ⟨b, rfl, hb, hba, e0, e1, e2, e3, e4, e5⟩ := iU (hEU.under JB.o); have HYy := zH hy; clear hEU hn2 hx2 hy; have hal := zH (zA wy (.cells #[.slice u0 u1 u2, .int .i64 u3, .string u4, .int .i64 u5, .slice u6 u7 u8, .slice u9 u10 u11] 41)); cases hq : eY s 1 true y.e
         . have HQY := zH hq; clear hq
           go_wp2_with (go_at_call 109
                        (with_reducible refine (HF.o 1 true _ (JB.o.alloc JB.o.size _)).mono ?_); rintro e w7 ⟨he, hb7⟩; rw [HQY.o] at he; subst he)
           go_ret; exact ⟨au (by rw [HQ.o, eu HST.o (by rw [gG, eu HYy.o HQY.o]; rfl)]), JQ.o.trans ((hal.o.mono JQ.o.size).trans (hb7.mono (by have := JQ.o.size; simp; omega)))⟩
         . have HQY := zH hq; clear hq
           go_wp2_with (go_at_call 109
                        (with_reducible refine (HF.o 1 true _ (JB.o.alloc JB.o.size _)).mono ?_); rintro e w7 ⟨he, hb7⟩; rw [HQY.o] at he; subst he)
           go_roundg (st.eqs.length - (j + 1))
           case measure => have := JK.o; omega
           case rel => exact ⟨j + 1, by omega, by go_num, JT.o.succ HYy.o HQY.o, JY.o.trans ((hal.o.mono JY.o.size).trans (hb7.mono (by have := JY.o.size; simp; omega)))⟩
       . have hje : j = st.eqs.length := by omega
         have HJE := zH (show (st.eqs.all λ e => eY s 1 true e.e) = true from JT.o.all hje); have BYY := zH (ab JY.o BY.o); have BPY := zH (ab JV.o BP.o); clear hje; go_wp2_with fail
         obtain ⟨Z, hZ⟩ := zW wy; clear q0 q1 q2 g0 g1; rw [<- hZ] at BYY BPY JY JQ JB JV ⊢; clear hZ; go_loopg [51] st.ways.length (λ g v wr => ∃ m : Nat, m + g = st.ways.length /\ v = .int .i64 m /\ bY (λ y : eO => eY s 1 true y.cond) st.ways m /\ Below Z.heap.size Z wr)
         case atStart => exact ⟨0, by omega, rfl, bY.zero, Below.refl _ _⟩
         case round =>
          obtain ⟨m, hmg, rfl, hto, hbw⟩ := hrel; obtain ⟨wz, rfl⟩ := zW wr; have MK := zH hmg; have MT := zH hto; have MY := zH hbw; have MQ := zH (JQ.o.trans (hbw.mono JQ.o.size)); have MB := zH (HB.o.trans (MQ.o.mono hsz)); have MV := zH (JV.o.trans (hbw.mono JV.o.size)); obtain ⟨q0, q1, q2⟩ := eG (ab hbw BYY.o); obtain ⟨g0, g1⟩ := bG (ab hbw BPY.o); have hpl2 := ak (ab hbw BPY.o); have hml : m <= st.ways.length := zO; clear hmg hto hbw; by_cases hlt3 : m < st.ways.length
          . obtain ⟨y, hy⟩ := zG hlt3; obtain ⟨U, hEU, L6, rfl, hce, hyt⟩ := HVE.o m y hy; have HF := zH (iy H0.o hce (HRY.o y (List.mem_of_getElem? hy))); obtain ⟨u1, u2, u3, u4, u5, u6, u7, u8, u9, rfl⟩ := hce.shape; simp only [List.cons_append, List.nil_append] at hEU; obtain ⟨b, rfl, hb, hba, e0, e1, e2, e3, e4, e5⟩ := iU (hEU.under MB.o); have HYy := zH hy; clear hEU hce hy hyt; have hal := zH (zA wz (.cells #[.int .i64 u1, .string u2, .int .i64 u3, .slice u4 u5 u6, .slice u7 u8 u9, .string (str y.to)] 93)); cases hq : eY s 1 true y.cond
            . have HQY := zH hq; clear hq
              go_wp2_with (go_at_call 109
                           (with_reducible refine (HF.o 1 true _ (MB.o.alloc MB.o.size _)).mono ?_); rintro e w7 ⟨he, hb7⟩; rw [HQY.o] at he; subst he)
              go_ret; exact ⟨au (by rw [HQ.o, eu HST.o (by rw [gG, eu HYy.o HQY.o, Bool.and_false])]), MQ.o.trans ((hal.o.mono MQ.o.size).trans (hb7.mono (by have := MQ.o.size; simp; omega)))⟩
            . have HQY := zH hq; clear hq
              go_wp2_with (go_at_call 109
                           (with_reducible refine (HF.o 1 true _ (MB.o.alloc MB.o.size _)).mono ?_); rintro e w7 ⟨he, hb7⟩; rw [HQY.o] at he; subst he)
              go_roundg (st.ways.length - (m + 1))
              case measure => have := MK.o; omega
              case rel => exact ⟨m + 1, by omega, by go_num, MT.o.succ HYy.o HQY.o, MY.o.trans ((hal.o.mono MY.o.size).trans (hb7.mono (by have := MY.o.size; simp; omega)))⟩
          . have hme : m = st.ways.length := by omega
            have HME := zH (show gG s st = true by rw [gG, HJE.o, MT.o.all hme]; rfl); clear hme; go_wp2_with fail
            go_roundg (sts.length - (k + 1))
            case measure => have := HK.o; omega
            case rel => exact ⟨k + 1, by omega, by go_num, HT.o.succ HST.o HME.o, MV.o⟩
    . have hke : k = sts.length := by omega
      have HKE := zH (show fW s ⟨⟨nl, ex⟩, sts⟩ = true by rw [HQ.o, HT.o.all hke]); clear hke; go_wp2_with fail
      go_ret; exact ⟨au HKE.o.symm, HQW.o⟩
end
def um (l : List (Tx × Value)) (D : List Tx) : Prop := (∀ p ∈ l, ∃ n : Int, p.2 = .int .i64 n /\ (n = -1 ↔ p.1 ∉ D)) /\ ∀ o ∈ D, o ∈ l.map Prod.fst
section
variable {S P f1 v1 : Nat} {x1 x2 x3 x5 : Value}
theorem jG {w : World} {l : List (Tx × Value)} {D outs : List Tx} {A : Option Addr} {ca : Nat}
  (hbox : w.heap[S]? = some (.cells #[.pointer (some ⟨P, 0, none⟩), x1, x2, x3, .slice A outs.length ca, x5, .map (some f1), .map (some v1)] 124 (0, 0)))
  (hm : aP w v1 l) (hv : um l D) (ha : aH w (.slice A outs.length ca) outs) :
  Calls prog 54 #[.pointer (some ⟨S, 0, none⟩)] w (aA (outs.all D.contains) w) := by
 have HM := zH hm; have HV := zH hv; have HA := zH ha; obtain ⟨y0, y1, y2, y3, y4, y5, y6, y7⟩ := gm hbox; have hll : outs.length <= 9223372036854775807 := (by obtain ⟨_, _, e, h1, h2, _⟩ := ha; injection e with _ _ e3; unfold maxLen at h2; omega); clear hbox hm hv ha y1 y2 y3 y5 y6; go_enter func54, ntmps54
 go_wp2_with fail
 go_loop [13] (λ v => ∃ k : Nat, k <= outs.length /\ v = .int .i64 k /\ bY D.contains outs k) (λ v => outs.length - (intOf v).toNat)
 case atStart => exact ⟨0, Nat.zero_le _, rfl, bY.zero⟩
 case round =>
  obtain ⟨k, hk, rfl, hto⟩ := hrel; have HT := zH hto; clear hto; by_cases hlt : k < outs.length
  . obtain ⟨o, ho⟩ := zG hlt; have HO := zH ho; obtain ⟨A9, c9, e9, _, _, he9⟩ := HA.o; obtain ⟨L9, hE9, rfl, hol⟩ := he9 k o ho; injection e9 with e9 e10 e11; clear e10 e11; obtain ⟨a9, ea9, _, _, q9⟩ := et hE9; rw [ea9] at e9; subst e9; simp only [Nat.mul_one] at q9; clear ho he9 hE9 ea9; by_cases hD : o ∈ D
    . have HC := zH (show D.contains o = true from List.contains_iff_mem.2 hD); obtain ⟨⟨o', v⟩, hp, rfl⟩ := List.mem_map.1 (HV.o.2 o hD); obtain ⟨n, hn, hn1⟩ := HV.o.1 _ hp; simp only at hn; subst hn; have hne : (n == -1) = false := (by simp; exact λ e => (hn1.1 e) hD); have hrun := HM.o.look_yes underlying122 hp; clear hD hp hn1 hol; go_wp2_with fail
      go_round
      case rel => exact ⟨k + 1, by omega, by go_num, HT.o.succ HO.o HC.o⟩
      case measure => simp [intOf]; omega
    . have HF := zH (show outs.all D.contains = false from eu HO.o (by rw [Bool.eq_false_iff]; intro h; exact hD (List.contains_iff_mem.1 h))); by_cases hkey : o ∈ l.map Prod.fst
      . obtain ⟨⟨o', v⟩, hp, rfl⟩ := List.mem_map.1 hkey; obtain ⟨n, hn, hn1⟩ := HV.o.1 _ hp; simp only at hn; subst hn; have hne : n = -1 := hn1.2 hD; subst hne; have hrun := HM.o.look_yes underlying122 hp; clear hD hp hn1 hol hkey; go_wp2_with fail
        go_ret; exact ⟨au HF.o.symm, Below.refl _ _⟩
      . have hrun := HM.o.look_no underlying122 (Ir w) hol hkey; clear hD hol hkey; go_wp2_with fail
        go_ret; exact ⟨au HF.o.symm, Below.refl _ _⟩
  . have hke : k = outs.length := by omega
    have HF := zH (HT.o.all hke); clear hke; go_wp2_with fail
    go_ret; exact ⟨au HF.o.symm, Below.refl _ _⟩
end
theorem EG : gE 177 := enters_of func177 zK rfl
theorem yx {w0 : World} {names : List Tx} {va : Value} (ha : aH w0 va names) {N : Nat} (hN : w0.heap[N]? = some (.cells #[va] 33 (0, 0))) {L : List Value} {y : eO} (hy : d7 w0 L y) :
  ∀ w, Below w0.heap.size w0 w -> Calls prog 177 #[.agg L.toArray, .pointer (some ⟨N, 0, none⟩)] w (aA (!names.contains y.to) w) := by
 intro w hw; have HN := zH (ab hw hN); have hlt := ak HN.o; have HA := zH (ha.under hw); obtain ⟨L', rfl, hc, _⟩ := hy; obtain ⟨u1, u2, u3, u4, u5, u6, u7, u8, u9, rfl⟩ := hc.shape; simp only [List.cons_append, List.nil_append]; have hal : Below w.heap.size w (w.alloc (.cells #[.int .i64 u1, .string u2, .int .i64 u3, .slice u4 u5 u6, .slice u7 u8 u9, .string (str y.to)] 93)) := (Below.refl _ w).alloc (Nat.le_refl _) _; have HC := zH (rq (HA.o.under hal) y.to); have x0 := oL HN.o; clear ha hN hw hc hal; go_enter func177, ntmps177
 go_wp2_with (go_at_call 178; (with_reducible refine HC.o.mono ?_); rintro e w1 ⟨rfl, rfl⟩)
 go_ret; exact ⟨au (by simp), (Below.refl _ w).alloc (Nat.le_refl _) _⟩
theorem ou {w0 : World} {L : List Value} {q : aM} (hL : bt w0 L q) {w : World} (hb : Below w0.heap.size w0 w) {va : Value} {names : List Tx} (ha : aH w va names) :
  Calls prog 148 #[.agg L.toArray, va] w (aA (lL q names) w) := by
 have hmf : ∀ (fn : Fn) (first cap : Array Value) (w : World), (Instr.makeFunc fn first cap).run prog w = .ok (.func fn first cap) w := λ _ _ _ _ => rfl; obtain ⟨ev, wv, rfl, _, hev, hwv⟩ := hL; obtain ⟨E1, E2, E3, rfl⟩ := aw.shape hev; have HWV := zH (hwv.mono hb (λ _ _ h => h.under hb)); obtain ⟨W1, W2, W3, rfl⟩ := aw.shape hwv; have HA := zH ha; obtain ⟨A, c, rfl, _⟩ := ha; have a1 : Below w.heap.size w (w.alloc (.cells #[.string (str q.name), .slice E1 E2 E3, .slice W1 W2 W3] 50)) := (Below.refl _ w).alloc (Nat.le_refl _) _; have HV := zH (a1.alloc (by simp) (.cells #[.slice A names.length c] 33)); have BN := zH (show ((w.alloc (.cells #[.string (str q.name), .slice E1 E2 E3, .slice W1 W2 W3] 50)).alloc (.cells #[.slice A names.length c] 33)).heap[w.heap.size + 1]? = some (.cells #[.slice A names.length c] 33 (0, 0)) from aF (by simp)); have HCF := zH (qJ (HWV.o.mono HV.o (λ _ _ h => h.under HV.o)) EG (f := λ y => !names.contains y.to) (cap := #[.pointer (some ⟨w.heap.size + 1, 0, none⟩)]) (λ y _ L' hy => yx (HA.o.under HV.o) BN.o hy)); clear hev hwv hb a1; go_enter func148, ntmps148
 go_wp2_with (go_at_call 179
              (with_reducible refine (HCF.o _ (Below.refl _ _)).mono ?_); rintro e w1 ⟨rfl, hb1⟩; have HB := zH (HV.o.trans (hb1.mono HV.o.size)); clear hb1)
 go_ret; exact ⟨au (by rw [lL]; simp [List.any_eq_not_all_not]), HB.o⟩
def Fw (q : aM) (w : World) (e : Ending) (w' : World) : Prop :=
 (match dY q with
  | none => e = .returned (.tuple #[.map none, .bool false])
  | some l => ∃ b, e = .returned (.tuple #[.map (some b), .bool true]) /\ aP w' b (bu eZ l) /\ w.heap.size <= b) /\ Below w.heap.size w w'
theorem ja (m : List Tx) (q : QEq) (r : List QEq) : lp m (q :: r) = if q.names.length = 1 /\ bg m q.names = true then lp (m ++ q.names) r else none := rfl
theorem vu {w0 : World} {L : List Value} {q : aM} (hL : bt w0 L q) : ∀ w, Below w0.heap.size w0 w -> Calls prog 146 #[.agg L.toArray] w (Fw q w) := by
 intro w hb; have hmm := @run_makeMap prog; have HB := zH hb; have hsz := hb.size; obtain ⟨ev, wv, rfl, _, ⟨E, ce, rfl, hec, hem, hee⟩, hwv⟩ := hL; obtain ⟨W1, W2, W3, rfl⟩ := aw.shape hwv; have hel : q.eqs.length <= 9223372036854775807 := (by unfold maxLen at hem; omega); have HEE := zH hee; clear hb hec hem hee hwv; go_enter func146, ntmps146
 go_wp2_with fail
 clear hmm; have a1 : Below w.heap.size w (w.alloc (.cells #[.string (str q.name), .slice E q.eqs.length ce, .slice W1 W2 W3] 50)) := (Below.refl _ w).alloc (Nat.le_refl _) _; have HV := zH (a1.alloc (by simp) (.map #[] 0)); have HM0 := zH (show aP ((w.alloc (.cells #[.string (str q.name), .slice E q.eqs.length ce, .slice W1 W2 W3] 50)).alloc (.map #[] 0)) (w.heap.size + 1) [] by have := aP.made (w.alloc (.cells #[.string (str q.name), .slice E q.eqs.length ce, .slice W1 W2 W3] 50)); simpa using this); generalize (w.alloc (.cells #[.string (str q.name), .slice E q.eqs.length ce, .slice W1 W2 W3] 50)).alloc (.map #[] 0) = V at *; clear a1; go_loopg [11] q.eqs.length (λ g v wr => ∃ (k : Nat) (m : List Tx), k + g = q.eqs.length /\ v = .int .i64 k /\ dY q = lp m (q.eqs.drop k) /\ aP wr (w.heap.size + 1) (bu eZ m) /\ aC [w.heap.size + 1] V wr)
 case atStart => exact ⟨0, [], by omega, rfl, rfl, HM0.o, aC.refl _ _⟩
 case round =>
  obtain ⟨k, m, hkg, rfl, hu, hma, hkm⟩ := hrel; obtain ⟨wq, rfl⟩ := zW wr; have HK := zH hkg; have HU := zH hu; have HMA := zH hma; have HKM := zH hkm; have HG := zH (HV.o.trans (hkm.below (B := w.heap.size) (by simp) HV.o.size)); have HBQ := zH (HB.o.trans (HG.o.mono hsz)); have hkl : k <= q.eqs.length := zO; clear hkg hu hma hkm; by_cases hlt : k < q.eqs.length
  . obtain ⟨y, hy⟩ := zG hlt; have HD := zH (cU hy); obtain ⟨U, hEU, nv2, L2, rfl, hn2, hx2⟩ := HEE.o k y hy; have HN2 := zH hn2; obtain ⟨u0, u2, rfl, huc, hum, _⟩ := hn2; have hnl : y.names.length <= 9223372036854775807 := (by unfold maxLen at hum; omega); obtain ⟨u3, u4, u5, u6, u7, u8, u9, u10, u11, rfl⟩ := hx2.shape; obtain ⟨b, rfl, hb, hba, e0, e1, e2, e3, e4, e5⟩ := iU (hEU.under HBQ.o); have hal := zH (zA wq (.cells #[.slice u0 y.names.length u2, .int .i64 u3, .string u4, .int .i64 u5, .slice u6 u7 u8, .slice u9 u10 u11] 41)); clear hEU hx2 hy huc hum; by_cases h1 : y.names.length = 1
    . have hn1 : ((y.names.length : Int) != 1) = false := by simp [h1]
      have H1 := zH h1; clear h1; cases hr : bg m y.names
      . have HR := zH hr; have HN := zH (show dY q = none by rw [HU.o, HD.o, ja, if_neg (by rw [hr]; simp)]); clear hr
        go_wp2_with (go_at_call 51
                     (with_reducible refine (dr (HMA.o.under hal.o) (ez _) ((HN2.o.under HBQ.o).under hal.o)).mono ?_); rintro e w7 ⟨he, hk, _⟩; rw [cg, HR.o] at he; subst he; have HF := zH (HG.o.trans ((hal.o.mono HG.o.size).trans (hk.below (B := w.heap.size) (by simp) (by have := HG.o.size; simp; omega)))); clear hk)
        go_ret2
        exact ⟨by rw [HN.o]; exact rfl, HF.o⟩
      . have HR := zH hr; have HN := zH (show dY q = lp (m ++ y.names) (q.eqs.drop (k + 1)) by rw [HU.o, HD.o, ja, if_pos ⟨H1.o, hr⟩]); clear hr
        go_wp2_with (go_at_call 51
                     (with_reducible refine (dr (HMA.o.under hal.o) (ez _) ((HN2.o.under HBQ.o).under hal.o)).mono ?_); rintro e w7 ⟨he, hk, hmm⟩; rw [cg, HR.o] at he; subst he; have HK7 := zH ((HKM.o.trans (aC.of_below hal.o)).trans hk); have HM7 := zH (show aP w7 (w.heap.size + 1) (bu eZ (m ++ y.names)) by have := hmm (by rw [cg]; exact HR.o); rwa [show (.agg #[] : Value) = eZ from rfl, lW] at this); clear hk hmm)
        go_roundg (q.eqs.length - (k + 1))
        case measure => have := HK.o; omega
        case rel => exact ⟨k + 1, _, by omega, by go_num, HN.o, HM7.o, HK7.o⟩
    . have hn1 : ((y.names.length : Int) != 1) = true := by simp; omega
      have HN := zH (show dY q = none by rw [HU.o, HD.o, ja, if_neg (by rintro ⟨h, _⟩; exact h1 h)]); clear h1; go_wp2_with fail
      go_ret2
      exact ⟨by rw [HN.o]; exact rfl, HG.o.trans (hal.o.mono HG.o.size)⟩
  . have hke : k = q.eqs.length := by omega
    have HN := zH (show dY q = some m by rw [HU.o, hke, List.drop_length]; rfl); clear hke; go_wp2_with fail
    go_ret2
    exact ⟨by rw [HN.o]; exact ⟨_, rfl, HMA.o, by omega⟩, HG.o⟩
end Go.Proofs.YtkfacdofkfabnaaGreatDoor
namespace Go.Proofs.YtkfacdofkfabnaaGreatDoor
open _root_.Go.Proofs.Tryz
open Go.RowKit
def Fq (l : List Tx) (w : World) (e : Ending) (w' : World) : Prop := ∃ v, e = .returned v /\ aH w' v l /\ Below w.heap.size w w'
theorem Ih {w : World} {a : Addr} {v : Value} {n : Nat} (h : w.cell? { block := (a.add (0 * n)).block, off := (a.add (0 * n)).off + 1 } = some v) : w.cell? { block := a.block, off := a.off + 1 } = some v := by
 rw [Nat.zero_mul, add_zero] at h; exact h
theorem wF {w0 : World} {L : List Value} {i : a8} (hL : bf w0 L i) (hlen : (bH i).length <= 2097152) : ∀ w, Below w0.heap.size w0 w -> Calls prog 107 #[.agg L.toArray] w (Fq (bH i) w) := by
 intro w hb; have HB := zH hb; have hsz := hb.size; obtain ⟨⟨nm, e⟩, sts⟩ := i; obtain ⟨L', sv, rfl, ⟨nv, Le, rfl, hnv, hxe⟩, hst⟩ := hL; have HNV := zH hnv; obtain ⟨nA, nn, nk, rfl⟩ := aw.shape hnv; obtain ⟨eo1, es2, eo3, eA4, en4, ek4, eA5, en5, ek5, rfl⟩ := hxe.shape; obtain ⟨sA, sc, rfl, hsc, hsm, hes⟩ := hst; simp only [List.cons_append, List.nil_append]; have hsl : sts.length <= 9223372036854775807 := (by have h : sts.length <= sc := hsc; unfold maxLen at hsm; omega); clear hb hnv hxe hsc hsm; cases sts with
 | nil =>
   have hal := zH (zA w (.cells #[.slice nA nn nk, .int .i64 eo1, .string es2, .int .i64 eo3, .slice eA4 en4 ek4, .slice eA5 en5 ek5, .slice sA ([] : List aM).length sc] 44)); clear hes; go_enter func107, ntmps107
   go_wp2_with fail
   go_ret; exact ⟨_, rfl, (HNV.o.under HB.o).under hal.o, hal.o⟩
 | cons z sr =>
   have hd : (((z :: sr).length : Int) == 0) = false := (by simp; omega); have hpos : 0 < (z :: sr).length := (by simp); obtain ⟨N, hEN, hRN⟩ := hes 0 z rfl; obtain ⟨zn, eqs, ways⟩ := z; obtain ⟨ev, wv, rfl, _, hev, hwv⟩ := hRN; obtain ⟨qA, qc, rfl, hqc, hqm, heq⟩ := hev; obtain ⟨yA, yn, yc, rfl⟩ := aw.shape hwv; have hql : eqs.length <= 9223372036854775807 := (by have h : eqs.length <= qc := hqc; unfold maxLen at hqm; omega); have hX : bH ⟨⟨nm, e⟩, ⟨zn, eqs, ways⟩ :: sr⟩ = eqs.flatMap QEq.names := rfl; rw [hX] at hlen ⊢; obtain ⟨b, rfl, hbb, hbbb, e0, e1, e2⟩ := il (hEN.under HB.o); have e1 := Ih e1; generalize hn : (⟨zn, eqs, ways⟩ :: sr : List aM).length = sn at *; clear hqc hqm hEN hes hwv hX e0 e2 hbbb; go_enter func107, ntmps107
   go_wp2_with fail
   go_loopg [3, 19] eqs.length (λ g v i wr => ∃ k : Nat, k + g = eqs.length /\ i = .int .i64 k /\ fw w.heap.size wr v ((eqs.take k).flatMap QEq.names) /\ Below w.heap.size w wr)
   case atStart => exact ⟨0, by omega, rfl, by simpa using fw.nil _ _, (Below.refl _ w).alloc (Nat.le_refl _) _⟩
   case round =>
    obtain ⟨wr1, rfl⟩ := zW wr; obtain ⟨k, hkg, rfl, ho, hbw⟩ := hrel; have HK := zH hkg; have HW := zH hbw; have HO := zH ho; have hszw := hbw.size; have hkl : k <= eqs.length := zO; clear hkg hbw ho; by_cases hlt : k < eqs.length
    . obtain ⟨q, hq⟩ := zG hlt; have HT := zH (gI (f := QEq.names) hq); have hlen1 : ((eqs.take k).flatMap QEq.names).length + q.names.length <= 4194304 := by
       have h1 := tS QEq.names eqs (k + 1); rw [gI hq, List.length_append] at h1; omega
      obtain ⟨N3, hEN3, nv3, Le3, rfl, hnv3, hxe3⟩ := heq k q hq; have HN3 := zH hnv3; obtain ⟨nA3, nn3, nk3, rfl⟩ := aw.shape hnv3; obtain ⟨fo1, fs2, fo3, fA4, fn4, fk4, fA5, fn5, fk5, rfl⟩ := hxe3.shape; have HB3 := zH (HB.o.trans (HW.o.mono hsz)); obtain ⟨c, rfl, hcb, hcbb, f0, f1, f2, f3, f4, f5⟩ := iU (hEN3.under HB3.o); have HA3 := zH (zA wr1 (.cells #[.slice nA3 nn3 nk3, .int .i64 fo1, .string fs2, .int .i64 fo3, .slice fA4 fn4 fk4, .slice fA5 fn5 fk5] 41)); clear hnv3 hxe3 hEN3 hq heq; go_wp2_with (at_builtin; refine kr rfl _ _ rfl rfl rfl (HO.o.alloc _) ((HN3.o.under HB3.o).under HA3.o) hlen1 ?_ ?_; (first | omega | (simp; omega)); (intro v5 w5 h5; obtain ⟨ho5, hb5, _⟩ := h5; have HO5 := zH ho5; have HB5 := zH ((HW.o.alloc zO _).trans hb5); clear ho5 hb5))
      go_roundg (eqs.length - (k + 1))
      case measure => have := HK.o; omega
      case rel => exact ⟨k + 1, by omega, by go_num, by rw [HT.o]; exact HO5.o, HB5.o⟩
    . have hke : k = eqs.length := by omega
      have HOe := zH (show fw w.heap.size wr1 _ (eqs.flatMap QEq.names) by have := HO.o; rwa [hke, List.take_length] at this); clear hke; go_wp2_with fail
      go_ret; exact ⟨_, rfl, HOe.o.strs, HW.o⟩
end Go.Proofs.YtkfacdofkfabnaaGreatDoor
namespace Go.Proofs.YtkfacdofkfabnaaGreatDoor
open _root_.Go.Proofs.Tryz
open Go.RowKit
open Go.ChangeMaps Go.MapKept
open Go.Maps
theorem wH {w : World} {l : List (Tx × Value)} {cs : List (Tx × List Tx)} (h : fE w l cs) : ∀ p ∈ l, ShE p.2 := by
 intro p hp; obtain ⟨i, hi⟩ := List.getElem?_of_mem hp; obtain ⟨a, b⟩ := p; obtain ⟨x, hx⟩ := oT (l := cs) (m := l) h.1.symm hi; obtain ⟨s, A, m, j, e, _⟩ := h.2 i _ _ hi hx; exact ⟨s, A, m, j, e⟩
theorem tC {l : List (Tx × Value)} {ns : List (Tx × aY)} (h : iG l ns) : ∀ p ∈ l, ShN p.2 := by
 intro p hp; obtain ⟨i, hi⟩ := List.getElem?_of_mem hp; obtain ⟨a, b⟩ := p; obtain ⟨x, hx⟩ := oT (l := ns) (m := l) h.1.symm hi; obtain ⟨s, A1, c1, A2, c2, A3, c3, A4, m4, c4, e⟩ := h.2 i _ _ hi hx; exact ⟨s, A1, A2, A3, A4, _, c1, _, c2, _, c3, m4, c4, e⟩
theorem Ht : gE 145 := enters_of func145 zK rfl
theorem Hu : gE 102 := enters_of func102 zK rfl
section
variable {S P e1 c1 n1 t1 : Nat} {x1 x2 x3 x4 x5 x6 x7 : Value} {sp : bc}
theorem yI {w0 : World} (h : bb w0 P e1 c1 n1 t1 sp) (hbox : w0.heap[S]? = some (.cells #[.pointer (some ⟨P, 0, none⟩), x1, x2, x3, x4, x5, x6, x7] 124 (0, 0)))
  {N : Nat} (hN : w0.heap[N]? = some (.cells #[.pointer (some ⟨S, 0, none⟩)] 121 (0, 0))) {x : Tx} (hl : x.length <= maxLen) :
  ∀ w, Below w0.heap.size w0 w -> Calls prog 145 #[.string (str x), .pointer (some ⟨N, 0, none⟩)] w (aA (sp.conKeys.contains x) w) := by
 intro w hw; have h := h.under hw; obtain ⟨l, hm, hr⟩ := h.mc; have HK := zH (show aG l = sp.conKeys from hr.1); have H := zH (jj hm (wH hr) hl); have x0 := oL (ab hw hN); obtain ⟨y0, y1, y2, y3, y4, y5, y6, y7⟩ := gm (ab hw hbox); obtain ⟨z0, z1, z2, z3⟩ := h.row; clear h hN hl hw hbox hm hr; go_enter func145, ntmps145
 go_wp2_with (go_at_call 100; (with_reducible refine H.o.mono ?_); rintro e w1 ⟨rfl, hb1⟩)
 go_ret; exact ⟨au (by rw [HK.o, List.contains_eq_mem]), hb1⟩
theorem xu {w0 : World} (h : bb w0 P e1 c1 n1 t1 sp) (hbox : w0.heap[S]? = some (.cells #[.pointer (some ⟨P, 0, none⟩), x1, x2, x3, x4, x5, x6, x7] 124 (0, 0)))
  {N M : Nat} (hN : w0.heap[N]? = some (.cells #[.pointer (some ⟨S, 0, none⟩)] 121 (0, 0))) {nm : Tx} {u1 u2 u3 u4 : Value} (hM : w0.heap[M]? = some (.cells #[.string (str nm), u1, u2, u3, u4] 36 (0, 0))) {x : Tx} (hl : x.length <= maxLen) :
  ∀ w, Below w0.heap.size w0 w -> Calls prog 102 #[.string (str x), .pointer (some ⟨M, 0, none⟩), .pointer (some ⟨N, 0, none⟩)] w (aA (x == nm || sp.nodeKeys.contains x) w) := by
 intro w hw; have h := h.under hw; obtain ⟨l, hm, hr⟩ := h.mn; have HK := zH (show aG l = sp.nodeKeys from hr.1); have H := zH (eW hm (tC hr) hl); have x0 := oL (ab hw hN); obtain ⟨y0, y1, y2, y3, y4, y5, y6, y7⟩ := gm (ab hw hbox); obtain ⟨z0, z1, z2, z3⟩ := h.row; obtain ⟨v0, _, _, _, _⟩ := aN (ab hw hM); clear h hN hl hw hbox hm hr hM; by_cases hx : x = nm
 . subst hx; go_enter func102, ntmps102
   go_wp2_with fail
   go_ret; exact ⟨au (by simp), Below.refl _ _⟩
 . have hq : ((str x).toList == (str nm).toList) = false := by rw [ey, ey]; simp; exact λ e => hx e
   have HX := zH hx; clear hx; go_enter func102, ntmps102
   go_wp2_with (go_at_call 103; (with_reducible refine H.o.mono ?_); rintro e w1 ⟨rfl, hb1⟩; have HB1 := zH hb1; clear hb1)
   go_ret; exact ⟨au (by rw [HK.o]; simp [HX.o]), HB1.o⟩
end
end Go.Proofs.YtkfacdofkfabnaaGreatDoor
