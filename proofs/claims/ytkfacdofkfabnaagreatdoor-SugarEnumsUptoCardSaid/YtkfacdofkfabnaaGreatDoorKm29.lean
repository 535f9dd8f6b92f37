import Derived.Test.YtkfacdofkfabnaaGreatDoorKm11
import Derived.Test.YtkfacdofkfabnaaGreatDoorKm28
set_option maxHeartbeats 2000000
namespace Go.Proofs.YtkfacdofkfabnaaGreatDoor
open _root_.Go.Proofs.Tryz
open Go.RowKit
theorem IF : ∀ (Ls : List (List Value)), (∀ (k : Nat) M, Ls[k]? = some M -> M.length = 5) -> ∀ (i j : Nat) (hi : i < Ls.length), j < 5 -> ∀ u, Ls[i][j]? = some u -> Ls.flatten[i * 5 + j]? = some u
 | [], _, i, _, hi, _, _, _ => absurd hi (by simp)
 | M :: r, h, 0, j, _, hj, u, hu => by
   have h5 := h 0 M rfl
   rw [List.flatten_cons, Nat.zero_mul, Nat.zero_add, List.getElem?_append_left zO]
   exact hu
 | M :: r, h, i + 1, j, hi, hj, u, hu => by
   have h5 := h 0 M rfl
   have := IF r (λ k N hN => h (k + 1) N hN) i j (by simpa using hi) hj u (by simpa using hu)
   rw [List.flatten_cons, List.getElem?_append_right zO]
   rw [show (i + 1) * 5 + j - M.length = i * 5 + j by omega]
   exact this
theorem gD.slice {w0 : World} {B : Nat} {w : World} {v : Value} {xs : List Ex} (h : gD w0 B w v xs) (hb : Below w0.heap.size w0 w) : aw w (a7 w) v xs := by
 obtain ⟨Ls, hown, hlen, hE⟩ := h; rcases hown.2 with ⟨rfl, h0⟩ | ⟨g, cap, cur, rfl, _, _, hc, hm, _⟩
 . have : xs = [] := List.eq_nil_of_length_eq_zero h0; subst this; exact ⟨none, 0, rfl, Nat.le_refl _, by unfold maxLen; omega, λ i x h => by simp at h⟩
 . refine ⟨_, cap, rfl, hc, hm, λ i x hx => ?_⟩; have hi : i < Ls.length := (by rw [hlen]; exact (List.getElem?_eq_some_iff.1 hx).1); have hL := hE i _ x (List.getElem?_eq_getElem hi) hx; refine ⟨Ls[i], ⟨_, rfl, λ j u hu => ?_⟩, hL.under hb⟩; rw [fU]; have hj : j < 5 := (by rw [<- hL.len]; exact (List.getElem?_eq_some_iff.1 hu).1); refine hown.cells (g := g) rfl (i * Ls[i].length + j) u ?_; rw [hL.len]
   exact IF Ls (λ k M hM => by
    have hk : k < xs.length := (by rw [<- hlen]; exact (List.getElem?_eq_some_iff.1 hM).1); exact (hE k M _ hM (List.getElem?_eq_getElem hk)).len) i j hi hj u hu
theorem yV {X : Type} {l : List X} {k : Nat} {x : X} (h : l[k]? = some x) : l.drop k = x :: l.drop (k + 1) := by
 obtain ⟨hk, rfl⟩ := List.getElem?_eq_some_iff.1 h; exact List.drop_eq_getElem_cons hk
theorem s6 {w0 : World} {x : aY} {L : List Value} (hL : ch w0 L x) (hq : (fc x).length <= 1048576) : ∀ w, Below w0.heap.size w0 w -> Calls prog 31 #[.agg L.toArray] w (aA (ji x) w) := by
 intro w hw; have HE := zH (oP hL hq); have HW := zH hw; have hsz := hw.size; obtain ⟨s0, A1, n1, k1, A2, n2, k2, A3, n3, k3, A4, n4, k4, rfl⟩ := hL.shape; clear hw hL hq; go_enter func31, ntmps31
 go_wp2_with (go_at_call 76; refine (HE.o _ (HW.o.alloc zO _)).mono ?_; rintro e w1 ⟨v, rfl, ho, hb1⟩; have hs1 := hb1.size; simp at hs1; have hB0 := (HW.o.alloc zO _).trans (hb1.mono (by simp; omega)); have HC1 := zH (((Below.refl _ _).alloc (Nat.le_refl _) _).trans (hb1.mono (by simp))); have hsl := ho.slice hB0; obtain ⟨A, ca, rfl, hca, hma, hea⟩ := hsl; have hla : (fc x).length <= 9223372036854775807 := (by unfold maxLen at hma; omega); clear hb1 ho hB0 hca hma)
 generalize hxs : fc x = xs at *; have HXS := zH hxs; clear hxs; go_loopg [3, 9] xs.length (λ g s v wr => ∃ (k : Nat) (n : Int), k + g = xs.length /\ v = .int .i64 k /\ s = .int .i64 n /\ lM 0 xs = lM n (xs.drop k) /\ Below w1.heap.size w1 wr)
 case atStart => exact ⟨0, 0, by omega, rfl, rfl, by simp, Below.refl _ _⟩
 case round =>
  obtain ⟨k, n, hkg, rfl, rfl, hF, hbw⟩ := hrel; have HK := zH hkg; have HB := zH hbw; have HF := zH hF; have hszw := hbw.size; have hkl : k <= xs.length := zO; clear hkg hbw hF; by_cases hlt : k < xs.length
  . obtain ⟨y, hy⟩ := zG hlt; have HD := zH (yV hy); obtain ⟨M, hEM, hRM⟩ := hea k y hy; have HRM := zH hRM; obtain ⟨o1, s1, m1, B1, q1, r1, B2, q2, r2, rfl⟩ := hRM.shape; obtain ⟨a, rfl, hab, haa, d0, d1, d2, d3, d4⟩ := fB (hEM.under HB.o); clear hEM hRM hea hy; by_cases hdp : 40 < lQ y
    . have HDP := zH hdp; go_wp2_with (go_at_call 77; refine (sK HRM.o _ (HB.o.alloc zO _)).mono ?_; rintro e w2 ⟨rfl, hb2⟩)
      go_ret; exact ⟨au (by rw [ji, HXS.o, HF.o, HD.o, lM, if_pos HDP.o]), HC1.o.trans (((HB.o.alloc zO _).trans (hb2.mono (by simp; omega))).mono zO)⟩
    . have HDP := zH hdp; have hdp' : lQ y <= 40 := zO; clear hdp; go_wp2_with (first | (go_at_call 77; refine (sK HRM.o _ (HB.o.alloc zO _)).mono ?_; rintro e w2 ⟨rfl, hb2⟩; have hs2 := hb2.size; simp at hs2; have bx := (hb2.block wr.heap.size (by simp)).trans (heap_alloc_new wr _); obtain ⟨x0, x1, x2, x3, x4⟩ := aN bx; have HB2 := zH ((HB.o.alloc zO _).trans (hb2.mono (by simp; omega))); clear hb2 bx) | (go_at_call 78; refine (Dl HRM.o _ HB2.o).mono ?_; rintro e w3 ⟨rfl, hb3⟩))
      go_roundg (xs.length - (k + 1))
      case measure => have := HK.o; omega
      case rel => exact ⟨k + 1, wrap64 (n + rO y), by omega, by go_num, rfl, by rw [HF.o, HD.o, lM, if_neg (by have := HDP.o; omega)], HB2.o.trans (hb3.mono zO)⟩
  . have hke : k = xs.length := by omega
    have HKE := zH hke; clear hke; go_wp2_with fail
    go_ret; exact ⟨au (by rw [ji, HXS.o, HF.o, HKE.o, List.drop_length, lM]), HC1.o.trans (HB.o.mono zO)⟩
theorem zC {X : Type} {f : X -> Bool} {l : List X} (h : l.all (λ y => !f y) = true) : l.any f = false := by
 rw [Bool.eq_false_iff]; intro he; rw [List.any_eq_true] at he; obtain ⟨y, hy, hl⟩ := he; rw [List.all_eq_true] at h; have := h y hy; rw [hl] at this; cases this
theorem yL {w0 : World} {va : Value} {l : List aY} (ha : aw w0 (ch w0) va l) (hq : ∀ x ∈ l, (fc x).length <= 1048576) :
  ∀ w, Below w0.heap.size w0 w -> Calls prog 75 #[va, .func (.func 31) #[] #[]] w (λ e w' => (∃ n : Int, e = .returned (.int .i64 n) /\ decide (0 <= n) = l.any ji) /\ Below w.heap.size w w') := by
 intro w hw; obtain ⟨A, ca, rfl, hca, hma, hea⟩ := ha; have hla : l.length <= 9223372036854775807 := (by unfold maxLen at hma; omega); have HW0 := zH hw; have hsz0 := hw.size; clear hw hca hma; go_enter func75, ntmps75
 go_wp2_with fail
 go_loopg [8] l.length (λ g v wr => ∃ k : Nat, k + g = l.length /\ v = .int .i64 k /\ bY (λ y => !ji y) l k /\ Below w.heap.size w wr)
 case atStart => exact ⟨0, by omega, rfl, bY.zero, Below.refl _ _⟩
 case round =>
  obtain ⟨k, hkg, rfl, hto, hbw⟩ := hrel; have HK := zH hkg; have HW := zH hbw; have HT := zH hto; have hszw := hbw.size; have hkl : k <= l.length := zO; clear hkg hbw hto; by_cases hlt : k < l.length
  . obtain ⟨y, hy⟩ := zG hlt; obtain ⟨M, hEM, hRM⟩ := hea k y hy; have HF := zH (s6 hRM (hq y (List.mem_of_getElem? hy))); obtain ⟨s0, A1, n1, k1, A2, n2, k2, A3, n3, k3, A4, n4, k4, rfl⟩ := hRM.shape; have HB0 := zH (HW0.o.trans (HW.o.mono hsz0)); have HY := zH hy; obtain ⟨a, rfl, hab, haa, d0, d1, d2, d3, d4⟩ := fB (hEM.under HB0.o); clear hEM hea hy hRM; cases hfx : ji y
    . have HFX := zH hfx; rw [hfx] at HF; clear hfx; go_wp2_with (go_at_call 31; refine (HF.o _ HB0.o).mono ?_; rintro e w1 ⟨rfl, hb1⟩)
      go_roundg (l.length - (k + 1))
      case measure => have := HK.o; omega
      case rel => exact ⟨k + 1, by omega, by go_num, HT.o.succ HY.o (by rw [HFX.o]; rfl), HW.o.trans (hb1.mono zO)⟩
    . have HFX := zH hfx; rw [hfx] at HF; clear hfx; go_wp2_with (go_at_call 31; refine (HF.o _ HB0.o).mono ?_; rintro e w1 ⟨rfl, hb1⟩)
      go_ret; exact ⟨⟨_, rfl, by rw [List.any_eq_true.2 ⟨y, List.mem_of_getElem? HY.o, HFX.o⟩]; simp⟩, HW.o.trans (hb1.mono zO)⟩
  . have hke : k = l.length := by omega
    have HKE := zH hke; clear hke; go_wp2_with fail
    go_ret; exact ⟨⟨_, rfl, by rw [zC (HT.o.all HKE.o)]; rfl⟩, HW.o⟩
theorem rp {w0 : World} {va : Value} {l : List aY} (ha : aw w0 (ch w0) va l) (hq : ∀ x ∈ l, (fc x).length <= 1048576) :
  ∀ w, Below w0.heap.size w0 w -> Calls prog 30 #[va, .func (.func 31) #[] #[]] w (aA (l.any ji) w) := by
 intro w hw; have H := zH (yL ha hq w hw); obtain ⟨A, ca, rfl, _⟩ := ha; clear hw; go_enter func30, ntmps30
 go_wp2_with (go_at_call 75; refine H.o.mono ?_; rintro e w1 ⟨⟨n, rfl, hn⟩, hb1⟩; have HN := zH hn; clear hn)
 go_ret; exact ⟨au HN.o, hb1⟩
theorem nD {w0 : World} {p : cZ} {L : List Value} (made : Bool) (hL : ew w0 L p) (hq : ∀ x ∈ p.nodes, (fc x).length <= 1048576) :
  ∀ w, Below w0.heap.size w0 w -> Calls prog 11 #[.agg L.toArray, .bool made] w (uo (dg made p) w) := by
 intro w hw; have HP := zH (λ rv (hr : eF w0 made rv) => vg hr hL); obtain ⟨va, vb, rfl, ha, hb⟩ := hL; have HC := zH (rp hb hq); obtain ⟨A1, n1, k1, rfl⟩ := aw.shape ha; obtain ⟨A2, n2, k2, rfl⟩ := aw.shape hb; have HW := zH hw; have hsz := hw.size; clear ha hb hw hq; go_enter func11, ntmps11
 go_wp2_with fail
 go_region_with (first | (go_at_call 28; refine (tj made _).mono ?_; rintro e w1 ⟨rv, rfl, hb1, hrv⟩; have HRV := zH (hrv w0); have hs1 := hb1.size; simp at hs1; have bx : w1.heap[w.heap.size]? = some (.cells #[.slice A1 n1 k1, .slice A2 n2 k2] 25 (0, 0)) := (hb1.block w.heap.size (by simp)).trans (heap_alloc_new w _); obtain ⟨x0, x1⟩ := bG bx; have BX := zH bx; have HB1 := zH ((HW.o.alloc zO _).drew.trans (hb1.mono (by simp; omega))); have HC1 := zH (((Below.refl _ _).alloc (Nat.le_refl _) _).drew.trans (hb1.mono (by simp))); clear bx hb1 hrv) | (go_at_call 29; refine (HP.o _ HRV.o _ HB1.o).mono ?_; rintro e w2 ⟨rfl, hb2⟩; have hs2 := hb2.size; have by2 := ab hb2 BX.o; obtain ⟨y0, y1⟩ := bG by2; have HB2 := zH (HB1.o.trans (hb2.mono zO)); have HC2 := zH (HC1.o.trans (hb2.mono zO)); clear hb2 by2))
 all_goals go_wp2_with (go_at_call 30; refine (HC.o _ HB2.o).mono ?_; rintro e w3 ⟨rfl, hb3⟩; have HC3 := zH (HC2.o.trans (hb3.mono zO)); clear hb3)
 all_goals go_ret
 all_goals first
  | exact ⟨hG (by simp_all [dg]), HC3.o⟩
  | exact ⟨hG (by simp_all [dg]), HC2.o⟩
end Go.Proofs.YtkfacdofkfabnaaGreatDoor
