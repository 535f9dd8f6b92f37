import Derived.Test.YtdcjlihaldhhjaaGreatDoorKm09
import Derived.Test.YtdcjlihaldhhjaaGreatDoorKm30
set_option maxHeartbeats 2000000
namespace Go.Proofs.YtdcjlihaldhhjaaGreatDoor
open _root_.Go.Proofs.Tryz
open Go.RowKit
theorem Eg : ∀ (Ls : List (List Value)), (∀ (k : Nat) M, Ls[k]? = some M -> M.length = 5) -> ∀ (i j : Nat) (hi : i < Ls.length), j < 5 -> ∀ u, Ls[i][j]? = some u -> Ls.flatten[i * 5 + j]? = some u
 | [], _, i, _, hi, _, _, _ => absurd hi (by simp)
 | M :: r, h, 0, j, _, hj, u, hu => by
   have h5 := h 0 M rfl
   rw [List.flatten_cons, Nat.zero_mul, Nat.zero_add, List.getElem?_append_left zO]
   exact hu
 | M :: r, h, i + 1, j, hi, hj, u, hu => by
   have h5 := h 0 M rfl
   have := Eg r (λ k N hN => h (k + 1) N hN) i j (by simpa using hi) hj u (by simpa using hu)
   rw [List.flatten_cons, List.getElem?_append_right zO]
   rw [show (i + 1) * 5 + j - M.length = i * 5 + j by omega]
   exact this
theorem fK.slice {w0 : World} {B : Nat} {w : World} {v : Value} {xs : List Ex} (h : fK w0 B w v xs) (hb : Below w0.heap.size w0 w) : aw w (aT w) v xs := by
 obtain ⟨Ls, hown, hlen, hE⟩ := h; rcases hown.2 with ⟨rfl, h0⟩ | ⟨g, cap, cur, rfl, _, _, hc, hm, _⟩
 . have : xs = [] := List.eq_nil_of_length_eq_zero h0; subst this; exact ⟨none, 0, rfl, Nat.le_refl _, by unfold maxLen; omega, λ i x h => by simp at h⟩
 . refine ⟨_, cap, rfl, hc, hm, λ i x hx => ?_⟩; have hi : i < Ls.length := (by rw [hlen]; exact (List.getElem?_eq_some_iff.1 hx).1); have hL := hE i _ x (List.getElem?_eq_getElem hi) hx; refine ⟨Ls[i], ⟨_, rfl, λ j u hu => ?_⟩, hL.under hb⟩; rw [gv]; have hj : j < 5 := (by rw [<- hL.len]; exact (List.getElem?_eq_some_iff.1 hu).1); refine hown.cells (g := g) rfl (i * Ls[i].length + j) u ?_; rw [hL.len]
   exact Eg Ls (λ k M hM => by
    have hk : k < xs.length := (by rw [<- hlen]; exact (List.getElem?_eq_some_iff.1 hM).1); exact (hE k M _ hM (List.getElem?_eq_getElem hk)).len) i j hi hj u hu
theorem vO {X : Type} {l : List X} {k : Nat} {x : X} (h : l[k]? = some x) : l.drop k = x :: l.drop (k + 1) := by
 obtain ⟨hk, rfl⟩ := List.getElem?_eq_some_iff.1 h; exact List.drop_eq_getElem_cons hk
theorem qX {w0 : World} {x : bc} {L : List Value} (hL : cz w0 L x) (hq : (eH x).length <= 1048576) : ∀ w, Below w0.heap.size w0 w -> Calls prog 34 #[.agg L.toArray] w (ax (ig x) w) := by
 intro w hw; have HE := zH (mT hL hq); have HW := zH hw; have hsz := hw.size; obtain ⟨s0, A1, n1, k1, A2, n2, k2, A3, n3, k3, A4, n4, k4, rfl⟩ := hL.shape; clear hw hL hq; go_enter func34, ntmps34
 go_wp2_with (go_at_call 78; refine (HE.o _ (HW.o.alloc zO _)).mono ?_; rintro e w1 ⟨v, rfl, ho, hb1⟩; have hs1 := hb1.size; simp at hs1; have hB0 := (HW.o.alloc zO _).trans (hb1.mono (by simp; omega)); have HC1 := zH (((Below.refl _ _).alloc (Nat.le_refl _) _).trans (hb1.mono (by simp))); have hsl := ho.slice hB0; obtain ⟨A, ca, rfl, hca, hma, hea⟩ := hsl; have hla : (eH x).length <= 9223372036854775807 := (by unfold maxLen at hma; omega); clear hb1 ho hB0 hca hma)
 generalize hxs : eH x = xs at *; have HXS := zH hxs; clear hxs; go_loopg [3, 9] xs.length (λ g s v wr => ∃ (k : Nat) (n : Int), k + g = xs.length /\ v = .int .i64 k /\ s = .int .i64 n /\ jW 0 xs = jW n (xs.drop k) /\ Below w1.heap.size w1 wr)
 case atStart => exact ⟨0, 0, by omega, rfl, rfl, by simp, Below.refl _ _⟩
 case round =>
  obtain ⟨k, n, hkg, rfl, rfl, hF, hbw⟩ := hrel; have HK := zH hkg; have HB := zH hbw; have HF := zH hF; have hszw := hbw.size; have hkl : k <= xs.length := zO; clear hkg hbw hF; by_cases hlt : k < xs.length
  . obtain ⟨y, hy⟩ := zG hlt; have HD := zH (vO hy); obtain ⟨M, hEM, hRM⟩ := hea k y hy; have HRM := zH hRM; obtain ⟨o1, s1, m1, B1, q1, r1, B2, q2, r2, rfl⟩ := hRM.shape; obtain ⟨a, rfl, hab, haa, d0, d1, d2, d3, d4⟩ := dR (hEM.under HB.o); clear hEM hRM hea hy; by_cases hdp : 40 < j5 y
    . have HDP := zH hdp; go_wp2_with (go_at_call 79; refine (qK HRM.o _ (HB.o.alloc zO _)).mono ?_; rintro e w2 ⟨rfl, hb2⟩)
      go_ret; exact ⟨aj (by rw [ig, HXS.o, HF.o, HD.o, jW, if_pos HDP.o]), HC1.o.trans (((HB.o.alloc zO _).trans (hb2.mono (by simp; omega))).mono zO)⟩
    . have HDP := zH hdp; have hdp' : j5 y <= 40 := zO; clear hdp; go_wp2_with (first | (go_at_call 79; refine (qK HRM.o _ (HB.o.alloc zO _)).mono ?_; rintro e w2 ⟨rfl, hb2⟩; have hs2 := hb2.size; simp at hs2; have bx := (hb2.block wr.heap.size (by simp)).trans (heap_alloc_new wr _); obtain ⟨x0, x1, x2, x3, x4⟩ := aN bx; have HB2 := zH ((HB.o.alloc zO _).trans (hb2.mono (by simp; omega))); clear hb2 bx) | (go_at_call 80; refine (zV HRM.o _ HB2.o).mono ?_; rintro e w3 ⟨rfl, hb3⟩))
      go_roundg (xs.length - (k + 1))
      case measure => have := HK.o; omega
      case rel => exact ⟨k + 1, wrap64 (n + pY y), by omega, by go_num, rfl, by rw [HF.o, HD.o, jW, if_neg (by have := HDP.o; omega)], HB2.o.trans (hb3.mono zO)⟩
  . have hke : k = xs.length := by omega
    have HKE := zH hke; clear hke; go_wp2_with fail
    go_ret; exact ⟨aj (by rw [ig, HXS.o, HF.o, HKE.o, List.drop_length, jW]), HC1.o.trans (HB.o.mono zO)⟩
theorem wB {X : Type} {f : X -> Bool} {l : List X} (h : l.all (λ y => !f y) = true) : l.any f = false := by
 rw [Bool.eq_false_iff]; intro he; rw [List.any_eq_true] at he; obtain ⟨y, hy, hl⟩ := he; rw [List.all_eq_true] at h; have := h y hy; rw [hl] at this; cases this
theorem vL {w0 : World} {va : Value} {l : List bc} (ha : aw w0 (cz w0) va l) (hq : ∀ x ∈ l, (eH x).length <= 1048576) :
  ∀ w, Below w0.heap.size w0 w -> Calls prog 77 #[va, .func (.func 34) #[] #[]] w (λ e w' => (∃ n : Int, e = .returned (.int .i64 n) /\ decide (0 <= n) = l.any ig) /\ Below w.heap.size w w') := by
 intro w hw; obtain ⟨A, ca, rfl, hca, hma, hea⟩ := ha; have hla : l.length <= 9223372036854775807 := (by unfold maxLen at hma; omega); have HW0 := zH hw; have hsz0 := hw.size; clear hw hca hma; go_enter func77, ntmps77
 go_wp2_with fail
 go_loopg [8] l.length (λ g v wr => ∃ k : Nat, k + g = l.length /\ v = .int .i64 k /\ bL (λ y => !ig y) l k /\ Below w.heap.size w wr)
 case atStart => exact ⟨0, by omega, rfl, bL.zero, Below.refl _ _⟩
 case round =>
  obtain ⟨k, hkg, rfl, hto, hbw⟩ := hrel; have HK := zH hkg; have HW := zH hbw; have HT := zH hto; have hszw := hbw.size; have hkl : k <= l.length := zO; clear hkg hbw hto; by_cases hlt : k < l.length
  . obtain ⟨y, hy⟩ := zG hlt; obtain ⟨M, hEM, hRM⟩ := hea k y hy; have HF := zH (qX hRM (hq y (List.mem_of_getElem? hy))); obtain ⟨s0, A1, n1, k1, A2, n2, k2, A3, n3, k3, A4, n4, k4, rfl⟩ := hRM.shape; have HB0 := zH (HW0.o.trans (HW.o.mono hsz0)); have HY := zH hy; obtain ⟨a, rfl, hab, haa, d0, d1, d2, d3, d4⟩ := dR (hEM.under HB0.o); clear hEM hea hy hRM; cases hfx : ig y
    . have HFX := zH hfx; rw [hfx] at HF; clear hfx; go_wp2_with (go_at_call 34; refine (HF.o _ HB0.o).mono ?_; rintro e w1 ⟨rfl, hb1⟩)
      go_roundg (l.length - (k + 1))
      case measure => have := HK.o; omega
      case rel => exact ⟨k + 1, by omega, by go_num, HT.o.succ HY.o (by rw [HFX.o]; rfl), HW.o.trans (hb1.mono zO)⟩
    . have HFX := zH hfx; rw [hfx] at HF; clear hfx; go_wp2_with (go_at_call 34; refine (HF.o _ HB0.o).mono ?_; rintro e w1 ⟨rfl, hb1⟩)
      go_ret; exact ⟨⟨_, rfl, by rw [List.any_eq_true.2 ⟨y, List.mem_of_getElem? HY.o, HFX.o⟩]; simp⟩, HW.o.trans (hb1.mono zO)⟩
  . have hke : k = l.length := by omega
    have HKE := zH hke; clear hke; go_wp2_with fail
    go_ret; exact ⟨⟨_, rfl, by rw [wB (HT.o.all HKE.o)]; rfl⟩, HW.o⟩
theorem pI {w0 : World} {va : Value} {l : List bc} (ha : aw w0 (cz w0) va l) (hq : ∀ x ∈ l, (eH x).length <= 1048576) :
  ∀ w, Below w0.heap.size w0 w -> Calls prog 33 #[va, .func (.func 34) #[] #[]] w (ax (l.any ig) w) := by
 intro w hw; have H := zH (vL ha hq w hw); obtain ⟨A, ca, rfl, _⟩ := ha; clear hw; go_enter func33, ntmps33
 go_wp2_with (go_at_call 77; refine H.o.mono ?_; rintro e w1 ⟨⟨n, rfl, hn⟩, hb1⟩; have HN := zH hn; clear hn)
 go_ret; exact ⟨aj HN.o, hb1⟩
theorem lM {w0 : World} {p : dH} {L : List Value} (made : Bool) (hL : ei w0 L p) (hq : ∀ x ∈ p.nodes, (eH x).length <= 1048576) :
  ∀ w, Below w0.heap.size w0 w -> Calls prog 12 #[.agg L.toArray, .bool made] w (so (dh made p) w) := by
 intro w hw; have HP := zH (λ rv (hr : dQ w0 made rv) => td hr hL); obtain ⟨va, vb, rfl, ha, hb⟩ := hL; have HC := zH (pI hb hq); obtain ⟨A1, n1, k1, rfl⟩ := aw.shape ha; obtain ⟨A2, n2, k2, rfl⟩ := aw.shape hb; have HW := zH hw; have hsz := hw.size; clear ha hb hw hq; go_enter func12, ntmps12
 go_wp2_with fail
 go_region_with (first | (go_at_call 31; refine (rl made _).mono ?_; rintro e w1 ⟨rv, rfl, hb1, hrv⟩; have HRV := zH (hrv w0); have hs1 := hb1.size; simp at hs1; have bx : w1.heap[w.heap.size]? = some (.cells #[.slice A1 n1 k1, .slice A2 n2 k2] 38 (0, 0)) := (hb1.block w.heap.size (by simp)).trans (heap_alloc_new w _); obtain ⟨x0, x1⟩ := bM bx; have BX := zH bx; have HB1 := zH ((HW.o.alloc zO _).drew.trans (hb1.mono (by simp; omega))); have HC1 := zH (((Below.refl _ _).alloc (Nat.le_refl _) _).drew.trans (hb1.mono (by simp))); clear bx hb1 hrv) | (go_at_call 32; refine (HP.o _ HRV.o _ HB1.o).mono ?_; rintro e w2 ⟨rfl, hb2⟩; have hs2 := hb2.size; have by2 := ag hb2 BX.o; obtain ⟨y0, y1⟩ := bM by2; have HB2 := zH (HB1.o.trans (hb2.mono zO)); have HC2 := zH (HC1.o.trans (hb2.mono zO)); clear hb2 by2))
 all_goals go_wp2_with (go_at_call 33; refine (HC.o _ HB2.o).mono ?_; rintro e w3 ⟨rfl, hb3⟩; have HC3 := zH (HC2.o.trans (hb3.mono zO)); clear hb3)
 all_goals go_ret
 all_goals first
  | exact ⟨gf (by simp_all [dh]), HC3.o⟩
  | exact ⟨gf (by simp_all [dh]), HC2.o⟩
end Go.Proofs.YtdcjlihaldhhjaaGreatDoor
