import Derived.Test.YtdcjlihaldhhjaaGreatDoorKm07
set_option maxHeartbeats 2000000
set_option maxRecDepth 100000
namespace Go.Proofs.YtdcjlihaldhhjaaGreatDoor
open _root_.Go.Proofs.Tryz
open Go.RowKit
theorem kC {o o' n n' : Int} {a a' : Tx} {c c' : List Tx} {k k' : List Ex} (h : ¬ (o = o' /\ a = a' /\ n = n' /\ c = c')) : ep (.mk o a n c k) (.mk o' a' n' c' k') = false := by
 rw [Bool.eq_false_iff]; intro e; rw [fN] at e; injection e with e1 e2 e3 e4 _; exact h ⟨e1, e2, e3, e4⟩
theorem yb {o o' n n' : Int} {a a' : Tx} {c c' : List Tx} {k k' : List Ex} (h : k.length ≠ k'.length) : ep (.mk o a n c k) (.mk o' a' n' c' k') = false := by
 rw [Bool.eq_false_iff]; intro e; rw [fN] at e; injection e with _ _ _ _ e5; exact h (by rw [e5])
theorem sO {o n : Int} {a : Tx} {c : List Tx} {k k' : List Ex} : ep (.mk o a n c k) (.mk o a n c k') = cU ep k k' := by
 simp [ep, p6]
theorem e8 {w0 : World} : ∀ (x : Ex) (y : Ex) (L M : List Value), aT w0 L x -> aT w0 M y -> ∀ w, Below w0.heap.size w0 w -> Calls prog 7 #[.agg L.toArray, .agg M.toArray] w (ax (ep x y) w) := by
 intro x; induction x using Ex.ind with
 | h o a n c ks ih =>
   intro y L M hL hM w hw; obtain ⟨o', a', n', c', ks'⟩ := y; obtain ⟨cv, kv, rfl, _, _, _, hc, hk⟩ := hL.open_; obtain ⟨cv', kv', rfl, _, _, _, hc', hk'⟩ := hM.open_; have HC := zH (oe hc hc'); obtain ⟨A1, m1, k1, rfl⟩ := aw.shape hc; obtain ⟨A2, m2, k2, rfl⟩ := aw.shape hc'; obtain ⟨A, ca, rfl, _, hma, hea⟩ := hk; obtain ⟨B, cb, rfl, _, hmb, heb⟩ := hk'; have hla : ks.length <= 9223372036854775807 := (by unfold maxLen at hma; omega); have hlb : ks'.length <= 9223372036854775807 := (by unfold maxLen at hmb; omega); have HEA := zH hea; have HEB := zH heb; have HIH := zH ih; have HW := zH hw; have hsz := hw.size; clear hL hM hw hc hc' hma hmb hea heb ih; by_cases e0 : o = o'
   . subst e0; by_cases e1 : a = a'
     . subst e1; by_cases e2 : n = n'
       . subst e2; by_cases e3 : c = c'
         . subst e3; rw [show (c == c) = true by simp] at HC; by_cases e4 : ks.length = ks'.length
           . have hd : ((ks.length : Int) != (ks'.length : Int)) = false := by simp [e4]
             have HL := zH e4; clear e4; go_enter func7, ntmps7
             go_wp2_with (go_at_call 16
                          refine (HC.o _ ((HW.o.alloc hsz _).alloc (by simp; omega) _)).mono ?_; rintro e w1 ⟨rfl, hb1⟩; have hs1 := hb1.size; simp only [World.size_alloc] at hs1; have bx := fo hb1; have by_ := fm hb1; obtain ⟨p0, p1, p2, p3, p4⟩ := aN bx; obtain ⟨r0, r1, r2, r3, r4⟩ := aN by_; have BX := zH bx; have BY := zH by_; have HB1 := zH ((((Below.refl _ w).alloc (Nat.le_refl _) _).alloc (by simp) _).trans (hb1.mono (by simp; omega))); clear hb1 bx by_)
             clear p0 p1 p2 p3 p4 r0 r1 r2 r3 r4; go_loopg [5] ks.length (λ g v wr => ∃ k : Nat, k + g = ks.length /\ v = .int .i64 k /\ dT ep ks ks' k /\ Below w1.heap.size w1 wr)
             case atStart => exact ⟨0, by omega, rfl, dT.zero, Below.refl _ _⟩
             case round =>
              obtain ⟨k, hkg, rfl, hto, hbw⟩ := hrel; obtain ⟨wq, rfl⟩ := zW wr; have HK := zH hkg; have HT := zH hto; have HW1 := zH hbw; have HQ := zH (HB1.o.trans (hbw.mono zO)); have HBQ := zH (HW.o.trans (HQ.o.mono hsz)); have bx := ag hbw BX.o; have by_ := ag hbw BY.o; obtain ⟨p0, p1, p2, p3, p4⟩ := aN bx; obtain ⟨r0, r1, r2, r3, r4⟩ := aN by_; have hkl : k <= ks.length := zO; clear hkg hto hbw bx by_; by_cases hlt : k < ks.length
              . have hlt2 : k < ks'.length := by have := HL.o; omega
                obtain ⟨x, hx⟩ := zG hlt; obtain ⟨y, hy⟩ := zG hlt2; obtain ⟨X, hEX, hRX⟩ := HEA.o k x hx; obtain ⟨Y, hEY, hRY⟩ := HEB.o k y hy; have HF := zH (HIH.o x (List.mem_of_getElem? hx) y X Y hRX hRY); obtain ⟨x0, x1, x2, X3, x4, x5, X6, x7, x8, rfl⟩ := hRX.shape; obtain ⟨y0, y1, y2, Y3, y4, y5, Y6, y7, y8, rfl⟩ := hRY.shape; obtain ⟨a1, rfl, hab, haa, d0, d1, d2, d3, d4⟩ := dR (hEX.under HBQ.o); obtain ⟨b1, rfl, hbb, hba, f0, f1, f2, f3, f4⟩ := dR (hEY.under HBQ.o); have HX := zH hx; have HY := zH hy; clear hx hy hEX hEY hRX hRY; cases hs : ep x y
                . have HS := zH hs; rw [hs] at HF; clear hs; go_wp2_with fail
                  go_region_with (go_at_call 7; refine (HF.o _ HBQ.o.drew).mono ?_; rintro e w2 ⟨rfl, hb2⟩)
                  all_goals go_wp2_with fail
                  all_goals go_ret
                  all_goals exact ⟨aj (by rw [sO, p7 HX.o HY.o HS.o]), HQ.o.drew.trans (hb2.mono HQ.o.size)⟩
                . have HS := zH hs; rw [hs] at HF; clear hs; go_wp2_with fail
                  go_region_with (go_at_call 7; refine (HF.o _ HBQ.o.drew).mono ?_; rintro e w2 ⟨rfl, hb2⟩)
                  all_goals go_wp2_with fail
                  all_goals
                   go_roundg (ks.length - (k + 1))
                   case measure => have := HK.o; omega
                   case rel => exact ⟨k + 1, by omega, by go_num, HT.o.succ HX.o HY.o HS.o, HW1.o.drew.trans (hb2.mono HW1.o.size)⟩
              . have hke : k = ks.length := by omega
                have HKE := zH hke; clear hke; go_wp2_with fail
                go_ret; exact ⟨aj (by rw [sO, HT.o.all HL.o HKE.o]), HQ.o⟩
           . have hd : ((ks.length : Int) != (ks'.length : Int)) = true := by simp; omega
             have HN := zH e4; clear e4; go_enter func7, ntmps7
             go_wp2_with (go_at_call 16; refine (HC.o _ ((HW.o.alloc hsz _).alloc (by simp; omega) _)).mono ?_; rintro e w1 ⟨rfl, hb1⟩; have bx := fo hb1; have by_ := fm hb1; obtain ⟨p0, p1, p2, p3, p4⟩ := aN bx; obtain ⟨r0, r1, r2, r3, r4⟩ := aN by_; have HB1 := zH ((((Below.refl _ w).alloc (Nat.le_refl _) _).alloc (by simp) _).trans (hb1.mono (by simp; omega))); clear hb1 bx by_)
             go_ret; exact ⟨aj (by rw [yb HN.o]), HB1.o⟩
         . have HN := zH e3; rw [show (c == c') = false by simpa using e3] at HC; clear e3; go_enter func7, ntmps7
           go_wp2_with (go_at_call 16; refine (HC.o _ ((HW.o.alloc hsz _).alloc (by simp; omega) _)).mono ?_; rintro e w1 ⟨rfl, hb1⟩; have bx := fo hb1; have by_ := fm hb1; obtain ⟨p0, p1, p2, p3, p4⟩ := aN bx; obtain ⟨r0, r1, r2, r3, r4⟩ := aN by_; have HB1 := zH ((((Below.refl _ w).alloc (Nat.le_refl _) _).alloc (by simp) _).trans (hb1.mono (by simp; omega))); clear hb1 bx by_)
           go_ret; exact ⟨aj (by rw [kC (λ h => HN.o h.2.2.2)]), HB1.o⟩
       . have HN := zH e2; have hd : (n != n') = true := (by simpa using e2); clear e2; go_enter func7, ntmps7
         go_wp2_with fail
         go_ret; exact ⟨aj (by rw [kC (λ h => HN.o h.2.2.1)]), ((Below.refl _ w).alloc (Nat.le_refl _) _).alloc (by simp) _⟩
     . have HN := zH e1; have hd : ((str a).toList != (str a').toList) = true := (by rw [cR, cR]; simpa using e1); have hd2 : ((str a).toList == (str a').toList) = false := (by rw [cR, cR]; simpa using e1); clear e1; go_enter func7, ntmps7
       go_wp2_with fail
       go_ret; exact ⟨aj (by rw [kC (λ h => HN.o h.2.1)]), ((Below.refl _ w).alloc (Nat.le_refl _) _).alloc (by simp) _⟩
   . have HN := zH e0; have hd : (o != o') = true := (by simpa using e0); clear e0; go_enter func7, ntmps7
     go_wp2_with fail
     go_ret; exact ⟨aj (by rw [kC (λ h => HN.o h.1)]), ((Below.refl _ w).alloc (Nat.le_refl _) _).alloc (by simp) _⟩
end Go.Proofs.YtdcjlihaldhhjaaGreatDoor
