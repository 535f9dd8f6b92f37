/-
  Texts joined.
-/
import Derived.Test.YtlhmdjhfmhkllaaGreatDoorKb07
import Derived.Test.YtlhmdjhfmhkllaaGreatDoorKb18
import Derived.Test.YtlhmdjhfmhkllaaGreatDoorKb44
namespace Go.Proofs.YtlhmdjhfmhkllaaGreatDoor
open Go.RowKit
/-- rows of five cells one behind the other -/
theorem flat5 : ∀ (Ls : List (List Value)), (∀ (k : Nat) M, Ls[k]? = some M → M.length = 5) → ∀ (i j : Nat) (hi : i < Ls.length), j < 5 → ∀ u, Ls[i][j]? = some u → Ls.flatten[i * 5 + j]? = some u
  | [], _, i, _, hi, _, _, _ => absurd hi (by simp)
  | M :: r, h, 0, j, _, hj, u, hu => by
    have h5 := h 0 M rfl
    rw [List.flatten_cons, Nat.zero_mul, Nat.zero_add, List.getElem?_append_left (by omega)]
    exact hu
  | M :: r, h, i + 1, j, hi, hj, u, hu => by
    have h5 := h 0 M rfl
    have := flat5 r (fun k N hN => h (k + 1) N hN) i j (by simpa using hi) hj u (by simpa using hu)
    rw [List.flatten_cons, List.getElem?_append_right (by omega)]
    rw [show (i + 1) * 5 + j - M.length = i * 5 + j by omega]
    exact this
theorem OwnE.slice {w0 : World} {B : Nat} {w : World} {v : Value} {xs : List Ex} (h : OwnE w0 B w v xs) (hb : Below w0.heap.size w0 w) : SliceAt w (ExAt w) v xs := by
  obtain ⟨Ls, hown, hlen, hE⟩ := h; rcases hown.2 with ⟨rfl, h0⟩ | ⟨g, cap, cur, rfl, _, _, hc, hm, _⟩
  · have : xs = [] := List.eq_nil_of_length_eq_zero h0; subst this; exact ⟨none, 0, rfl, Nat.le_refl _, by unfold maxLen; omega, fun i x h => by simp at h⟩
  · refine ⟨_, cap, rfl, hc, hm, fun i x hx => ?_⟩; have hi : i < Ls.length := (by rw [hlen]; exact (List.getElem?_eq_some_iff.1 hx).1); have hL := hE i _ x (List.getElem?_eq_getElem hi) hx; refine ⟨Ls[i], ⟨_, rfl, fun j u hu => ?_⟩, hL.under hb⟩; rw [add_add]; have hj : j < 5 := (by rw [← hL.len]; exact (List.getElem?_eq_some_iff.1 hu).1); refine hown.cells (g := g) rfl (i * Ls[i].length + j) u ?_; rw [hL.len]
    exact flat5 Ls (fun k M hM => by
      have hk : k < xs.length := (by rw [← hlen]; exact (List.getElem?_eq_some_iff.1 hM).1); exact (hE k M _ hM (List.getElem?_eq_getElem hk)).len) i j hi hj u hu
theorem drop_cons' {X : Type} {l : List X} {k : Nat} {x : X} (h : l[k]? = some x) : l.drop k = x :: l.drop (k + 1) := by
  obtain ⟨hk, rfl⟩ := List.getElem?_eq_some_iff.1 h; exact List.drop_eq_getElem_cons hk
set_option maxHeartbeats 2000000 in
theorem tooLarge_any {w0 : World} {x : QNode} {L : List Value} (hL : NodeAt w0 L x) (hq : (nodeX x).length ≤ 1048576) : ∀ w, Below w0.heap.size w0 w → Calls Tryz.prog 47 #[.agg L.toArray] w (BoolPost (largeN x) w) := by
  intro w hw; have HE := Lib.hid (expressions_any hL hq); have HW := Lib.hid hw; have hsz := hw.size; obtain ⟨s0, A1, n1, k1, A2, n2, k2, A3, n3, k3, A4, n4, k4, rfl⟩ := hL.shape; clear hw hL hq; go_enter Tryz.func47, Tryz.ntmps47
  go_wp2_with (go_at_call 102; refine (HE.out _ (HW.out.alloc (by omega) _)).mono ?_; rintro e w1 ⟨v, rfl, ho, hb1⟩; have hs1 := hb1.size; simp at hs1; have hB0 := (HW.out.alloc (by omega) _).trans (hb1.mono (by simp; omega)); have HC1 := Lib.hid (((Below.refl _ _).alloc (Nat.le_refl _) _).trans (hb1.mono (by simp))); have hsl := ho.slice hB0; obtain ⟨A, ca, rfl, hca, hma, hea⟩ := hsl; have hla : (nodeX x).length ≤ 9223372036854775807 := (by unfold maxLen at hma; omega); clear hb1 ho hB0 hca hma)
  generalize hxs : nodeX x = xs at *; have HXS := Lib.hid hxs; clear hxs; go_loopg [3, 9] xs.length (fun g s v wr => ∃ (k : Nat) (n : Int), k + g = xs.length ∧ v = .int .i64 k ∧ s = .int .i64 n ∧ largeF 0 xs = largeF n (xs.drop k) ∧ Below w1.heap.size w1 wr)
  case atStart => exact ⟨0, 0, by omega, rfl, rfl, by simp, Below.refl _ _⟩
  case round =>
    obtain ⟨k, n, hkg, rfl, rfl, hF, hbw⟩ := hrel; have HK := Lib.hid hkg; have HB := Lib.hid hbw; have HF := Lib.hid hF; have hszw := hbw.size; have hkl : k ≤ xs.length := (by omega); clear hkg hbw hF; by_cases hlt : k < xs.length
    · obtain ⟨y, hy⟩ : ∃ y, xs[k]? = some y := ⟨_, List.getElem?_eq_getElem hlt⟩; have HD := Lib.hid (drop_cons' hy); obtain ⟨M, hEM, hRM⟩ := hea k y hy; have HRM := Lib.hid hRM; obtain ⟨o1, s1, m1, B1, q1, r1, B2, q2, r2, rfl⟩ := hRM.shape; obtain ⟨a, rfl, hab, haa, d0, d1, d2, d3, d4⟩ := elem5 (hEM.under HB.out); clear hEM hRM hea hy; by_cases hdp : 40 < depthW y
      · have HDP := Lib.hid hdp; go_wp2_with (go_at_call 14; refine (depth_any HRM.out _ (HB.out.alloc (by omega) _)).mono ?_; rintro e w2 ⟨rfl, hb2⟩)
        go_ret; exact ⟨ret_bool (by rw [largeN, HXS.out, HF.out, HD.out, largeF, if_pos HDP.out]), HC1.out.trans (((HB.out.alloc (by omega) _).trans (hb2.mono (by simp; omega))).mono (by omega))⟩
      · have HDP := Lib.hid hdp; have hdp' : depthW y ≤ 40 := (by omega); clear hdp; go_wp2_with (first | (go_at_call 14; refine (depth_any HRM.out _ (HB.out.alloc (by omega) _)).mono ?_; rintro e w2 ⟨rfl, hb2⟩; have hs2 := hb2.size; simp at hs2; have bx := (hb2.block wr.heap.size (by simp)).trans (heap_alloc_new wr _); obtain ⟨x0, x1, x2, x3, x4⟩ := row5 bx; have HB2 := Lib.hid ((HB.out.alloc (by omega) _).trans (hb2.mono (by simp; omega))); clear hb2 bx) | (go_at_call 15; refine (size_any HRM.out _ HB2.out).mono ?_; rintro e w3 ⟨rfl, hb3⟩))
        go_roundg (xs.length - (k + 1))
        case measure => have := HK.out; omega
        case rel => exact ⟨k + 1, wrap64 (n + sizeW y), by omega, by go_num, rfl, by rw [HF.out, HD.out, largeF, if_neg (by have := HDP.out; omega)], HB2.out.trans (hb3.mono (by omega))⟩
    · have hke : k = xs.length := by omega
      have HKE := Lib.hid hke; clear hke; go_wp2_with fail
      go_ret; exact ⟨ret_bool (by rw [largeN, HXS.out, HF.out, HKE.out, List.drop_length, largeF]), HC1.out.trans (HB.out.mono (by omega))⟩
theorem any_no {X : Type} {f : X → Bool} {l : List X} (h : l.all (fun y => !f y) = true) : l.any f = false := by
  rw [Bool.eq_false_iff]; intro he; rw [List.any_eq_true] at he; obtain ⟨y, hy, hl⟩ := he; rw [List.all_eq_true] at h; have := h y hy; rw [hl] at this; cases this
set_option maxHeartbeats 1000000 in
theorem indexN_any {w0 : World} {va : Value} {l : List QNode} (ha : SliceAt w0 (NodeAt w0) va l) (hq : ∀ x ∈ l, (nodeX x).length ≤ 1048576) :
    ∀ w, Below w0.heap.size w0 w → Calls Tryz.prog 101 #[va, .func (.func 47) #[] #[]] w (fun e w' => (∃ n : Int, e = .returned (.int .i64 n) ∧ decide (0 ≤ n) = l.any largeN) ∧ Below w.heap.size w w') := by
  intro w hw; obtain ⟨A, ca, rfl, hca, hma, hea⟩ := ha; have hla : l.length ≤ 9223372036854775807 := (by unfold maxLen at hma; omega); have HW0 := Lib.hid hw; have hsz0 := hw.size; clear hw hca hma; go_enter Tryz.func101, Tryz.ntmps101
  go_wp2_with fail
  go_loopg [8] l.length (fun g v wr => ∃ k : Nat, k + g = l.length ∧ v = .int .i64 k ∧ AllTo (fun y => !largeN y) l k ∧ Below w.heap.size w wr)
  case atStart => exact ⟨0, by omega, rfl, AllTo.zero, Below.refl _ _⟩
  case round =>
    obtain ⟨k, hkg, rfl, hto, hbw⟩ := hrel; have HK := Lib.hid hkg; have HW := Lib.hid hbw; have HT := Lib.hid hto; have hszw := hbw.size; have hkl : k ≤ l.length := (by omega); clear hkg hbw hto; by_cases hlt : k < l.length
    · obtain ⟨y, hy⟩ : ∃ y, l[k]? = some y := ⟨_, List.getElem?_eq_getElem hlt⟩; obtain ⟨M, hEM, hRM⟩ := hea k y hy; have HF := Lib.hid (tooLarge_any hRM (hq y (List.mem_of_getElem? hy))); obtain ⟨s0, A1, n1, k1, A2, n2, k2, A3, n3, k3, A4, n4, k4, rfl⟩ := hRM.shape; have HB0 := Lib.hid (HW0.out.trans (HW.out.mono hsz0)); have HY := Lib.hid hy; obtain ⟨a, rfl, hab, haa, d0, d1, d2, d3, d4⟩ := elem5 (hEM.under HB0.out); clear hEM hea hy hRM; cases hfx : largeN y
      · have HFX := Lib.hid hfx; rw [hfx] at HF; clear hfx; go_wp2_with (go_at_call 47; refine (HF.out _ HB0.out).mono ?_; rintro e w1 ⟨rfl, hb1⟩)
        go_roundg (l.length - (k + 1))
        case measure => have := HK.out; omega
        case rel => exact ⟨k + 1, by omega, by go_num, HT.out.succ HY.out (by rw [HFX.out]; rfl), HW.out.trans (hb1.mono (by omega))⟩
      · have HFX := Lib.hid hfx; rw [hfx] at HF; clear hfx; go_wp2_with (go_at_call 47; refine (HF.out _ HB0.out).mono ?_; rintro e w1 ⟨rfl, hb1⟩)
        go_ret; exact ⟨⟨_, rfl, by rw [List.any_eq_true.2 ⟨y, List.mem_of_getElem? HY.out, HFX.out⟩]; simp⟩, HW.out.trans (hb1.mono (by omega))⟩
    · have hke : k = l.length := by omega
      have HKE := Lib.hid hke; clear hke; go_wp2_with fail
      go_ret; exact ⟨⟨_, rfl, by rw [any_no (HT.out.all HKE.out)]; rfl⟩, HW.out⟩
theorem containsN_any {w0 : World} {va : Value} {l : List QNode} (ha : SliceAt w0 (NodeAt w0) va l) (hq : ∀ x ∈ l, (nodeX x).length ≤ 1048576) :
    ∀ w, Below w0.heap.size w0 w → Calls Tryz.prog 46 #[va, .func (.func 47) #[] #[]] w (BoolPost (l.any largeN) w) := by
  intro w hw; have H := Lib.hid (indexN_any ha hq w hw); obtain ⟨A, ca, rfl, _⟩ := ha; clear hw; go_enter Tryz.func46, Tryz.ntmps46
  go_wp2_with (go_at_call 101; refine H.out.mono ?_; rintro e w1 ⟨⟨n, rfl, hn⟩, hb1⟩; have HN := Lib.hid hn; clear hn)
  go_ret; exact ⟨ret_bool HN.out, hb1⟩
set_option maxHeartbeats 2000000 in
theorem right_any {w0 : World} {p : QProg} {L : List Value} (made : Bool) (hL : ProgAt w0 L p) (hq : ∀ x ∈ p.nodes, (nodeX x).length ≤ 1048576) :
    ∀ w, Below w0.heap.size w0 w → Calls Tryz.prog 20 #[.agg L.toArray, .bool made] w (IntPost (rightL made p) w) := by
  intro w hw; have HP := Lib.hid (fun rv (hr : RulesAt w0 made rv) => program_any hr hL); obtain ⟨va, vb, rfl, ha, hb⟩ := hL; have HC := Lib.hid (containsN_any hb hq); obtain ⟨A1, n1, k1, rfl⟩ := SliceAt.shape ha; obtain ⟨A2, n2, k2, rfl⟩ := SliceAt.shape hb; have HW := Lib.hid hw; have hsz := hw.size; clear ha hb hw hq; go_enter Tryz.func20, Tryz.ntmps20
  go_wp2_with fail
  go_region_with (first | (go_at_call 44; refine (rulesFor_any made _).mono ?_; rintro e w1 ⟨rv, rfl, hb1, hrv⟩; have HRV := Lib.hid (hrv w0); have hs1 := hb1.size; simp at hs1; have bx : w1.heap[w.heap.size]? = some (.cells #[.slice A1 n1 k1, .slice A2 n2 k2] 26 (0, 0)) := (hb1.block w.heap.size (by simp)).trans (heap_alloc_new w _); obtain ⟨x0, x1⟩ := row2 bx; have BX := Lib.hid bx; have HB1 := Lib.hid ((HW.out.alloc (by omega) _).drew.trans (hb1.mono (by simp; omega))); have HC1 := Lib.hid (((Below.refl _ _).alloc (Nat.le_refl _) _).drew.trans (hb1.mono (by simp))); clear bx hb1 hrv) | (go_at_call 45; refine (HP.out _ HRV.out _ HB1.out).mono ?_; rintro e w2 ⟨rfl, hb2⟩; have hs2 := hb2.size; have by2 := box_next hb2 BX.out; obtain ⟨y0, y1⟩ := row2 by2; have HB2 := Lib.hid (HB1.out.trans (hb2.mono (by omega))); have HC2 := Lib.hid (HC1.out.trans (hb2.mono (by omega))); clear hb2 by2))
  all_goals go_wp2_with (go_at_call 46; refine (HC.out _ HB2.out).mono ?_; rintro e w3 ⟨rfl, hb3⟩; have HC3 := Lib.hid (HC2.out.trans (hb3.mono (by omega))); clear hb3)
  all_goals go_ret
  all_goals first
    | exact ⟨ret_int (by simp_all [rightL]), HC3.out⟩
    | exact ⟨ret_int (by simp_all [rightL]), HC2.out⟩
end Go.Proofs.YtlhmdjhfmhkllaaGreatDoor

namespace Go.Proofs.YtlhmdjhfmhkllaaGreatDoor
open Go.RowKit
theorem ProgAt.shape {w : World} {L : List Value} {p : QProg} (h : ProgAt w L p) : ∃ A1 n1 k1 A2 n2 k2, L = [.slice A1 n1 k1, .slice A2 n2 k2] := by
  obtain ⟨ev, nv, rfl, h1, h2⟩ := h; obtain ⟨_, _, _, rfl⟩ := SliceAt.shape h1; obtain ⟨_, _, _, rfl⟩ := SliceAt.shape h2; exact ⟨_, _, _, _, _, _, rfl⟩
end Go.Proofs.YtlhmdjhfmhkllaaGreatDoor
