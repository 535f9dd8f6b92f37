/-
  Texts joined, what is not needed here left out: ParseBackL.
-/
import Derived.Test.YtoajfnfhphoaeaaGreatDoorKc25
import Derived.Test.YtoajfnfhphoaeaaGreatDoorKc48
namespace Go.Proofs.YtoajfnfhphoaeaaGreatDoor
open Go.RowKit
theorem prog_deep {p : QProg} (hw : wProg p ≤ 1048576) : ∀ x ∈ pgXs p, dN x ≤ 9223372036854775807 := by
  intro x hx; obtain ⟨n, hn, hx⟩ := List.mem_flatMap.1 hx; obtain ⟨i, hi, hx⟩ := List.mem_flatMap.1 hx; have h1 := wL_mem (f := wNode) hn; have h2 := wL_mem (f := wItem) hi; have hd := dN_wX x; have hwx : wX x ≤ wItem i := by
    unfold itXs at hx; unfold wItem; split at hx
    · have : x = i.eq.e := by simpa using hx
      subst this; unfold wEq; omega
    · obtain ⟨s, hs, hx⟩ := List.mem_flatMap.1 hx; have h3 := wL_mem (f := wState) hs; rcases List.mem_append.1 hx with hx | hx
      · obtain ⟨q, hq, rfl⟩ := List.mem_map.1 hx; have h4 := wL_mem (f := wEq) hq; have h5 : wX q.e ≤ wEq q := (by unfold wEq; omega); have h6 : wL wEq s.eqs ≤ wState s := (by unfold wState; omega); omega
      · obtain ⟨y, hy, rfl⟩ := List.mem_map.1 hx; have h4 := wL_mem (f := wWay) hy; have h5 : wX y.cond ≤ wWay y := (by unfold wWay; omega); have h6 : wL wWay s.ways ≤ wState s := (by unfold wState; omega); omega
  have h3 : wL wItem n.items ≤ wNode n := (by unfold wNode; omega); unfold wProg at hw; omega
/-- a program that may be, and whose text is not too long, is what its text is read as -/
theorem back_parse {p : QProg} (hr : rightL false p = 0) (hb : bndP p) (hd : ∀ x ∈ pgXs p, dN x ≤ 9223372036854775807) (hl : (spellL (progT p)).length ≤ 65536) : parseR (spellL (progT p)) = .inl p := by
  obtain ⟨toks, e, h1, h2⟩ := prog_back hr hb hd hl; refine parseR_ok ?_ hr; unfold wholeR; rw [h1]; simp only [h2]
set_option maxHeartbeats 2000000 in
set_option maxRecDepth 100000 in
theorem back_any {w : World} (htab : Tab w) (herr : Errs w) {p : QProg} {L : List Value} (hL : ProgAt w L p) (hw : wProg p ≤ 1048576) : Calls Tryz.prog 3 #[.agg L.toArray] w (Lived w) := by
  have HL := Lib.hid hL; have HTB := Lib.hid htab; have HER := Lib.hid herr; have HQ := Lib.hid (prog_few hw); have HS := Lib.hid (prog_size hL.i64 hw); have HBD := Lib.hid hL.i64.bnd; have HDP := Lib.hid (prog_deep hw); obtain ⟨A1, n1, k1, A2, n2, k2, rfl⟩ := hL.shape; clear htab herr hL hw; have heq0 := eq_flt 0 0 0; have RC : (∃ g : Int, rightL false p = g ∧ g ≠ 0) ∨ rightL false p = 0 := by
    rcases rightL_cases p with h | h | h
    · exact .inr h
    · exact .inl ⟨9, h, by decide⟩
    · exact .inl ⟨10, h, by decide⟩
  rcases RC with ⟨g, hr, hg⟩ | hr
  · have HG := Lib.hid hr; have HN := Lib.hid hg; have hg2 : (g != 0) = true := (by simp [hg]); clear hr hg; go_enter Tryz.func3, Tryz.ntmps3
    go_wp2_with (first
      | (go_at_call 8; (with_reducible refine (liv_any _ (HTB.out.under ((Below.refl _ w).alloc (Nat.le_refl _) _)) (HER.out.under ((Below.refl _ w).alloc (Nat.le_refl _) _))).mono ?_); rintro e w1 ⟨rfl, hb1⟩; have bx := box_next hb1 (heap_alloc_new w _); obtain ⟨x0, x1⟩ := row2 bx; have BX := Lib.hid bx; have HB1 := Lib.hid (((Below.refl _ w).alloc (Nat.le_refl _) _).trans (hb1.mono (by simp))); clear bx hb1)
      | (go_at_call 9; (with_reducible refine (print_no HTB.out HL.out HQ.out HS.out HG.out HN.out HB1.out).mono ?_); rintro e w2 ⟨rfl, hb2⟩; have HB2 := Lib.hid (HB1.out.trans (hb2.mono HB1.out.size)); clear hb2))
    go_ret; exact ⟨rfl, HB2.out⟩
  · have HPR := Lib.hid (fun (W : World) (h : Below w.heap.size w W) => print_ok HTB.out HL.out HQ.out HS.out hr h); by_cases hbig : (spellL (progT p)).length ≤ 65536
    · have HPB := Lib.hid (back_parse hr HBD.out HDP.out hbig); have hbig' : ((str (spellL (progT p))).size : Int) ≤ 65536 := (by rw [str_size]; omega); have HML := Lib.hid (show (spellL (progT p)).length ≤ maxLen by unfold maxLen; omega); have hpp : sameQProg p p = true := (sameQProg_iff p p).2 rfl; clear hr hbig HS HQ HBD HDP; generalize spellL (progT p) = S at *; go_enter Tryz.func3, Tryz.ntmps3
      go_wp2_with (first
        | (go_at_call 8; (with_reducible refine (liv_any _ (HTB.out.under ((Below.refl _ w).alloc (Nat.le_refl _) _)) (HER.out.under ((Below.refl _ w).alloc (Nat.le_refl _) _))).mono ?_); rintro e w1 ⟨rfl, hb1⟩; have bx := box_next hb1 (heap_alloc_new w _); obtain ⟨x0, x1⟩ := row2 bx; have BX := Lib.hid bx; have HB1 := Lib.hid (((Below.refl _ w).alloc (Nat.le_refl _) _).trans (hb1.mono (by simp))); clear bx hb1)
        | (go_at_call 9; (with_reducible refine (HPR.out _ HB1.out).mono ?_); rintro e w2 ⟨rfl, hb2⟩; have BX2 := Lib.hid (box_next hb2 BX.out); have HB2 := Lib.hid (HB1.out.trans (hb2.mono HB1.out.size)); clear hb2)
        | (go_at_call 10; (with_reducible refine (parse_okc HPB.out _ HML.out (HER.out.under HB2.out)).mono ?_); intro e w3 h3; obtain ⟨v, h8, M, h9, hM0⟩ := h3.2; subst h8; subst h9; have hM := hM0.sub (new_sub _ _); obtain ⟨P1, j1, l1, P2, j2, l2, rfl⟩ := hM.shape; obtain ⟨V3, rfl⟩ : ∃ W, W = w3 := ⟨_, rfl⟩; have HM := Lib.hid hM; obtain ⟨d1, d2⟩ := two_alloc (w := V3) (A := .cells #[.slice P1 j1 l1, .slice P2 j2 l2] 25) (C := .cells #[.int .i64 0, .int .i64 0, .int .i64 0] 31); have HV3 := Lib.hid (((Below.refl V3.heap.size V3).alloc (Nat.le_refl _) (.cells #[.slice P1 j1 l1, .slice P2 j2 l2] 25)).alloc (by simp) (.cells #[.int .i64 0, .int .i64 0, .int .i64 0] 31)); have HB3 := Lib.hid (HB2.out.trans (h3.1.mono HB2.out.size)); have c1 := box_next HV3.out (box_next h3.1 BX2.out); obtain ⟨y0, y1⟩ := row2 c1; obtain ⟨z0, z1⟩ := row2 d1; obtain ⟨u0, u1, u2⟩ := row3 d2; clear h3 hM0 hM d1 d2 c1)
        | (go_at_call 11; (with_reducible refine (rSame_any (HL.out.under HB3.out) HM.out _ HV3.out).mono ?_); rintro e w4 ⟨rfl, hb4⟩; rw [hpp]; have HB4 := Lib.hid ((HB3.out.trans (HV3.out.mono HB3.out.size)).trans (hb4.mono (HB3.out.trans (HV3.out.mono HB3.out.size)).size)); clear hb4))
      go_ret; exact ⟨rfl, HB4.out⟩
    · have hbig' : 65536 < ((str (spellL (progT p))).size : Int) := by rw [str_size]; omega
      clear hr hbig HS HQ HBD HDP; generalize spellL (progT p) = S at *; go_enter Tryz.func3, Tryz.ntmps3
      go_wp2_with (first
        | (go_at_call 8; (with_reducible refine (liv_any _ (HTB.out.under ((Below.refl _ w).alloc (Nat.le_refl _) _)) (HER.out.under ((Below.refl _ w).alloc (Nat.le_refl _) _))).mono ?_); rintro e w1 ⟨rfl, hb1⟩; have bx := box_next hb1 (heap_alloc_new w _); obtain ⟨x0, x1⟩ := row2 bx; have HB1 := Lib.hid (((Below.refl _ w).alloc (Nat.le_refl _) _).trans (hb1.mono (by simp))); clear bx hb1)
        | (go_at_call 9; (with_reducible refine (HPR.out _ HB1.out).mono ?_); rintro e w2 ⟨rfl, hb2⟩; have HB2 := Lib.hid (HB1.out.trans (hb2.mono HB1.out.size)); clear hb2))
      go_ret; exact ⟨rfl, HB2.out⟩
theorem laid_back {W : World} (h : laidMetH Tryz.prog Rows.parseBackUptoRow.laid W) : Tab W ∧ Errs W := by
  have h : laidMet Tryz.prog Rows.parseBackUptoRow.laid W := h; exact ⟨tab_head h.tail.tail, laid_iface h.tail.tail.tail.tail (by kernel_rfl) (by kernel_rfl) Tryz.underlying128, laid_iface h.tail.tail.tail (by kernel_rfl) (by kernel_rfl) Tryz.underlying128⟩
theorem back_law (L : List Value) (p : QProg) (w : World) (hL : ProgAt w L p) (hq : wProg p ≤ 1048576) (h : Tab w ∧ Errs w) : Calls Tryz.prog 3 #[.agg L.toArray] w (Lived w) :=
  back_any h.1 h.2 hL hq
end Go.Proofs.YtoajfnfhphoaeaaGreatDoor
