/-
  Texts joined.
-/
import Derived.Test.YtoajfnfhphoaeaaGreatDoorKc13
import Derived.Test.YtoajfnfhphoaeaaGreatDoorKc25
import Derived.Test.YtoajfnfhphoaeaaGreatDoorKc48
namespace Go.Proofs.YtoajfnfhphoaeaaGreatDoor
open Go.RowKit
theorem parseR_flt {s : Tx} {f : Flt} (h : parseR s = .inr f) : f.1 ≠ 0 := by
  unfold parseR at h; split at h
  · rename_i hw; cases h; exact wholeP_flt hw
  · split at h
    · cases h
    · rename_i hr; cases h; exact hr
theorem parseR_got {s : Tx} {p : QProg} (h : parseR s = .inl p) : rightL false p = 0 ∧ GProg p ∧ (progT p).length ≤ 196611 := by
  unfold parseR at h; split at h
  · cases h
  · rename_i q hw; split at h
    · rename_i hr; cases h; exact ⟨hr, whole_got hw⟩
    · cases h
theorem again_parse {p : QProg} (hr : rightL false p = 0) (hb : bndP p) (hd : ∀ x ∈ pgXs p, dN x ≤ 9223372036854775807) (hl : (spellL (progT p)).length ≤ 65536) : parseR (spellL (progT p)) = .inl p := by
  obtain ⟨toks, e, h1, h2⟩ := prog_back hr hb hd hl; refine parseR_ok ?_ hr; unfold wholeR; rw [h1]; simp only [h2]
theorem two_both (w : World) (A C : Obj) : ((w.alloc A).alloc C).heap[w.heap.size]? = some A ∧ ((w.alloc A).alloc C).heap[w.heap.size + 1]? = some C ∧ Below w.heap.size w ((w.alloc A).alloc C) :=
  ⟨two_alloc.1, two_alloc.2, ((Below.refl _ w).alloc (Nat.le_refl _) A).alloc (by simp) C⟩
theorem okP_shape {p : QProg} {w w' : World} {e : Ending} (h : OkP p w e w') : ∃ A n k B m j, e = .returned (.tuple #[.agg #[.slice A n k, .slice B m j], .agg #[.int .i64 0, .int .i64 0, .int .i64 0]]) ∧ Below w.heap.size w w' ∧ ProgAt w' [.slice A n k, .slice B m j] p := by
  obtain ⟨hb, v, rfl, L, rfl, h⟩ := h; obtain ⟨_, _, _, _, _, _, rfl⟩ := h.shape; exact ⟨_, _, _, _, _, _, rfl, hb, h.sub (new_sub _ _)⟩
def BadP (f : Flt) (w : World) (e : Ending) (w' : World) : Prop := Below w.heap.size w w' ∧ e = .returned (.tuple #[.agg #[.slice none 0 0, .slice none 0 0], .agg #[.int .i64 f.1, .int .i64 f.2.1, .int .i64 f.2.2]])
theorem parse_badc {s : Tx} {f : Flt} (hp : parseR s = .inr f) (w : World) (hm : s.length ≤ maxLen) (he : Errs w) : Calls Tryz.prog 10 #[.string (str s)] w (BadP f w) := by
  have h := parse_call s w hm he; rw [hp] at h; exact h
set_option maxHeartbeats 2000000 in
set_option maxRecDepth 100000 in
theorem shown_any (s : ByteArray) (w : World) (hm : s.size ≤ maxLen) (htab : Tab w) (herr : Errs w) : Calls Tryz.prog 4 #[.string s] w (Lived w) := by
  obtain ⟨S0, rfl⟩ : ∃ l, s = str l := ⟨s.data.toList, (str_eq s).symm⟩; have HTB := Lib.hid htab; have HER := Lib.hid herr; have HM := Lib.hid (show S0.length ≤ maxLen from hm); clear htab herr hm; have heq0 := eq_flt 0 0 0; cases hp : parseR S0 with
  | inr f =>
    have HP := Lib.hid hp; have h0 := parseR_flt hp; have h1 : (f.1 != 0) = true := (by simp [h0]); obtain ⟨a, b, c⟩ := f; clear hp; go_enter Tryz.func4, Tryz.ntmps4
    go_wp2_with (first
      | (go_at_call 8; (with_reducible refine (liv_any _ HTB.out HER.out).mono ?_); rintro e w1 ⟨rfl, hb1⟩; have HB1 := Lib.hid hb1; clear hb1)
      | (go_at_call 10; (with_reducible refine (parse_badc HP.out _ HM.out (HER.out.under HB1.out)).mono ?_); rintro e w3 ⟨hb3, rfl⟩; obtain ⟨V3, rfl⟩ : ∃ W, W = w3 := ⟨_, rfl⟩; obtain ⟨d1, d2⟩ := two_alloc (w := V3) (A := .cells #[.slice none 0 0, .slice none 0 0] 25) (C := .cells #[.int .i64 a, .int .i64 b, .int .i64 c] 31); have HB3 := Lib.hid (HB1.out.trans (hb3.mono HB1.out.size)); obtain ⟨z0, z1⟩ := row2 d1; obtain ⟨u0, u1, u2⟩ := row3 d2; clear hb3 d1 d2))
    go_ret; exact ⟨rfl, (HB3.out.alloc HB3.out.size _).alloc (Nat.le_trans HB3.out.size (by simp)) _⟩
  | inl p =>
    obtain ⟨hr, hg, hl⟩ := parseR_got hp; have HP := Lib.hid hp; have HQ := Lib.hid (fun x (hx : x ∈ p.nodes) => (show (nodeX x).length ≤ 1048576 by have := gprog_few hx; omega)); have HS := Lib.hid (size_brief hg.briefs hl); have HDP := Lib.hid (got_deep hg hl); have HR := Lib.hid hr; have hpp : sameQProg p p = true := (sameQProg_iff p p).2 rfl; clear hp hg hl hr; have HPR := Lib.hid (fun (V W : World) (L : List Value) (ht : Tab V) (hL : ProgAt V L p) (h : Below V.heap.size V W) => print_ok ht hL HQ.out HS.out HR.out h); by_cases hbig : (spellL (progT p)).length ≤ 65536
    · have HPB := Lib.hid (fun hb : bndP p => again_parse HR.out hb HDP.out hbig); have hbig' : ((str (spellL (progT p))).size : Int) ≤ 65536 := (by rw [str_size]; omega); have HML := Lib.hid (show (spellL (progT p)).length ≤ maxLen by unfold maxLen; omega); clear hbig HS HQ HDP HR; generalize spellL (progT p) = S at *; go_enter Tryz.func4, Tryz.ntmps4
      go_wp2_with (first
        | (go_at_call 8; (with_reducible refine (liv_any _ HTB.out HER.out).mono ?_); rintro e w1 ⟨rfl, hb1⟩; have HB1 := Lib.hid hb1; clear hb1)
        | (go_at_call 10; (with_reducible refine (parse_okc HPB.out _ HML.out (HER.out.under HB4.out)).mono ?_); intro e w3 h3; obtain ⟨P3, j3, l3, P4, j4, l4, rfl, hb, hM⟩ := okP_shape h3; obtain ⟨V5, rfl⟩ : ∃ W, W = w3 := ⟨_, rfl⟩; have HM5 := Lib.hid hM; obtain ⟨d1, d2, hv⟩ := two_both V5 (.cells #[.slice P3 j3 l3, .slice P4 j4 l4] 25) (.cells #[.int .i64 0, .int .i64 0, .int .i64 0] 31); have HV5 := Lib.hid hv; have HB5 := Lib.hid (HB4.out.trans (hb.mono HB4.out.size)); have HL5 := Lib.hid ((HL3.out.under (HW4.out.trans (hb.mono HW4.out.size)))); have c1 := box_next HV5.out (box_next hb BX4.out); obtain ⟨y0, y1⟩ := row2 c1; obtain ⟨zz0, zz1⟩ := row2 d1; obtain ⟨uu0, uu1, uu2⟩ := row3 d2; clear h3 hb hM d1 d2 hv c1)
        | (go_at_call 10; (with_reducible refine (parse_okc HP.out _ HM.out (HER.out.under HB1.out)).mono ?_); intro e w3 h3; obtain ⟨P1, j1, l1, P2, j2, l2, rfl, hb, hM⟩ := okP_shape h3; obtain ⟨V3, rfl⟩ : ∃ W, W = w3 := ⟨_, rfl⟩; have HL3 := Lib.hid hM; obtain ⟨d1, d2, hv⟩ := two_both V3 (.cells #[.slice P1 j1 l1, .slice P2 j2 l2] 25) (.cells #[.int .i64 0, .int .i64 0, .int .i64 0] 31); have HV3 := Lib.hid hv; have HB3 := Lib.hid (HB1.out.trans (hb.mono HB1.out.size)); have HT3 := Lib.hid (HTB.out.under HB3.out); have BX3 := Lib.hid d1; replace HPB := Lib.hid (HPB.out hM.i64.bnd); obtain ⟨z0, z1⟩ := row2 d1; obtain ⟨u0, u1, u2⟩ := row3 d2; clear h3 hb hM d1 d2 hv)
        | (go_at_call 9; (with_reducible refine (HPR.out _ _ _ HT3.out HL3.out HV3.out).mono ?_); rintro e w4 ⟨rfl, hb4⟩; have BX4 := Lib.hid (box_next hb4 BX3.out); have HW4 := Lib.hid (HV3.out.trans (hb4.mono HV3.out.size)); have HB4 := Lib.hid (HB3.out.trans (HW4.out.mono HB3.out.size)); clear hb4)
        | (go_at_call 11; (with_reducible refine (rSame_any HL5.out HM5.out _ HV5.out).mono ?_); rintro e w6 ⟨rfl, hb6⟩; rw [hpp]; have HB6 := Lib.hid ((HB5.out.trans (HV5.out.mono HB5.out.size)).trans (hb6.mono (HB5.out.trans (HV5.out.mono HB5.out.size)).size)); clear hb6))
      go_ret; exact ⟨rfl, HB6.out⟩
    · have hbig' : 65536 < ((str (spellL (progT p))).size : Int) := by rw [str_size]; omega
      clear hbig HS HQ HDP HR; generalize spellL (progT p) = S at *; go_enter Tryz.func4, Tryz.ntmps4
      go_wp2_with (first
        | (go_at_call 8; (with_reducible refine (liv_any _ HTB.out HER.out).mono ?_); rintro e w1 ⟨rfl, hb1⟩; have HB1 := Lib.hid hb1; clear hb1)
        | (go_at_call 10; (with_reducible refine (parse_okc HP.out _ HM.out (HER.out.under HB1.out)).mono ?_); intro e w3 h3; obtain ⟨P1, j1, l1, P2, j2, l2, rfl, hb, hM⟩ := okP_shape h3; obtain ⟨V3, rfl⟩ : ∃ W, W = w3 := ⟨_, rfl⟩; have HL3 := Lib.hid hM; obtain ⟨d1, d2, hv⟩ := two_both V3 (.cells #[.slice P1 j1 l1, .slice P2 j2 l2] 25) (.cells #[.int .i64 0, .int .i64 0, .int .i64 0] 31); have HV3 := Lib.hid hv; have HB3 := Lib.hid (HB1.out.trans (hb.mono HB1.out.size)); have HT3 := Lib.hid (HTB.out.under HB3.out); obtain ⟨z0, z1⟩ := row2 d1; obtain ⟨u0, u1, u2⟩ := row3 d2; clear h3 hb hM d1 d2 hv)
        | (go_at_call 9; (with_reducible refine (HPR.out _ _ _ HT3.out HL3.out HV3.out).mono ?_); rintro e w4 ⟨rfl, hb4⟩; have hw4 := HV3.out.trans (hb4.mono HV3.out.size)))
      go_ret; exact ⟨rfl, HB3.out.trans (hw4.mono HB3.out.size)⟩
theorem laid_shown {W : World} (h : laidMetH Tryz.prog Rows.parseShownRow.laid W) : Tab W ∧ Errs W := by
  have h : laidMet Tryz.prog Rows.parseShownRow.laid W := h; exact ⟨tab_head h.tail.tail, laid_iface h.tail.tail.tail.tail (by kernel_rfl) (by kernel_rfl) Tryz.underlying128, laid_iface h.tail.tail.tail (by kernel_rfl) (by kernel_rfl) Tryz.underlying128⟩
theorem shown_law (s : ByteArray) (w : World) (hm : s.size ≤ maxLen) (h : Tab w ∧ Errs w) : Calls Tryz.prog 4 #[.string s] w (Lived w) := shown_any s w hm h.1 h.2
end Go.Proofs.YtoajfnfhphoaeaaGreatDoor
