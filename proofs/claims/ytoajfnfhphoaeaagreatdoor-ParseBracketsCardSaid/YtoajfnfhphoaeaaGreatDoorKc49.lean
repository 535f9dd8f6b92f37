/-
  Texts joined, what is not needed here left out: ParseBrkL.
-/
import Derived.IntWalk
import Derived.Test.YtoajfnfhphoaeaaGreatDoorKc06
import Derived.Test.YtoajfnfhphoaeaaGreatDoorKc14
import Derived.Test.YtoajfnfhphoaeaaGreatDoorKc48
namespace Go.Proofs.YtoajfnfhphoaeaaGreatDoor
open Go.RowKit
theorem rem5 (n : Int) : ∃ m : Nat, m ≤ 4 ∧ wrap64 ((IntKind.u64.wrap n).tmod 5) = (m : Int) := by
  have h0 : 0 ≤ IntKind.u64.wrap n := (by simp [IntKind.wrap, IntKind.bits, IntKind.signed]; omega); rw [Int.tmod_eq_emod_of_nonneg h0]; have h1 := Int.emod_nonneg (IntKind.u64.wrap n) (show (5 : Int) ≠ 0 by omega); have h2 := Int.emod_lt_of_pos (IntKind.u64.wrap n) (show (0 : Int) < 5 by omega); rw [IntWalk.wrap64_in _ (by omega)]; exact ⟨(IntKind.u64.wrap n % 5).toNat, by omega, by omega⟩
theorem str_app (a b : Tx) : str a ++ str b = str (a ++ b) := by
  apply ByteArray.ext; rw [ByteArray.data_append]; simp [str]
theorem brk_str (S : Tx) (k : Nat) : ({ data := #[40] } : ByteArray) ++ str (brk S k) ++ { data := #[32, 41, 32, 45, 45, 32, 110, 111, 116, 101, 10] } = str (brk S (k + 1)) := by
  have h1 : ({ data := #[40] } : ByteArray) = str [40] := rfl; have h2 : ({ data := #[32, 41, 32, 45, 45, 32, 110, 111, 116, 101, 10] } : ByteArray) = str (tailB ++ [10]) := rfl; rw [h1, h2, str_app, str_app, brk]; simp
theorem brk_len (S : Tx) : ∀ k, (brk S k).length = S.length + 12 * k
  | 0 => rfl
  | k + 1 => by
    have := brk_len S k
    simp only [brk, tailB, List.length_cons, List.length_append, List.length_nil]
    omega
def BadE (f : Flt) (w : World) (e : Ending) (w' : World) : Prop := Below w.heap.size w w' ∧ e = .returned (.tuple #[.agg #[.int .i64 0, .string ⟨#[]⟩, .int .i64 0, .slice none 0 0, .slice none 0 0], .agg #[.int .i64 f.1, .int .i64 f.2.1, .int .i64 f.2.2]])
theorem expr_badc {s : Tx} {f : Flt} (hp : exprR s = .inr f) (w : World) (hm : s.length ≤ maxLen) (he : Errs w) : Calls Tryz.prog 12 #[.string (str s)] w (BadE f w) := by
  have h := expr_call s w hm he; rw [hp] at h; exact h
theorem brk_again {x : Ex} (hx : GX x) (hd : dN x ≤ 40) {k : Nat} (hk : k ≤ 4) (hl : (brk (spellL (toksX x)) k).length ≤ 65536) : exprR (brk (spellL (toksX x)) k) = .inl x := by
  obtain ⟨toks, e, h1, h2⟩ := brk_back hx hd hk hl; unfold exprR wholeR; rw [h1]; simp only [h2]
theorem spell_put : ∀ ts : List Tx, (spellL ts).length ≤ (putL false ts).length := fun ts => by rw [putL_false]; exact Nat.le_refl _
set_option maxHeartbeats 2000000 in
set_option maxRecDepth 100000 in
theorem brackets_any (s : ByteArray) (a : Int) (w : World) (hm : s.size ≤ maxLen) (htab : Tab w) (herr : Errs w) : Calls Tryz.prog 5 #[.string s, .int .i64 a] w (Lived w) := by
  obtain ⟨S0, rfl⟩ : ∃ l, s = str l := ⟨s.data.toList, (str_eq s).symm⟩; have HTB := Lib.hid htab; have HER := Lib.hid herr; have HM := Lib.hid (show S0.length ≤ maxLen from hm); clear htab herr hm; have heq0 := eq_flt 0 0 0; cases hp : exprR S0 with
  | inr f =>
    have HP := Lib.hid hp; have h0 := wholeE_flt hp; have h1 : (f.1 != 0) = true := (by simp [h0]); obtain ⟨a1, b1, c1⟩ := f; clear hp; go_enter Tryz.func5, Tryz.ntmps5
    go_wp2_with (first
      | (go_at_call 8; (with_reducible refine (liv_any _ HTB.out HER.out).mono ?_); rintro e w1 ⟨rfl, hb1⟩; have HB1 := Lib.hid hb1; clear hb1)
      | (go_at_call 12; (with_reducible refine (expr_badc HP.out _ HM.out (HER.out.under HB1.out)).mono ?_); rintro e w3 ⟨hb3, rfl⟩; obtain ⟨V3, rfl⟩ : ∃ W, W = w3 := ⟨_, rfl⟩; obtain ⟨d1, d2⟩ := two_alloc (w := V3) (A := .cells #[.int .i64 0, .string ⟨#[]⟩, .int .i64 0, .slice none 0 0, .slice none 0 0] 40) (C := .cells #[.int .i64 a1, .int .i64 b1, .int .i64 c1] 31); have HB3 := Lib.hid (HB1.out.trans (hb3.mono HB1.out.size)); obtain ⟨u0, u1, u2⟩ := row3 d2; clear hb3 d1 d2))
    go_ret; exact ⟨rfl, (HB3.out.alloc HB3.out.size _).alloc (Nat.le_trans HB3.out.size (by simp)) _⟩
  | inl x =>
    obtain ⟨hg, hl⟩ := wholeE_got hp; have HP := Lib.hid hp; have HS := Lib.hid (size_brief hg.2 hl); have hdp : depthW x = (dN x : Int) := depthW_dN x (by have := good_deep hg.1; omega); have hxx : sameX x x = true := (sameX_iff x x).2 rfl; obtain ⟨dd, hdd⟩ : ∃ d, d = dN x := ⟨_, rfl⟩; have hdw : depthW x = (dd : Int) := (by rw [hdd]; exact hdp); by_cases hdeep : 40 < dd
    · have hdeep' : (40 : Int) < (dd : Int) := by omega
      clear hp hg hl hdd hdp; go_enter Tryz.func5, Tryz.ntmps5
      go_wp2_with (first
        | (go_at_call 8; (with_reducible refine (liv_any _ HTB.out HER.out).mono ?_); rintro e w1 ⟨rfl, hb1⟩; have HB1 := Lib.hid hb1; clear hb1)
        | (go_at_call 12; (with_reducible refine (expr_okc HP.out _ HM.out (HER.out.under HB1.out)).mono ?_); intro e w3 h3; obtain ⟨v, h8, M, h9, hM0⟩ := h3.2; subst h8; subst h9; have hM := hM0.sub (new_sub _ _); obtain ⟨o1, s1, m1, A1, n1, k1, A2, n2, k2, rfl⟩ := hM.shape; obtain ⟨V3, rfl⟩ : ∃ W, W = w3 := ⟨_, rfl⟩; have HL3 := Lib.hid hM; obtain ⟨d1, d2⟩ := two_alloc (w := V3) (A := .cells #[.int .i64 o1, .string s1, .int .i64 m1, .slice A1 n1 k1, .slice A2 n2 k2] 40) (C := .cells #[.int .i64 0, .int .i64 0, .int .i64 0] 31); have HV3 := Lib.hid (((Below.refl V3.heap.size V3).alloc (Nat.le_refl _) (.cells #[.int .i64 o1, .string s1, .int .i64 m1, .slice A1 n1 k1, .slice A2 n2 k2] 40)).alloc (by simp) (.cells #[.int .i64 0, .int .i64 0, .int .i64 0] 31)); have HB3 := Lib.hid (HB1.out.trans (h3.1.mono HB1.out.size)); obtain ⟨z0, z1, z2, z3, z4⟩ := row5 d1; obtain ⟨u0, u1, u2⟩ := row3 d2; clear h3 hM0 hM d1 d2)
        | (go_at_call 13; (with_reducible refine (depth_any HL3.out _ HV3.out).mono ?_); rintro e w4 ⟨rfl, hb4⟩; rw [hdw]; have HB4 := Lib.hid ((HB3.out.trans (HV3.out.mono HB3.out.size)).trans (hb4.mono (HB3.out.trans (HV3.out.mono HB3.out.size)).size)); clear hb4))
      go_ret; exact ⟨rfl, HB4.out⟩
    · have hdeep' : ¬ (40 : Int) < (dd : Int) := by omega
      have HBK := Lib.hid (fun k (hk : k ≤ 4) hl => brk_again hg (by omega) (k := k) hk hl); have HSL := Lib.hid (Nat.le_trans (spell_put (toksX x)) HS.out); have HSH := Lib.hid (fun (V W : World) (L : List Value) (ht : Tab V) (hL : ExAt V L x) (h : Below V.heap.size V W) => show_any ht hL HS.out h); obtain ⟨m, hm4, hme⟩ := rem5 a; clear hp hg hl hdd hdp HS; unfold ShowPost at HSH; generalize spellL (toksX x) = S at *; go_enter Tryz.func5, Tryz.ntmps5
      go_wp2_with (first
        | (go_at_call 8; (with_reducible refine (liv_any _ HTB.out HER.out).mono ?_); rintro e w1 ⟨rfl, hb1⟩; have HB1 := Lib.hid hb1; clear hb1)
        | (go_at_call 12; (with_reducible refine (expr_okc HP.out _ HM.out (HER.out.under HB1.out)).mono ?_); intro e w3 h3; obtain ⟨v, h8, M, h9, hM0⟩ := h3.2; subst h8; subst h9; have hM := hM0.sub (new_sub _ _); obtain ⟨o1, s1, m1, A1, n1, k1, A2, n2, k2, rfl⟩ := hM.shape; obtain ⟨V3, rfl⟩ : ∃ W, W = w3 := ⟨_, rfl⟩; have HL3 := Lib.hid hM; obtain ⟨d1, d2⟩ := two_alloc (w := V3) (A := .cells #[.int .i64 o1, .string s1, .int .i64 m1, .slice A1 n1 k1, .slice A2 n2 k2] 40) (C := .cells #[.int .i64 0, .int .i64 0, .int .i64 0] 31); have HV3 := Lib.hid (((Below.refl V3.heap.size V3).alloc (Nat.le_refl _) (.cells #[.int .i64 o1, .string s1, .int .i64 m1, .slice A1 n1 k1, .slice A2 n2 k2] 40)).alloc (by simp) (.cells #[.int .i64 0, .int .i64 0, .int .i64 0] 31)); have HB3 := Lib.hid (HB1.out.trans (h3.1.mono HB1.out.size)); have HT3 := Lib.hid (HTB.out.under HB3.out); have BX3 := Lib.hid d1; obtain ⟨z0, z1, z2, z3, z4⟩ := row5 d1; obtain ⟨u0, u1, u2⟩ := row3 d2; clear h3 hM0 hM d1 d2)
        | (go_at_call 13; (with_reducible refine (depth_any HL3.out _ HV3.out).mono ?_); rintro e w4 ⟨rfl, hb4⟩; rw [hdw]; obtain ⟨V4, rfl⟩ : ∃ W, W = w4 := ⟨_, rfl⟩; have HW4 := Lib.hid (HV3.out.trans (hb4.mono HV3.out.size)); have BX4 := Lib.hid (box_next hb4 BX3.out); obtain ⟨y0, y1, y2, y3, y4⟩ := row5 BX4.out; clear hb4)
        | (go_at_call 14; (with_reducible refine (HSH.out _ _ _ HT3.out HL3.out HW4.out).mono ?_); rintro e w5 ⟨rfl, hb5⟩; obtain ⟨V5, rfl⟩ : ∃ W, W = w5 := ⟨_, rfl⟩; have HW5 := Lib.hid (HW4.out.trans (hb5.mono HW4.out.size)); have BX5 := Lib.hid (box_next hb5 BX4.out); clear hb5))
      go_loopg [8, 9] (m + 1) (fun g v8 v9 wr => ∃ k : Nat, k ≤ m ∧ g = m + 1 - k ∧ v8 = .string (str (brk S k)) ∧ v9 = .int .i64 (k : Int) ∧ wr = V5)
      case atStart => exact ⟨0, by omega, by omega, rfl, rfl, rfl⟩
      case round =>
        obtain ⟨k, hk, rfl, rfl, rfl, hwr⟩ := hrel; subst hwr; have hbl := brk_len S k; have hsl := HSL.out; by_cases hkm : k < m
        · have hlt : (k : Int) < (m : Int) := by omega
          have hz1 : ¬ 9223372036854775807 < ({ data := #[40] } : ByteArray).size + (str (brk S k)).size := by
            have h1 : ({ data := #[40] } : ByteArray).size = 1 := rfl; rw [str_size, h1]; omega
          have hz2 : ¬ 9223372036854775807 < (({ data := #[40] } : ByteArray) ++ str (brk S k)).size + ({ data := #[32, 41, 32, 45, 45, 32, 110, 111, 116, 101, 10] } : ByteArray).size := by
            have h1 : ({ data := #[40] } : ByteArray) = str [40] := rfl; have h2 : ({ data := #[32, 41, 32, 45, 45, 32, 110, 111, 116, 101, 10] } : ByteArray).size = 11 := rfl; rw [h1, str_app, str_size, h2]; simp only [List.length_append, List.length_cons, List.length_nil]; omega
          have hbs := brk_str S k; go_wp2; go_roundg (m + 1 - (k + 1))
          case measure => omega
          case rel => exact ⟨k + 1, by omega, rfl, by rw [← hbs], by go_num, rfl⟩
        · obtain rfl : k = m := by omega
          have hge : ¬ ((k : Int) < (k : Int)) := (by omega); by_cases hbig : (brk S k).length ≤ 65536
          · have hbig' : ((str (brk S k)).size : Int) ≤ 65536 := by rw [str_size]; omega
            have HEX := Lib.hid (HBK.out k hm4 hbig); have HML := Lib.hid (show (brk S k).length ≤ maxLen by unfold maxLen; omega); have HB5 := Lib.hid (HB3.out.trans (HW5.out.mono HB3.out.size)); obtain ⟨y0, y1, y2, y3, y4⟩ := row5 BX5.out; clear hbl hsl hbig hme; generalize brk S k = Z at *
            go_wp2_with (first
              | (go_at_call 12; (with_reducible refine (expr_okc HEX.out _ HML.out (HER.out.under HB5.out)).mono ?_); intro e w6 h6; obtain ⟨v, h8, M, h9, hM0⟩ := h6.2; subst h8; subst h9; have hM := hM0.sub (new_sub _ _); obtain ⟨o6, s6, m6, A6, n6, k6, B6, j6, l6, rfl⟩ := hM.shape; obtain ⟨V6, rfl⟩ : ∃ W, W = w6 := ⟨_, rfl⟩; have HM6 := Lib.hid hM; obtain ⟨d1, d2⟩ := two_alloc (w := V6) (A := .cells #[.int .i64 o6, .string s6, .int .i64 m6, .slice A6 n6 k6, .slice B6 j6 l6] 40) (C := .cells #[.int .i64 0, .int .i64 0, .int .i64 0] 31); have HV6 := Lib.hid (((Below.refl V6.heap.size V6).alloc (Nat.le_refl _) (.cells #[.int .i64 o6, .string s6, .int .i64 m6, .slice A6 n6 k6, .slice B6 j6 l6] 40)).alloc (by simp) (.cells #[.int .i64 0, .int .i64 0, .int .i64 0] 31)); have HB6 := Lib.hid (HB5.out.trans (h6.1.mono HB5.out.size)); have HL6 := Lib.hid (HL3.out.under (HW5.out.trans (h6.1.mono HW5.out.size))); have c1 := box_next HV6.out (box_next h6.1 BX5.out); obtain ⟨x0, x1, x2, x3, x4⟩ := row5 c1; obtain ⟨zz0, zz1, zz2, zz3, zz4⟩ := row5 d1; obtain ⟨uu0, uu1, uu2⟩ := row3 d2; clear h6 hM0 hM d1 d2 c1)
              | (go_at_call 15; (with_reducible refine (rSameExpr_any x x _ _ HL6.out HM6.out _ HV6.out).mono ?_); rintro e w7 ⟨rfl, hb7⟩; rw [hxx]; have HB7 := Lib.hid ((HB6.out.trans (HV6.out.mono HB6.out.size)).trans (hb7.mono (HB6.out.trans (HV6.out.mono HB6.out.size)).size)); clear hb7))
            go_ret; exact ⟨rfl, HB7.out⟩
          · have hbig' : 65536 < ((str (brk S k)).size : Int) := by rw [str_size]; omega
            clear hbl hsl hbig; generalize brk S k = Z at *; go_wp2; go_ret; exact ⟨rfl, HB3.out.trans (HW5.out.mono HB3.out.size)⟩
theorem laid_brackets {W : World} (h : laidMetH Tryz.prog Rows.parseBracketsRow.laid W) : Tab W ∧ Errs W := by
  have h : laidMet Tryz.prog Rows.parseBracketsRow.laid W := h; exact ⟨tab_head h.tail.tail, laid_iface h.tail.tail.tail.tail (by kernel_rfl) (by kernel_rfl) Tryz.underlying128, laid_iface h.tail.tail.tail (by kernel_rfl) (by kernel_rfl) Tryz.underlying128⟩
theorem brackets_law (s : ByteArray) (a : Int) (w : World) (hm : s.size ≤ maxLen) (h : Tab w ∧ Errs w) : Calls Tryz.prog 5 #[.string s, .int .i64 a] w (Lived w) := brackets_any s a w hm h.1 h.2
end Go.Proofs.YtoajfnfhphoaeaaGreatDoor
