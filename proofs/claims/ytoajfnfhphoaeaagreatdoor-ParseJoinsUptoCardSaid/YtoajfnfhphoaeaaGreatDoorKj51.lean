/-
  Texts joined.
-/
import Derived.Deep.RegionHeld3
import Derived.Test.YtoajfnfhphoaeaaGreatDoorKj17
import Derived.Test.YtoajfnfhphoaeaaGreatDoorKj23
import Derived.Test.YtoajfnfhphoaeaaGreatDoorKj47
import Derived.Test.YtoajfnfhphoaeaaGreatDoorKj49
import Derived.Test.YtoajfnfhphoaeaaGreatDoorKj50
namespace Go.Proofs.YtoajfnfhphoaeaaGreatDoor
open Go.RowKit
theorem strJ (a b : Tx) : str a ++ str b = str (a ++ b) := by
  apply ByteArray.ext; rw [ByteArray.data_append]; simp [str]
theorem join_str (a b : Tx) : str a ++ ({ data := #[10] } : ByteArray) ++ str b = str (a ++ 10 :: b) := by
  rw [show ({ data := #[10] } : ByteArray) = str [10] from rfl, strJ, strJ]; simp
theorem ansP_shape {r : QProg ⊕ Flt} {w w' : World} {e : Ending} (h : WAns RProgV noneProgV r w e w') : ∃ A1 n1 k1 A2 n2 k2 a b c, e = .returned (.tuple #[.agg #[.slice A1 n1 k1, .slice A2 n2 k2], .agg #[.int .i64 a, .int .i64 b, .int .i64 c]]) := by
  obtain ⟨_, h⟩ := h; cases r with
  | inl x =>
    obtain ⟨v, e, L, rfl, hL⟩ := h; obtain ⟨_, _, _, _, _, _, rfl⟩ := hL.shape; exact ⟨_, _, _, _, _, _, _, _, _, e⟩
  | inr f => exact ⟨_, _, _, _, _, _, _, _, _, h⟩
theorem wrapJ (n : Int) (h0 : 0 ≤ n) (h1 : n ≤ 1000) : IntKind.i64.wrap n = n := by simp [IntKind.wrap, IntKind.bits, IntKind.signed]; omega
theorem prog_shapeL {w : World} {L : List Value} {p : QProg} (h : ProgAt w L p) : ∃ A1 k1 A2 k2, L = [.slice A1 p.enums.length k1, .slice A2 p.nodes.length k2] := by
  obtain ⟨ev, nv, rfl, ⟨A, c, rfl, _⟩, ⟨B, d, rfl, _⟩⟩ := h; exact ⟨A, c, B, d, rfl⟩
set_option maxHeartbeats 2000000 in
set_option maxRecDepth 100000 in
theorem join_badA {a b : Tx} {f : Flt} (hp : parseR a = .inr f) {w : World} (ha : a.length ≤ 1048576) (hb : b.length ≤ 1048576) (htab : Tab w) (herr : Errs w) : Calls Tryz.prog 7 #[.string (str a), .string (str b)] w (Lived w) := by
  have HP := Lib.hid hp; have h0 := parseR_flt hp; have h1 : (f.1 != 0) = true := (by simp [h0]); obtain ⟨a1, b1, c1⟩ := f; clear hp; have HTB := Lib.hid htab; have HER := Lib.hid herr; have HMA := Lib.hid (show a.length ≤ maxLen by unfold maxLen; omega); have HMB := Lib.hid (show b.length ≤ maxLen by unfold maxLen; omega); have hz1 : ¬ 9223372036854775807 < (str a).size + ({ data := #[10] } : ByteArray).size := by
    have h1 : ({ data := #[10] } : ByteArray).size = 1 := rfl; rw [str_size, h1]; omega
  have hz2 : ¬ 9223372036854775807 < (str a ++ ({ data := #[10] } : ByteArray)).size + (str b).size := by
    rw [show ({ data := #[10] } : ByteArray) = str [10] from rfl, strJ, str_size, str_size]; simp only [List.length_append, List.length_cons, List.length_nil]; omega
  have hjs := join_str a b; obtain ⟨T, hT⟩ : ∃ T, T = a ++ 10 :: b := ⟨_, rfl⟩; rw [← hT] at hjs; have heq0 := eq_flt 0 0 0; clear htab herr ha hb; clear hT; go_enter Tryz.func7, Tryz.ntmps7
  go_wp2_with (first
    | (go_at_call 8; (with_reducible refine (liv_any _ HTB.out HER.out).mono ?_); rintro e w1 ⟨rfl, hb1⟩; have HB1 := Lib.hid hb1; clear hb1)
    | (go_at_call 10; (with_reducible refine (parse_call _ _ HMB.out (HER.out.under HBa.out)).mono ?_); intro e w3 h3; obtain ⟨A1b, n1b, k1b, A2b, n2b, k2b, f1b, f2b, f3b, h8⟩ := ansP_shape h3; subst h8; have hb3 := h3.1; obtain ⟨Vb, rfl⟩ : ∃ W, W = w3 := ⟨_, rfl⟩; obtain ⟨d1, d2⟩ := two_alloc (w := Vb) (A := .cells #[.slice A1b n1b k1b, .slice A2b n2b k2b] 25) (C := .cells #[.int .i64 f1b, .int .i64 f2b, .int .i64 f3b] 31); have HVb := Lib.hid (((Below.refl Vb.heap.size Vb).alloc (Nat.le_refl _) (.cells #[.slice A1b n1b k1b, .slice A2b n2b k2b] 25)).alloc (by simp) (.cells #[.int .i64 f1b, .int .i64 f2b, .int .i64 f3b] 31)); have HBb := Lib.hid ((HBa.out.trans (hb3.mono HBa.out.size)).trans (HVb.out.mono (HBa.out.trans (hb3.mono HBa.out.size)).size)); obtain ⟨u0b, u1b, u2b⟩ := row3 d2; obtain ⟨u0a, u1a, u2a⟩ := row3 (box_next HVb.out (box_next hb3 BFa.out)); clear hb3 d1 d2)
    | (go_at_call 10; (with_reducible refine (parse_badc HP.out _ HMA.out (HER.out.under HB1.out)).mono ?_); rintro e w3 ⟨hb3, rfl⟩; obtain ⟨Va, rfl⟩ : ∃ W, W = w3 := ⟨_, rfl⟩; obtain ⟨d1, d2⟩ := two_alloc (w := Va) (A := .cells #[.slice none 0 0, .slice none 0 0] 25) (C := .cells #[.int .i64 a1, .int .i64 b1, .int .i64 c1] 31); have HVa := Lib.hid (((Below.refl Va.heap.size Va).alloc (Nat.le_refl _) (.cells #[.slice none 0 0, .slice none 0 0] 25)).alloc (by simp) (.cells #[.int .i64 a1, .int .i64 b1, .int .i64 c1] 31)); have HBa := Lib.hid ((HB1.out.trans (hb3.mono HB1.out.size)).trans (HVa.out.mono (HB1.out.trans (hb3.mono HB1.out.size)).size)); have BFa := Lib.hid d2; obtain ⟨u0a, u1a, u2a⟩ := row3 d2; clear hb3 d1 d2))
  go_ret; exact ⟨rfl, HBb.out⟩
set_option maxHeartbeats 2000000 in
set_option maxRecDepth 100000 in
theorem join_badB {a b : Tx} {p : QProg} {f : Flt} (hp : parseR a = .inl p) (hq : parseR b = .inr f) {w : World} (ha : a.length ≤ 1048576) (hb : b.length ≤ 1048576) (htab : Tab w) (herr : Errs w) : Calls Tryz.prog 7 #[.string (str a), .string (str b)] w (Lived w) := by
  have HP := Lib.hid hp; have HQ := Lib.hid hq; have h0 := parseR_flt hq; have h1 : (f.1 != 0) = true := (by simp [h0]); obtain ⟨a1, b1, c1⟩ := f; clear hp hq; have HTB := Lib.hid htab; have HER := Lib.hid herr; have HMA := Lib.hid (show a.length ≤ maxLen by unfold maxLen; omega); have HMB := Lib.hid (show b.length ≤ maxLen by unfold maxLen; omega); have hz1 : ¬ 9223372036854775807 < (str a).size + ({ data := #[10] } : ByteArray).size := by
    have h1 : ({ data := #[10] } : ByteArray).size = 1 := rfl; rw [str_size, h1]; omega
  have hz2 : ¬ 9223372036854775807 < (str a ++ ({ data := #[10] } : ByteArray)).size + (str b).size := by
    rw [show ({ data := #[10] } : ByteArray) = str [10] from rfl, strJ, str_size, str_size]; simp only [List.length_append, List.length_cons, List.length_nil]; omega
  have hjs := join_str a b; obtain ⟨T, hT⟩ : ∃ T, T = a ++ 10 :: b := ⟨_, rfl⟩; rw [← hT] at hjs; have heq0 := eq_flt 0 0 0; clear htab herr ha hb; clear hT; go_enter Tryz.func7, Tryz.ntmps7
  go_wp2_with (first
    | (go_at_call 8; (with_reducible refine (liv_any _ HTB.out HER.out).mono ?_); rintro e w1 ⟨rfl, hb1⟩; have HB1 := Lib.hid hb1; clear hb1)
    | (go_at_call 10; (with_reducible refine (parse_badc HQ.out _ HMB.out (HER.out.under HBa.out)).mono ?_); rintro e w3 ⟨hb3, rfl⟩; obtain ⟨Vb, rfl⟩ : ∃ W, W = w3 := ⟨_, rfl⟩; obtain ⟨d1, d2⟩ := two_alloc (w := Vb) (A := .cells #[.slice none 0 0, .slice none 0 0] 25) (C := .cells #[.int .i64 a1, .int .i64 b1, .int .i64 c1] 31); have HVb := Lib.hid (((Below.refl Vb.heap.size Vb).alloc (Nat.le_refl _) (.cells #[.slice none 0 0, .slice none 0 0] 25)).alloc (by simp) (.cells #[.int .i64 a1, .int .i64 b1, .int .i64 c1] 31)); have HBb := Lib.hid ((HBa.out.trans (hb3.mono HBa.out.size)).trans (HVb.out.mono (HBa.out.trans (hb3.mono HBa.out.size)).size)); have BFb := Lib.hid d2; obtain ⟨u0b, u1b, u2b⟩ := row3 d2; obtain ⟨u0a, u1a, u2a⟩ := row3 (box_next HVb.out (box_next hb3 BFa.out)); clear hb3 d1 d2)
    | (go_at_call 10; (with_reducible refine (parse_okc HP.out _ HMA.out (HER.out.under HB1.out)).mono ?_); intro e w3 h3; obtain ⟨v, h8, M, h9, hM0⟩ := h3.2; subst h8; subst h9; have hM := hM0.sub (new_sub _ _); obtain ⟨A1a, k1a, A2a, k2a, rfl⟩ := prog_shapeL hM; have hb3 := h3.1; obtain ⟨Va, rfl⟩ : ∃ W, W = w3 := ⟨_, rfl⟩; have HLa := Lib.hid hM; obtain ⟨d1, d2⟩ := two_alloc (w := Va) (A := .cells #[.slice A1a p.enums.length k1a, .slice A2a p.nodes.length k2a] 25) (C := .cells #[.int .i64 0, .int .i64 0, .int .i64 0] 31); have HVa := Lib.hid (((Below.refl Va.heap.size Va).alloc (Nat.le_refl _) (.cells #[.slice A1a p.enums.length k1a, .slice A2a p.nodes.length k2a] 25)).alloc (by simp) (.cells #[.int .i64 0, .int .i64 0, .int .i64 0] 31)); have HXa := Lib.hid hb3; have HBa := Lib.hid ((HB1.out.trans (hb3.mono HB1.out.size)).trans (HVa.out.mono (HB1.out.trans (hb3.mono HB1.out.size)).size)); have BPa := Lib.hid d1; have BFa := Lib.hid d2; obtain ⟨z0a, z1a⟩ := row2 d1; obtain ⟨u0a, u1a, u2a⟩ := row3 d2; clear h3 hM0 hM hb3 d1 d2))
  go_ret; exact ⟨rfl, HBb.out⟩
theorem parse_bnd {s : Tx} {p : QProg} (h : parseR s = .inl p) : p.enums.length ≤ 8 ∧ p.nodes.length ≤ 16 := by
  have h1 := right_of_0 (parseR_got h).1; simp only [rightP, allM, Bool.and_eq_true, decide_eq_true_eq] at h1; exact ⟨h1.1.1.2, h1.2.1.2⟩
set_option maxHeartbeats 2000000 in
set_option maxRecDepth 100000 in
theorem join_big {a b : Tx} {p q : QProg} (hp : parseR a = .inl p) (hq : parseR b = .inl q) (hbig : 65536 < (a ++ 10 :: b).length) {w : World} (ha : a.length ≤ 1048576) (hb : b.length ≤ 1048576) (htab : Tab w) (herr : Errs w) : Calls Tryz.prog 7 #[.string (str a), .string (str b)] w (Lived w) := by
  have HP := Lib.hid hp; have HQ := Lib.hid hq; have HEB := Lib.hid (parse_bnd hp); have HFB := Lib.hid (parse_bnd hq); have hw1 : IntKind.i64.wrap ((p.enums.length : Int) + (q.enums.length : Int)) = (p.enums.length : Int) + (q.enums.length : Int) := by
    have h1 := (parse_bnd hp).1; have h2 := (parse_bnd hq).1; exact wrapJ _ (by omega) (by omega)
  have hw2 : IntKind.i64.wrap ((p.nodes.length : Int) + (q.nodes.length : Int)) = (p.nodes.length : Int) + (q.nodes.length : Int) := by
    have h1 := (parse_bnd hp).2; have h2 := (parse_bnd hq).2; exact wrapJ _ (by omega) (by omega)
  clear hp hq; have HTB := Lib.hid htab; have HER := Lib.hid herr; have HMA := Lib.hid (show a.length ≤ maxLen by unfold maxLen; omega); have HMB := Lib.hid (show b.length ≤ maxLen by unfold maxLen; omega); have hz1 : ¬ 9223372036854775807 < (str a).size + ({ data := #[10] } : ByteArray).size := by
    have h1 : ({ data := #[10] } : ByteArray).size = 1 := rfl; rw [str_size, h1]; omega
  have hz2 : ¬ 9223372036854775807 < (str a ++ ({ data := #[10] } : ByteArray)).size + (str b).size := by
    rw [show ({ data := #[10] } : ByteArray) = str [10] from rfl, strJ, str_size, str_size]; simp only [List.length_append, List.length_cons, List.length_nil]; omega
  have hjs := join_str a b; obtain ⟨T, hT⟩ : ∃ T, T = a ++ 10 :: b := ⟨_, rfl⟩; rw [← hT] at hjs; have heq0 := eq_flt 0 0 0; clear htab herr ha hb; have hbig' : (65536 : Int) < ((str T).size : Int) := (by rw [str_size, hT]; omega); clear hbig hT; go_enter Tryz.func7, Tryz.ntmps7
  go_wp2_with (first
    | (go_at_call 8; (with_reducible refine (liv_any _ HTB.out HER.out).mono ?_); rintro e w1 ⟨rfl, hb1⟩; have HB1 := Lib.hid hb1; clear hb1)
    | (go_at_call 10; (with_reducible refine (parse_okc HQ.out _ HMB.out (HER.out.under HBa.out)).mono ?_); intro e w3 h3; obtain ⟨v, h8, M, h9, hM0⟩ := h3.2; subst h8; subst h9; have hM := hM0.sub (new_sub _ _); obtain ⟨A1b, k1b, A2b, k2b, rfl⟩ := prog_shapeL hM; have hb3 := h3.1; obtain ⟨Vb, rfl⟩ : ∃ W, W = w3 := ⟨_, rfl⟩; have HLb := Lib.hid hM; obtain ⟨d1, d2⟩ := two_alloc (w := Vb) (A := .cells #[.slice A1b q.enums.length k1b, .slice A2b q.nodes.length k2b] 25) (C := .cells #[.int .i64 0, .int .i64 0, .int .i64 0] 31); have HVb := Lib.hid (((Below.refl Vb.heap.size Vb).alloc (Nat.le_refl _) (.cells #[.slice A1b q.enums.length k1b, .slice A2b q.nodes.length k2b] 25)).alloc (by simp) (.cells #[.int .i64 0, .int .i64 0, .int .i64 0] 31)); have HXb := Lib.hid hb3; have HBb := Lib.hid ((HBa.out.trans (hb3.mono HBa.out.size)).trans (HVb.out.mono (HBa.out.trans (hb3.mono HBa.out.size)).size)); have BPb := Lib.hid d1; have BFb := Lib.hid d2; obtain ⟨z0b, z1b⟩ := row2 d1; obtain ⟨u0b, u1b, u2b⟩ := row3 d2; obtain ⟨z0a, z1a⟩ := row2 (box_next HVb.out (box_next hb3 BPa.out)); obtain ⟨u0a, u1a, u2a⟩ := row3 (box_next HVb.out (box_next hb3 BFa.out)); have CPa := Lib.hid (box_next HVb.out (box_next hb3 BPa.out)); have HWa := Lib.hid (HVa.out.trans ((hb3.mono HVa.out.size).trans (HVb.out.mono (Nat.le_trans HVa.out.size hb3.size)))); clear h3 hM0 hM hb3 d1 d2)
    | (go_at_call 10; (with_reducible refine (parse_okc HP.out _ HMA.out (HER.out.under HB1.out)).mono ?_); intro e w3 h3; obtain ⟨v, h8, M, h9, hM0⟩ := h3.2; subst h8; subst h9; have hM := hM0.sub (new_sub _ _); obtain ⟨A1a, k1a, A2a, k2a, rfl⟩ := prog_shapeL hM; have hb3 := h3.1; obtain ⟨Va, rfl⟩ : ∃ W, W = w3 := ⟨_, rfl⟩; have HLa := Lib.hid hM; obtain ⟨d1, d2⟩ := two_alloc (w := Va) (A := .cells #[.slice A1a p.enums.length k1a, .slice A2a p.nodes.length k2a] 25) (C := .cells #[.int .i64 0, .int .i64 0, .int .i64 0] 31); have HVa := Lib.hid (((Below.refl Va.heap.size Va).alloc (Nat.le_refl _) (.cells #[.slice A1a p.enums.length k1a, .slice A2a p.nodes.length k2a] 25)).alloc (by simp) (.cells #[.int .i64 0, .int .i64 0, .int .i64 0] 31)); have HXa := Lib.hid hb3; have HBa := Lib.hid ((HB1.out.trans (hb3.mono HB1.out.size)).trans (HVa.out.mono (HB1.out.trans (hb3.mono HB1.out.size)).size)); have BPa := Lib.hid d1; have BFa := Lib.hid d2; obtain ⟨z0a, z1a⟩ := row2 d1; obtain ⟨u0a, u1a, u2a⟩ := row3 d2; clear h3 hM0 hM hb3 d1 d2))
  go_ret; exact ⟨rfl, HBb.out⟩
set_option maxHeartbeats 2000000 in
set_option maxRecDepth 100000 in
theorem join_enums {a b : Tx} {p q : QProg} (hp : parseR a = .inl p) (hq : parseR b = .inl q) (hbig : (a ++ 10 :: b).length ≤ 65536) (he : 8 < p.enums.length + q.enums.length) {w : World} (ha : a.length ≤ 1048576) (hb : b.length ≤ 1048576) (htab : Tab w) (herr : Errs w) : Calls Tryz.prog 7 #[.string (str a), .string (str b)] w (Lived w) := by
  have HP := Lib.hid hp; have HQ := Lib.hid hq; have HEB := Lib.hid (parse_bnd hp); have HFB := Lib.hid (parse_bnd hq); have hw1 : IntKind.i64.wrap ((p.enums.length : Int) + (q.enums.length : Int)) = (p.enums.length : Int) + (q.enums.length : Int) := by
    have h1 := (parse_bnd hp).1; have h2 := (parse_bnd hq).1; exact wrapJ _ (by omega) (by omega)
  have hw2 : IntKind.i64.wrap ((p.nodes.length : Int) + (q.nodes.length : Int)) = (p.nodes.length : Int) + (q.nodes.length : Int) := by
    have h1 := (parse_bnd hp).2; have h2 := (parse_bnd hq).2; exact wrapJ _ (by omega) (by omega)
  clear hp hq; have HTB := Lib.hid htab; have HER := Lib.hid herr; have HMA := Lib.hid (show a.length ≤ maxLen by unfold maxLen; omega); have HMB := Lib.hid (show b.length ≤ maxLen by unfold maxLen; omega); have hz1 : ¬ 9223372036854775807 < (str a).size + ({ data := #[10] } : ByteArray).size := by
    have h1 : ({ data := #[10] } : ByteArray).size = 1 := rfl; rw [str_size, h1]; omega
  have hz2 : ¬ 9223372036854775807 < (str a ++ ({ data := #[10] } : ByteArray)).size + (str b).size := by
    rw [show ({ data := #[10] } : ByteArray) = str [10] from rfl, strJ, str_size, str_size]; simp only [List.length_append, List.length_cons, List.length_nil]; omega
  have hjs := join_str a b; obtain ⟨T, hT⟩ : ∃ T, T = a ++ 10 :: b := ⟨_, rfl⟩; rw [← hT] at hjs; have heq0 := eq_flt 0 0 0; clear htab herr ha hb; have hsm : ¬ (65536 : Int) < ((str T).size : Int) := (by rw [str_size, hT]; omega); have hes : (8 : Int) < (p.enums.length : Int) + (q.enums.length : Int) := (by omega); clear hbig hT he; go_enter Tryz.func7, Tryz.ntmps7
  go_wp2_with (first
    | (go_at_call 8; (with_reducible refine (liv_any _ HTB.out HER.out).mono ?_); rintro e w1 ⟨rfl, hb1⟩; have HB1 := Lib.hid hb1; clear hb1)
    | (go_at_call 10; (with_reducible refine (parse_okc HQ.out _ HMB.out (HER.out.under HBa.out)).mono ?_); intro e w3 h3; obtain ⟨v, h8, M, h9, hM0⟩ := h3.2; subst h8; subst h9; have hM := hM0.sub (new_sub _ _); obtain ⟨A1b, k1b, A2b, k2b, rfl⟩ := prog_shapeL hM; have hb3 := h3.1; obtain ⟨Vb, rfl⟩ : ∃ W, W = w3 := ⟨_, rfl⟩; have HLb := Lib.hid hM; obtain ⟨d1, d2⟩ := two_alloc (w := Vb) (A := .cells #[.slice A1b q.enums.length k1b, .slice A2b q.nodes.length k2b] 25) (C := .cells #[.int .i64 0, .int .i64 0, .int .i64 0] 31); have HVb := Lib.hid (((Below.refl Vb.heap.size Vb).alloc (Nat.le_refl _) (.cells #[.slice A1b q.enums.length k1b, .slice A2b q.nodes.length k2b] 25)).alloc (by simp) (.cells #[.int .i64 0, .int .i64 0, .int .i64 0] 31)); have HXb := Lib.hid hb3; have HBb := Lib.hid ((HBa.out.trans (hb3.mono HBa.out.size)).trans (HVb.out.mono (HBa.out.trans (hb3.mono HBa.out.size)).size)); have BPb := Lib.hid d1; have BFb := Lib.hid d2; obtain ⟨z0b, z1b⟩ := row2 d1; obtain ⟨u0b, u1b, u2b⟩ := row3 d2; obtain ⟨z0a, z1a⟩ := row2 (box_next HVb.out (box_next hb3 BPa.out)); obtain ⟨u0a, u1a, u2a⟩ := row3 (box_next HVb.out (box_next hb3 BFa.out)); have CPa := Lib.hid (box_next HVb.out (box_next hb3 BPa.out)); have HWa := Lib.hid (HVa.out.trans ((hb3.mono HVa.out.size).trans (HVb.out.mono (Nat.le_trans HVa.out.size hb3.size)))); clear h3 hM0 hM hb3 d1 d2)
    | (go_at_call 10; (with_reducible refine (parse_okc HP.out _ HMA.out (HER.out.under HB1.out)).mono ?_); intro e w3 h3; obtain ⟨v, h8, M, h9, hM0⟩ := h3.2; subst h8; subst h9; have hM := hM0.sub (new_sub _ _); obtain ⟨A1a, k1a, A2a, k2a, rfl⟩ := prog_shapeL hM; have hb3 := h3.1; obtain ⟨Va, rfl⟩ : ∃ W, W = w3 := ⟨_, rfl⟩; have HLa := Lib.hid hM; obtain ⟨d1, d2⟩ := two_alloc (w := Va) (A := .cells #[.slice A1a p.enums.length k1a, .slice A2a p.nodes.length k2a] 25) (C := .cells #[.int .i64 0, .int .i64 0, .int .i64 0] 31); have HVa := Lib.hid (((Below.refl Va.heap.size Va).alloc (Nat.le_refl _) (.cells #[.slice A1a p.enums.length k1a, .slice A2a p.nodes.length k2a] 25)).alloc (by simp) (.cells #[.int .i64 0, .int .i64 0, .int .i64 0] 31)); have HXa := Lib.hid hb3; have HBa := Lib.hid ((HB1.out.trans (hb3.mono HB1.out.size)).trans (HVa.out.mono (HB1.out.trans (hb3.mono HB1.out.size)).size)); have BPa := Lib.hid d1; have BFa := Lib.hid d2; obtain ⟨z0a, z1a⟩ := row2 d1; obtain ⟨u0a, u1a, u2a⟩ := row3 d2; clear h3 hM0 hM hb3 d1 d2))
  go_ret; exact ⟨rfl, HBb.out⟩
set_option maxHeartbeats 2000000 in
set_option maxRecDepth 100000 in
theorem join_nodes {a b : Tx} {p q : QProg} (hp : parseR a = .inl p) (hq : parseR b = .inl q) (hbig : (a ++ 10 :: b).length ≤ 65536) (he : p.enums.length + q.enums.length ≤ 8) (hn : 16 < p.nodes.length + q.nodes.length) {w : World} (ha : a.length ≤ 1048576) (hb : b.length ≤ 1048576) (htab : Tab w) (herr : Errs w) : Calls Tryz.prog 7 #[.string (str a), .string (str b)] w (Lived w) := by
  have HP := Lib.hid hp; have HQ := Lib.hid hq; have HEB := Lib.hid (parse_bnd hp); have HFB := Lib.hid (parse_bnd hq); have hw1 : IntKind.i64.wrap ((p.enums.length : Int) + (q.enums.length : Int)) = (p.enums.length : Int) + (q.enums.length : Int) := by
    have h1 := (parse_bnd hp).1; have h2 := (parse_bnd hq).1; exact wrapJ _ (by omega) (by omega)
  have hw2 : IntKind.i64.wrap ((p.nodes.length : Int) + (q.nodes.length : Int)) = (p.nodes.length : Int) + (q.nodes.length : Int) := by
    have h1 := (parse_bnd hp).2; have h2 := (parse_bnd hq).2; exact wrapJ _ (by omega) (by omega)
  clear hp hq; have HTB := Lib.hid htab; have HER := Lib.hid herr; have HMA := Lib.hid (show a.length ≤ maxLen by unfold maxLen; omega); have HMB := Lib.hid (show b.length ≤ maxLen by unfold maxLen; omega); have hz1 : ¬ 9223372036854775807 < (str a).size + ({ data := #[10] } : ByteArray).size := by
    have h1 : ({ data := #[10] } : ByteArray).size = 1 := rfl; rw [str_size, h1]; omega
  have hz2 : ¬ 9223372036854775807 < (str a ++ ({ data := #[10] } : ByteArray)).size + (str b).size := by
    rw [show ({ data := #[10] } : ByteArray) = str [10] from rfl, strJ, str_size, str_size]; simp only [List.length_append, List.length_cons, List.length_nil]; omega
  have hjs := join_str a b; obtain ⟨T, hT⟩ : ∃ T, T = a ++ 10 :: b := ⟨_, rfl⟩; rw [← hT] at hjs; have heq0 := eq_flt 0 0 0; clear htab herr ha hb; have hsm : ¬ (65536 : Int) < ((str T).size : Int) := (by rw [str_size, hT]; omega); have hes : ¬ (8 : Int) < (p.enums.length : Int) + (q.enums.length : Int) := (by omega); have hns : (16 : Int) < (p.nodes.length : Int) + (q.nodes.length : Int) := (by omega); clear hbig hT he hn; go_enter Tryz.func7, Tryz.ntmps7
  go_wp2_with (first
    | (go_at_call 8; (with_reducible refine (liv_any _ HTB.out HER.out).mono ?_); rintro e w1 ⟨rfl, hb1⟩; have HB1 := Lib.hid hb1; clear hb1)
    | (go_at_call 10; (with_reducible refine (parse_okc HQ.out _ HMB.out (HER.out.under HBa.out)).mono ?_); intro e w3 h3; obtain ⟨v, h8, M, h9, hM0⟩ := h3.2; subst h8; subst h9; have hM := hM0.sub (new_sub _ _); obtain ⟨A1b, k1b, A2b, k2b, rfl⟩ := prog_shapeL hM; have hb3 := h3.1; obtain ⟨Vb, rfl⟩ : ∃ W, W = w3 := ⟨_, rfl⟩; have HLb := Lib.hid hM; obtain ⟨d1, d2⟩ := two_alloc (w := Vb) (A := .cells #[.slice A1b q.enums.length k1b, .slice A2b q.nodes.length k2b] 25) (C := .cells #[.int .i64 0, .int .i64 0, .int .i64 0] 31); have HVb := Lib.hid (((Below.refl Vb.heap.size Vb).alloc (Nat.le_refl _) (.cells #[.slice A1b q.enums.length k1b, .slice A2b q.nodes.length k2b] 25)).alloc (by simp) (.cells #[.int .i64 0, .int .i64 0, .int .i64 0] 31)); have HXb := Lib.hid hb3; have HBb := Lib.hid ((HBa.out.trans (hb3.mono HBa.out.size)).trans (HVb.out.mono (HBa.out.trans (hb3.mono HBa.out.size)).size)); have BPb := Lib.hid d1; have BFb := Lib.hid d2; obtain ⟨z0b, z1b⟩ := row2 d1; obtain ⟨u0b, u1b, u2b⟩ := row3 d2; obtain ⟨z0a, z1a⟩ := row2 (box_next HVb.out (box_next hb3 BPa.out)); obtain ⟨u0a, u1a, u2a⟩ := row3 (box_next HVb.out (box_next hb3 BFa.out)); have CPa := Lib.hid (box_next HVb.out (box_next hb3 BPa.out)); have HWa := Lib.hid (HVa.out.trans ((hb3.mono HVa.out.size).trans (HVb.out.mono (Nat.le_trans HVa.out.size hb3.size)))); clear h3 hM0 hM hb3 d1 d2)
    | (go_at_call 10; (with_reducible refine (parse_okc HP.out _ HMA.out (HER.out.under HB1.out)).mono ?_); intro e w3 h3; obtain ⟨v, h8, M, h9, hM0⟩ := h3.2; subst h8; subst h9; have hM := hM0.sub (new_sub _ _); obtain ⟨A1a, k1a, A2a, k2a, rfl⟩ := prog_shapeL hM; have hb3 := h3.1; obtain ⟨Va, rfl⟩ : ∃ W, W = w3 := ⟨_, rfl⟩; have HLa := Lib.hid hM; obtain ⟨d1, d2⟩ := two_alloc (w := Va) (A := .cells #[.slice A1a p.enums.length k1a, .slice A2a p.nodes.length k2a] 25) (C := .cells #[.int .i64 0, .int .i64 0, .int .i64 0] 31); have HVa := Lib.hid (((Below.refl Va.heap.size Va).alloc (Nat.le_refl _) (.cells #[.slice A1a p.enums.length k1a, .slice A2a p.nodes.length k2a] 25)).alloc (by simp) (.cells #[.int .i64 0, .int .i64 0, .int .i64 0] 31)); have HXa := Lib.hid hb3; have HBa := Lib.hid ((HB1.out.trans (hb3.mono HB1.out.size)).trans (HVa.out.mono (HB1.out.trans (hb3.mono HB1.out.size)).size)); have BPa := Lib.hid d1; have BFa := Lib.hid d2; obtain ⟨z0a, z1a⟩ := row2 d1; obtain ⟨u0a, u1a, u2a⟩ := row3 d2; clear h3 hM0 hM hb3 d1 d2))
  go_ret; exact ⟨rfl, HBb.out⟩
set_option maxHeartbeats 2000000 in
set_option maxRecDepth 100000 in
theorem join_main {a b : Tx} {p q : QProg} (hp : parseR a = .inl p) (hq : parseR b = .inl q) (hbig : (a ++ 10 :: b).length ≤ 65536) (he : p.enums.length + q.enums.length ≤ 8) (hn : p.nodes.length + q.nodes.length ≤ 16) {w : World} (ha : a.length ≤ 1048576) (hb : b.length ≤ 1048576) (htab : Tab w) (herr : Errs w) : Calls Tryz.prog 7 #[.string (str a), .string (str b)] w (Lived w) := by
  have HPJ := Lib.hid (parse_join hp hq hbig he hn); have HP := Lib.hid hp; have HQ := Lib.hid hq; have HEB := Lib.hid (parse_bnd hp); have HFB := Lib.hid (parse_bnd hq); have hw1 : IntKind.i64.wrap ((p.enums.length : Int) + (q.enums.length : Int)) = (p.enums.length : Int) + (q.enums.length : Int) := by
    have h1 := (parse_bnd hp).1; have h2 := (parse_bnd hq).1; exact wrapJ _ (by omega) (by omega)
  have hw2 : IntKind.i64.wrap ((p.nodes.length : Int) + (q.nodes.length : Int)) = (p.nodes.length : Int) + (q.nodes.length : Int) := by
    have h1 := (parse_bnd hp).2; have h2 := (parse_bnd hq).2; exact wrapJ _ (by omega) (by omega)
  clear hp hq; have HTB := Lib.hid htab; have HER := Lib.hid herr; have HMA := Lib.hid (show a.length ≤ maxLen by unfold maxLen; omega); have HMB := Lib.hid (show b.length ≤ maxLen by unfold maxLen; omega); have hz1 : ¬ 9223372036854775807 < (str a).size + ({ data := #[10] } : ByteArray).size := by
    have h1 : ({ data := #[10] } : ByteArray).size = 1 := rfl; rw [str_size, h1]; omega
  have hz2 : ¬ 9223372036854775807 < (str a ++ ({ data := #[10] } : ByteArray)).size + (str b).size := by
    rw [show ({ data := #[10] } : ByteArray) = str [10] from rfl, strJ, str_size, str_size]; simp only [List.length_append, List.length_cons, List.length_nil]; omega
  have hjs := join_str a b; obtain ⟨T, hT⟩ : ∃ T, T = a ++ 10 :: b := ⟨_, rfl⟩; rw [← hT] at hjs; have heq0 := eq_flt 0 0 0; clear htab herr ha hb; have hsm : ¬ (65536 : Int) < ((str T).size : Int) := (by rw [str_size, hT]; omega); have hes : ¬ (8 : Int) < (p.enums.length : Int) + (q.enums.length : Int) := (by omega); have hns : ¬ (16 : Int) < (p.nodes.length : Int) + (q.nodes.length : Int) := (by omega); have hl1 : p.enums.length ≤ 8 := (by omega); have hl2 : q.enums.length ≤ 8 := (by omega); have hl3 : p.nodes.length ≤ 16 := (by omega); have hl4 : q.nodes.length ≤ 16 := (by omega); have HMT := Lib.hid (show T.length ≤ maxLen by rw [hT]; unfold maxLen; omega); have hpp : sameQProg (⟨p.enums ++ q.enums, p.nodes ++ q.nodes⟩ : QProg) ⟨p.enums ++ q.enums, p.nodes ++ q.nodes⟩ = true := (sameQProg_iff _ _).2 rfl; rw [← hT] at HPJ; clear hbig hT he hn; go_enter Tryz.func7, Tryz.ntmps7
  go_wp2_with (first
    | (go_at_call 8; (with_reducible refine (liv_any _ HTB.out HER.out).mono ?_); rintro e w1 ⟨rfl, hb1⟩; have HB1 := Lib.hid hb1; clear hb1)
    | (go_at_call 10; (with_reducible refine (parse_okc HQ.out _ HMB.out (HER.out.under HBa.out)).mono ?_); intro e w3 h3; obtain ⟨v, h8, M, h9, hM0⟩ := h3.2; subst h8; subst h9; have hM := hM0.sub (new_sub _ _); obtain ⟨A1b, k1b, A2b, k2b, rfl⟩ := prog_shapeL hM; have hb3 := h3.1; obtain ⟨Vb, rfl⟩ : ∃ W, W = w3 := ⟨_, rfl⟩; have HLb := Lib.hid hM; obtain ⟨d1, d2⟩ := two_alloc (w := Vb) (A := .cells #[.slice A1b q.enums.length k1b, .slice A2b q.nodes.length k2b] 25) (C := .cells #[.int .i64 0, .int .i64 0, .int .i64 0] 31); have HVb := Lib.hid (((Below.refl Vb.heap.size Vb).alloc (Nat.le_refl _) (.cells #[.slice A1b q.enums.length k1b, .slice A2b q.nodes.length k2b] 25)).alloc (by simp) (.cells #[.int .i64 0, .int .i64 0, .int .i64 0] 31)); have HXb := Lib.hid hb3; have HBb := Lib.hid ((HBa.out.trans (hb3.mono HBa.out.size)).trans (HVb.out.mono (HBa.out.trans (hb3.mono HBa.out.size)).size)); have BPb := Lib.hid d1; have BFb := Lib.hid d2; obtain ⟨z0b, z1b⟩ := row2 d1; obtain ⟨u0b, u1b, u2b⟩ := row3 d2; obtain ⟨z0a, z1a⟩ := row2 (box_next HVb.out (box_next hb3 BPa.out)); obtain ⟨u0a, u1a, u2a⟩ := row3 (box_next HVb.out (box_next hb3 BFa.out)); have CPa := Lib.hid (box_next HVb.out (box_next hb3 BPa.out)); have HWa := Lib.hid (HVa.out.trans ((hb3.mono HVa.out.size).trans (HVb.out.mono (Nat.le_trans HVa.out.size hb3.size)))); clear h3 hM0 hM hb3 d1 d2)
    | (go_at_call 10; (with_reducible refine (parse_okc HP.out _ HMA.out (HER.out.under HB1.out)).mono ?_); intro e w3 h3; obtain ⟨v, h8, M, h9, hM0⟩ := h3.2; subst h8; subst h9; have hM := hM0.sub (new_sub _ _); obtain ⟨A1a, k1a, A2a, k2a, rfl⟩ := prog_shapeL hM; have hb3 := h3.1; obtain ⟨Va, rfl⟩ : ∃ W, W = w3 := ⟨_, rfl⟩; have HLa := Lib.hid hM; obtain ⟨d1, d2⟩ := two_alloc (w := Va) (A := .cells #[.slice A1a p.enums.length k1a, .slice A2a p.nodes.length k2a] 25) (C := .cells #[.int .i64 0, .int .i64 0, .int .i64 0] 31); have HVa := Lib.hid (((Below.refl Va.heap.size Va).alloc (Nat.le_refl _) (.cells #[.slice A1a p.enums.length k1a, .slice A2a p.nodes.length k2a] 25)).alloc (by simp) (.cells #[.int .i64 0, .int .i64 0, .int .i64 0] 31)); have HXa := Lib.hid hb3; have HBa := Lib.hid ((HB1.out.trans (hb3.mono HB1.out.size)).trans (HVa.out.mono (HB1.out.trans (hb3.mono HB1.out.size)).size)); have BPa := Lib.hid d1; have BFa := Lib.hid d2; obtain ⟨z0a, z1a⟩ := row2 d1; obtain ⟨u0a, u1a, u2a⟩ := row3 d2; clear h3 hM0 hM hb3 d1 d2))
  have CPV := Lib.hid CPa.out; have CQV := Lib.hid BPb.out; have HPV := Lib.hid (HLa.out.under HWa.out); have HQV := Lib.hid (HLb.out.under HVb.out); have HVW := Lib.hid HBb.out; clear u0a u1a u2a u0b u1b u2b z0a z1a z0b z1b; obtain ⟨V, hV⟩ : ∃ V, V = ((Vb.alloc (.cells #[.slice A1b q.enums.length k1b, .slice A2b q.nodes.length k2b] 25)).alloc (.cells #[.int .i64 0, .int .i64 0, .int .i64 0] 31)) := ⟨_, rfl⟩; rw [← hV] at CPV CQV HPV HQV HVW ⊢; have hsb : Vb.heap.size < V.heap.size := (by rw [hV]; simp; omega); have hsa : Va.heap.size < V.heap.size := lt_of_heap CPV.out; clear hV CPa BPb HLa HLb HWa HVb HBb HBa HXa HXb HVa BFa BFb BPa HB1 HEB HFB; have HEP := Lib.hid (prog_parts HPV.out).1; have HNP := Lib.hid (prog_parts HPV.out).2; have HEQ := Lib.hid (prog_parts HQV.out).1; have HNQ := Lib.hid (prog_parts HQV.out).2; have HJ := Lib.hid (JS.start V); obtain ⟨l0, l1⟩ := row2 CPV.out; obtain ⟨r0, r1⟩ := row2 CQV.out
  go_region_held3 (fun W => W.cell? ⟨Va.heap.size, 0, none⟩ = some (.slice A1a p.enums.length k1a) ∧ W.cell? ⟨Va.heap.size, 1, none⟩ = some (.slice A2a p.nodes.length k2a) ∧ W.cell? ⟨Vb.heap.size, 0, none⟩ = some (.slice A1b q.enums.length k1b) ∧ W.cell? ⟨Vb.heap.size, 1, none⟩ = some (.slice A2b q.nodes.length k2b)) (go_keep) (first
    | (first
         | refine step_enumJ HJ.out HEP.out (by simp <;> omega) rfl _ _ rfl rfl rfl ?_
         | refine step_enumJ HJ.out.drew HEP.out (by simp <;> omega) rfl _ _ rfl rfl rfl ?_
         | refine step_enumJ (HJ.out.alloc _) HEP.out (by simp <;> omega) rfl _ _ rfl rfl rfl ?_
         | refine step_enumJ (HJ.out.drew.alloc _) HEP.out (by simp <;> omega) rfl _ _ rfl rfl rfl ?_
         | refine step_enumJ (HJ.out.alloc _).drew HEP.out (by simp <;> omega) rfl _ _ rfl rfl rfl ?_
       intro A7 m7 c7 w7 h7 hbx; have HJ0 := Lib.hid HJ.out; replace HJ := Lib.hid h7; obtain ⟨l0, l1⟩ := row2 (box_next h7.1 CPV.out); obtain ⟨r0, r1⟩ := row2 (box_next h7.1 CQV.out); first
         | (have hbz := hbx _ [.slice none 0 0, .slice none 0 0] (heap_alloc_new _ _); have HBX := Lib.hid hbz; have hge := HJ0.out.1.size; have hn1 := Nat.ne_of_lt (Nat.lt_of_lt_of_le hsa hge); have hn2 := Nat.ne_of_lt (Nat.lt_of_lt_of_le hsb hge); have hn3 := hn1.symm; have hn4 := hn2.symm; have HGE := Lib.hid hge; clear hge; obtain ⟨s0, s1⟩ := row2 hbz; have fs0 := row_frozen hbz 0; have fs1 := row_frozen hbz 1; clear hbz)
         | (have hbz := hbx _ _ HBX.out; have HBY := Lib.hid hbz; obtain ⟨s0, s1⟩ := row2 hbz; have fs0 := row_frozen hbz 0; have fs1 := row_frozen hbz 1; clear HBX; have HBX := Lib.hid HBY.out; clear HBY hbz)
         | skip
       clear h7 hbx HJ0)
    | (first
         | refine step_enumJ HJ.out HEQ.out (by simp <;> omega) rfl _ _ rfl rfl rfl ?_
         | refine step_enumJ HJ.out.drew HEQ.out (by simp <;> omega) rfl _ _ rfl rfl rfl ?_
         | refine step_enumJ (HJ.out.alloc _) HEQ.out (by simp <;> omega) rfl _ _ rfl rfl rfl ?_
         | refine step_enumJ (HJ.out.drew.alloc _) HEQ.out (by simp <;> omega) rfl _ _ rfl rfl rfl ?_
         | refine step_enumJ (HJ.out.alloc _).drew HEQ.out (by simp <;> omega) rfl _ _ rfl rfl rfl ?_
       intro A7 m7 c7 w7 h7 hbx; have HJ0 := Lib.hid HJ.out; replace HJ := Lib.hid h7; obtain ⟨l0, l1⟩ := row2 (box_next h7.1 CPV.out); obtain ⟨r0, r1⟩ := row2 (box_next h7.1 CQV.out); first
         | (have hbz := hbx _ [.slice none 0 0, .slice none 0 0] (heap_alloc_new _ _); have HBX := Lib.hid hbz; have hge := HJ0.out.1.size; have hn1 := Nat.ne_of_lt (Nat.lt_of_lt_of_le hsa hge); have hn2 := Nat.ne_of_lt (Nat.lt_of_lt_of_le hsb hge); have hn3 := hn1.symm; have hn4 := hn2.symm; have HGE := Lib.hid hge; clear hge; obtain ⟨s0, s1⟩ := row2 hbz; have fs0 := row_frozen hbz 0; have fs1 := row_frozen hbz 1; clear hbz)
         | (have hbz := hbx _ _ HBX.out; have HBY := Lib.hid hbz; obtain ⟨s0, s1⟩ := row2 hbz; have fs0 := row_frozen hbz 0; have fs1 := row_frozen hbz 1; clear HBX; have HBX := Lib.hid HBY.out; clear HBY hbz)
         | skip
       clear h7 hbx HJ0)
    | (first
         | refine step_nodeJ HJ.out HNP.out (by simp <;> omega) rfl _ _ rfl rfl rfl ?_
         | refine step_nodeJ HJ.out.drew HNP.out (by simp <;> omega) rfl _ _ rfl rfl rfl ?_
         | refine step_nodeJ (HJ.out.alloc _) HNP.out (by simp <;> omega) rfl _ _ rfl rfl rfl ?_
         | refine step_nodeJ (HJ.out.drew.alloc _) HNP.out (by simp <;> omega) rfl _ _ rfl rfl rfl ?_
         | refine step_nodeJ (HJ.out.alloc _).drew HNP.out (by simp <;> omega) rfl _ _ rfl rfl rfl ?_
       intro A7 m7 c7 w7 h7 hbx; have HJ0 := Lib.hid HJ.out; replace HJ := Lib.hid h7; obtain ⟨l0, l1⟩ := row2 (box_next h7.1 CPV.out); obtain ⟨r0, r1⟩ := row2 (box_next h7.1 CQV.out); first
         | (have hbz := hbx _ [.slice none 0 0, .slice none 0 0] (heap_alloc_new _ _); have HBX := Lib.hid hbz; have hge := HJ0.out.1.size; have hn1 := Nat.ne_of_lt (Nat.lt_of_lt_of_le hsa hge); have hn2 := Nat.ne_of_lt (Nat.lt_of_lt_of_le hsb hge); have hn3 := hn1.symm; have hn4 := hn2.symm; have HGE := Lib.hid hge; clear hge; obtain ⟨s0, s1⟩ := row2 hbz; have fs0 := row_frozen hbz 0; have fs1 := row_frozen hbz 1; clear hbz)
         | (have hbz := hbx _ _ HBX.out; have HBY := Lib.hid hbz; obtain ⟨s0, s1⟩ := row2 hbz; have fs0 := row_frozen hbz 0; have fs1 := row_frozen hbz 1; clear HBX; have HBX := Lib.hid HBY.out; clear HBY hbz)
         | skip
       clear h7 hbx HJ0)
    | (first
         | refine step_nodeJ HJ.out HNQ.out (by simp <;> omega) rfl _ _ rfl rfl rfl ?_
         | refine step_nodeJ HJ.out.drew HNQ.out (by simp <;> omega) rfl _ _ rfl rfl rfl ?_
         | refine step_nodeJ (HJ.out.alloc _) HNQ.out (by simp <;> omega) rfl _ _ rfl rfl rfl ?_
         | refine step_nodeJ (HJ.out.drew.alloc _) HNQ.out (by simp <;> omega) rfl _ _ rfl rfl rfl ?_
         | refine step_nodeJ (HJ.out.alloc _).drew HNQ.out (by simp <;> omega) rfl _ _ rfl rfl rfl ?_
       intro A7 m7 c7 w7 h7 hbx; have HJ0 := Lib.hid HJ.out; replace HJ := Lib.hid h7; obtain ⟨l0, l1⟩ := row2 (box_next h7.1 CPV.out); obtain ⟨r0, r1⟩ := row2 (box_next h7.1 CQV.out); first
         | (have hbz := hbx _ [.slice none 0 0, .slice none 0 0] (heap_alloc_new _ _); have HBX := Lib.hid hbz; have hge := HJ0.out.1.size; have hn1 := Nat.ne_of_lt (Nat.lt_of_lt_of_le hsa hge); have hn2 := Nat.ne_of_lt (Nat.lt_of_lt_of_le hsb hge); have hn3 := hn1.symm; have hn4 := hn2.symm; have HGE := Lib.hid hge; clear hge; obtain ⟨s0, s1⟩ := row2 hbz; have fs0 := row_frozen hbz 0; have fs1 := row_frozen hbz 1; clear hbz)
         | (have hbz := hbx _ _ HBX.out; have HBY := Lib.hid hbz; obtain ⟨s0, s1⟩ := row2 hbz; have fs0 := row_frozen hbz 0; have fs1 := row_frozen hbz 1; clear HBX; have HBX := Lib.hid HBY.out; clear HBY hbz)
         | skip
       clear h7 hbx HJ0))
  all_goals
    first
      | (obtain ⟨hJZ, hBZ⟩ := JS.fin2 HJ.out HBX.out HGE.out; clear HBX HGE)
      | (obtain ⟨hJZ, hBZ⟩ := JS.fin1 HJ.out)
    have hPZ := hJZ.prog; simp only [List.nil_append] at hPZ; have HPZ := Lib.hid hPZ; have HBZ := Lib.hid hBZ; have HBW := Lib.hid (HVW.out.trans (hJZ.1.mono HVW.out.size)); clear hPZ hBZ hJZ HJ HEP HNP HEQ HNQ
    go_wp2_with (first
      | (go_at_call 10; (with_reducible refine (parse_okc HPJ.out _ HMT.out (HER.out.under HBW.out)).mono ?_); intro e w6 h6; obtain ⟨v, h8, M, h9, hM0⟩ := h6.2; subst h8; subst h9; have hM := hM0.sub (new_sub _ _); obtain ⟨P6, j6, l6, R6, i6, o6, rfl⟩ := hM.shape; obtain ⟨V6, rfl⟩ : ∃ W, W = w6 := ⟨_, rfl⟩; have HM6 := Lib.hid hM; obtain ⟨d1, d2⟩ := two_alloc (w := V6) (A := .cells #[.slice P6 j6 l6, .slice R6 i6 o6] 25) (C := .cells #[.int .i64 0, .int .i64 0, .int .i64 0] 31); have HV6 := Lib.hid (((Below.refl V6.heap.size V6).alloc (Nat.le_refl _) (.cells #[.slice P6 j6 l6, .slice R6 i6 o6] 25)).alloc (by simp) (.cells #[.int .i64 0, .int .i64 0, .int .i64 0] 31)); have HB6 := Lib.hid (HBW.out.trans (h6.1.mono HBW.out.size)); have HL6 := Lib.hid (HPZ.out.under h6.1); obtain ⟨y0, y1⟩ := row2 (box_next HV6.out (box_next h6.1 HBZ.out)); obtain ⟨zz0, zz1⟩ := row2 d1; obtain ⟨uu0, uu1, uu2⟩ := row3 d2; clear h6 hM0 hM d1 d2)
      | (go_at_call 11; (with_reducible refine (rSame_any HM6.out HL6.out _ HV6.out).mono ?_); rintro e w7 ⟨rfl, hb7⟩; rw [hpp]; have HB7 := Lib.hid ((HB6.out.trans (HV6.out.mono HB6.out.size)).trans (hb7.mono (HB6.out.trans (HV6.out.mono HB6.out.size)).size)); clear hb7))
    go_ret; exact ⟨rfl, HB7.out⟩
/-- ParseJoins, whatever the texts are -/
theorem joins_any {a b : Tx} {w : World} (ha : a.length ≤ 1048576) (hb : b.length ≤ 1048576) (htab : Tab w) (herr : Errs w) : Calls Tryz.prog 7 #[.string (str a), .string (str b)] w (Lived w) := by
  cases hp : parseR a with
  | inr f => exact join_badA hp ha hb htab herr
  | inl p =>
    cases hq : parseR b with
    | inr f => exact join_badB hp hq ha hb htab herr
    | inl q =>
      by_cases hbig : (a ++ 10 :: b).length ≤ 65536
      · by_cases he : p.enums.length + q.enums.length ≤ 8
        · by_cases hn : p.nodes.length + q.nodes.length ≤ 16
          · exact join_main hp hq hbig he hn ha hb htab herr
          · exact join_nodes hp hq hbig he (by omega) ha hb htab herr
        · exact join_enums hp hq hbig (by omega) ha hb htab herr
      · exact join_big hp hq (by omega) ha hb htab herr
theorem laid_joins {W : World} (h : laidMetH Tryz.prog Rows.parseJoinsUptoRow.laid W) : Tab W ∧ Errs W := by
  have h : laidMet Tryz.prog Rows.parseJoinsUptoRow.laid W := h; exact ⟨tab_head h.tail.tail, laid_iface h.tail.tail.tail.tail (by kernel_rfl) (by kernel_rfl) Tryz.underlying128, laid_iface h.tail.tail.tail (by kernel_rfl) (by kernel_rfl) Tryz.underlying128⟩
theorem joins_law (s t : ByteArray) (w : World) (hs : s.size ≤ 1048576) (ht : t.size ≤ 1048576) (h : Tab w ∧ Errs w) : Calls Tryz.prog 7 #[.string s, .string t] w (Lived w) := by
  obtain ⟨a, rfl⟩ : ∃ l, s = str l := ⟨s.data.toList, (str_eq s).symm⟩; obtain ⟨b, rfl⟩ : ∃ l, t = str l := ⟨t.data.toList, (str_eq t).symm⟩; exact joins_any hs ht h.1 h.2
end Go.Proofs.YtoajfnfhphoaeaaGreatDoor
