/-
  A step of a script, and three things ahead of each law.
-/
import Derived.Test.YtiehfjkiedgkhaaKnotMake
namespace Go.Proofs.Ytiehfjkiedgkhaa
open Go.RowKit

/-- what a law leaves: true, and all that was as it was -/
def Lived (w : World) (e : Ending) (w' : World) : Prop := e = .returned (.bool true) ∧ Below w.heap.size w w'
structure QOp where
  kd : Int
  a : Int
  b : Int
def kindQ (a : Int) : Int := (IntKind.u64.wrap a) % 3
theorem kind_range (a : Int) : 0 ≤ kindQ a ∧ kindQ a < 3 := by unfold kindQ; omega
def opV (o : QOp) : Value := .agg #[.int .i64 o.kd, .int .i64 o.a, .int .i64 o.b]
def opOk (S : KS) (o : QOp) : Bool := if kindQ o.kd = 0 then true else if kindQ o.kd = 1 then markOk S o.a o.b else tieOk S o.a o.b
def opS (S : KS) (o : QOp) : KS := if kindQ o.kd = 0 then addS S else if kindQ o.kd = 1 then markS S o.a o.b else tieS S o.a o.b
section
variable {B k : Nat} {w : World} {v : Value} {S : KS}
theorem Moved.after {w1 w' : World} {S' : KS} (hb : Below w.heap.size w w1) (h : Moved B k v S' w1 w') : Moved B k v S' w w' := by
  obtain ⟨v', h1, h2, h3⟩ := h
  exact ⟨v', h1, (KeptP.of_below hb).trans h2, fun b hb' => (h3 b hb').imp id fun g => Nat.le_trans hb.size g⟩
theorem of_is (h : KnotIs B w k v S) (a : Int) : Calls Try.prog 17 #[.pointer (some ⟨k, 0, none⟩), .int .i64 a] w fun e w' => e = .returned (.int .i64 (ofS S a)) ∧ w = w' := by
  obtain ⟨E, ρ, h⟩ := h
  exact of_any h a
theorem least_is (h : KnotIs B w k v S) (a : Int) : Calls Try.prog 19 #[.pointer (some ⟨k, 0, none⟩), .int .i64 a] w fun e w' => e = .returned (.int .i64 (leastS S a)) ∧ w = w' := by
  obtain ⟨E, ρ, h⟩ := h
  exact least_any h a
theorem alike_is (h : KnotIs B w k v S) (a b : Int) : Calls Try.prog 21 #[.pointer (some ⟨k, 0, none⟩), .int .i64 a, .int .i64 b] w fun e w' => e = .returned (.bool (alikeS S a b)) ∧ w = w' := by
  obtain ⟨E, ρ, h⟩ := h
  exact alike_any h a b
theorem len_is (h : KnotIs B w k v S) : Calls Try.prog 23 #[.pointer (some ⟨k, 0, none⟩)] w fun e w' => e = .returned (.int .i64 S.n) ∧ w = w' := by
  obtain ⟨E, ρ, h⟩ := h
  exact len_any h
theorem Moved.go {w0 w' : World} {S' : KS} (h : KnotIs B w k v S) (hb : Below B w0 w) (hB : B ≤ w0.heap.size) (m : Moved B k v S' w w') : ∃ v', KnotIs B w' k v' S' ∧ Below B w0 w' := by
  obtain ⟨v', h1, h2, h3⟩ := m
  exact ⟨v', h1, hb.trans (h2.below (Nat.le_trans hB hb.size) fun b hb' => (h.lt hb').1)⟩
theorem row3 {w : World} {N : Nat} {T0 : TypeId} {v0 v1 v2 : Value} (h : w.heap[N]? = some (.cells #[v0, v1, v2] T0 (0, 0))) : w.cell? ⟨N, 0, none⟩ = some v0 ∧ w.cell? ⟨N, 1, none⟩ = some v1 ∧ w.cell? ⟨N, 2, none⟩ = some v2 := by simp [World.cell?, h]
theorem kind_any (a b c : Int) (w : World) : Calls Try.prog 10 #[.agg #[.int .i64 a, .int .i64 b, .int .i64 c]] w fun e w' => e = .returned (.int .i64 (kindQ a)) ∧ Below w.heap.size w w' := by
  go_enter Try.func10, Try.ntmps10
  go_wp2
  go_ret
  refine ⟨ret_int ?_, (Below.refl _ _).alloc (Nat.le_refl _) _⟩
  unfold kindQ
  have h0 : 0 ≤ IntKind.u64.wrap a := by rw [IntKind.wrap_u64]; omega
  rw [Int.tmod_eq_emod_of_nonneg h0]
  unfold wrap64
  omega
set_option maxRecDepth 100000 in
set_option maxHeartbeats 1000000 in
theorem does_any (h : KnotIs B w k v S) (hn : S.n < 4194303) (hB : B ≤ w.heap.size) (o : QOp) (ho : o.b < 9223372036854775808) :
    Calls Try.prog 24 #[.pointer (some ⟨k, 0, none⟩), .agg #[.int .i64 o.kd, .int .i64 o.a, .int .i64 o.b]] w fun e w' => e = .returned (.bool (opOk S o)) ∧ Moved B k v (opS S o) w w' := by
  obtain ⟨kd, a, b⟩ := o
  have hr := kind_range kd
  have hal : Below w.heap.size w (w.alloc (.cells #[.int .i64 kd, .int .i64 a, .int .i64 b] 31)) := (Below.refl _ _).alloc (Nat.le_refl _) _
  have HAL := Lib.hid hal
  have H := Lib.hid h
  have HN := Lib.hid hn
  have HB := Lib.hid hB
  have HO := Lib.hid ho
  simp only at ho
  clear h hn hal ho hB
  by_cases h0 : kindQ kd = 0
  · have HK := Lib.hid h0
    clear h0 hr
    go_enter Try.func24, Try.ntmps24
    go_wp2_with (first
      | (go_at_call 10; ((with_reducible refine (kind_any _ _ _ _).mono ?_); rintro e w5 ⟨he, hb5⟩; rw [HK.out] at he; subst he; have HB5 := Lib.hid (HAL.out.trans (hb5.mono HAL.out.size)); clear hb5))
      | (go_at_call 11; ((with_reducible refine (add_any (H.out.under HB5.out) HN.out (Nat.le_trans HB.out HB5.out.size)).mono ?_); rintro e w6 ⟨he, hm⟩; subst he; have HM := Lib.hid hm; clear hm)))
    go_ret
    exact ⟨ret_bool (by simp [opOk, HK.out]), by rw [show opS S ⟨kd, a, b⟩ = addS S by simp [opS, HK.out]]; exact Moved.after HB5.out HM.out⟩
  · by_cases h1 : kindQ kd = 1
    · have HK := Lib.hid h1
      clear h0 h1 hr
      go_enter Try.func24, Try.ntmps24
      go_wp2_with (first
        | (go_at_call 10; ((with_reducible refine (kind_any _ _ _ _).mono ?_); rintro e w5 ⟨he, hb5⟩; rw [HK.out] at he; subst he; obtain ⟨z0, z1, z2⟩ := row3 (hb5.block _ (by simp) |>.trans (heap_alloc_new w (.cells #[.int .i64 kd, .int .i64 a, .int .i64 b] 31))); have HB5 := Lib.hid (HAL.out.trans (hb5.mono HAL.out.size)); clear hb5))
        | (go_at_call 13; ((with_reducible refine (mark_any (H.out.under HB5.out) _ _ HO.out).mono ?_); rintro e w6 ⟨he, hm⟩; subst he; have HM := Lib.hid hm; clear hm)))
      go_ret
      exact ⟨ret_bool (by simp [opOk, HK.out]), by rw [show opS S ⟨kd, a, b⟩ = markS S a b by simp [opS, HK.out]]; exact Moved.after HB5.out HM.out⟩
    · have HK := Lib.hid (show kindQ kd = 2 by omega)
      clear h0 h1 hr
      go_enter Try.func24, Try.ntmps24
      go_wp2_with (first
        | (go_at_call 10; ((with_reducible refine (kind_any _ _ _ _).mono ?_); rintro e w5 ⟨he, hb5⟩; rw [HK.out] at he; subst he; obtain ⟨z0, z1, z2⟩ := row3 (hb5.block _ (by simp) |>.trans (heap_alloc_new w (.cells #[.int .i64 kd, .int .i64 a, .int .i64 b] 31))); have HB5 := Lib.hid (HAL.out.trans (hb5.mono HAL.out.size)); clear hb5))
        | (go_at_call 15; ((with_reducible refine (tie_any (H.out.under HB5.out) _ _).mono ?_); rintro e w6 ⟨he, hm⟩; subst he; have HM := Lib.hid hm; clear hm)))
      go_ret
      exact ⟨ret_bool (by simp [opOk, HK.out]), by rw [show opS S ⟨kd, a, b⟩ = tieS S a b by simp [opS, HK.out]]; exact Moved.after HB5.out HM.out⟩
end
def S1 : KS := addS noneS
def S2 : KS := addS S1
def S3 : KS := addS S2
def S4 : KS := tieS S3 0 2
def S5 : KS := markS S4 2 7
def S6 : KS := markS S5 1 8
def S7 : KS := tieS S6 1 0
set_option maxRecDepth 100000 in
set_option maxHeartbeats 2000000 in
theorem lives_any (w : World) : Calls Try.prog 8 #[] w fun e w' => e = .returned (.bool true) ∧ Below w.heap.size w w' := by
  have Q4 := Lib.hid (show tieOk S3 0 2 = true by decide)
  have Q5 := Lib.hid (show markOk S4 2 7 = true by decide)
  have Q5o := Lib.hid (show ofS S5 0 = 7 by decide)
  have Q5l := Lib.hid (show leastS S5 2 = 0 by decide)
  have Q6 := Lib.hid (show markOk S5 1 8 = true by decide)
  have Q7 := Lib.hid (show tieOk S6 1 0 = false by decide)
  have B0 := Lib.hid (Below.refl w.heap.size w)
  go_enter Try.func8, Try.ntmps8
  go_wp2_with (first
    | (go_at_call 9; ((with_reducible refine (new_any (B := w.heap.size) (Nat.le_refl _)).mono ?_); rintro e w1 ⟨rfl, h1, b1⟩; have H1 := Lib.hid h1; have B1 := Lib.hid b1; clear h1 b1))
    | (go_at_call 11; ((with_reducible refine (add_any H1.out (by decide) B1.out.size).mono ?_); rintro e w2 ⟨he, hm⟩; replace he : e = .returned (.int .i64 0) := he; subst he; obtain ⟨v2, h2, b2⟩ := Moved.go H1.out B1.out (Nat.le_refl _) hm; have H2 : Hid (KnotIs w.heap.size w2 w.heap.size v2 S1) := Lib.hid h2; have B2 := Lib.hid b2; clear h2 b2 hm))
    | (go_at_call 11; ((with_reducible refine (add_any H2.out (by decide) B2.out.size).mono ?_); rintro e w3 ⟨he, hm⟩; replace he : e = .returned (.int .i64 1) := he; subst he; obtain ⟨v3, h3, b3⟩ := Moved.go H2.out B2.out (Nat.le_refl _) hm; have H3 : Hid (KnotIs w.heap.size w3 w.heap.size v3 S2) := Lib.hid h3; have B3 := Lib.hid b3; clear h3 b3 hm))
    | (go_at_call 11; ((with_reducible refine (add_any H3.out (by decide) B3.out.size).mono ?_); rintro e w4 ⟨he, hm⟩; replace he : e = .returned (.int .i64 2) := he; subst he; obtain ⟨v4, h4, b4⟩ := Moved.go H3.out B3.out (Nat.le_refl _) hm; have H4 : Hid (KnotIs w.heap.size w4 w.heap.size v4 S3) := Lib.hid h4; have B4 := Lib.hid b4; clear h4 b4 hm))
    | (go_at_call 15; ((with_reducible refine (tie_any H4.out _ _).mono ?_); rintro e w5 ⟨he, hm⟩; rw [Q4.out] at he; subst he; obtain ⟨v5, h5, b5⟩ := Moved.go H4.out B4.out (Nat.le_refl _) hm; have H5 : Hid (KnotIs w.heap.size w5 w.heap.size v5 S4) := Lib.hid h5; have B5 := Lib.hid b5; clear h5 b5 hm))
    | (go_at_call 13; ((with_reducible refine (mark_any H5.out _ _ (by decide)).mono ?_); rintro e w6 ⟨he, hm⟩; rw [Q5.out] at he; subst he; obtain ⟨v6, h6, b6⟩ := Moved.go H5.out B5.out (Nat.le_refl _) hm; have H6 : Hid (KnotIs w.heap.size w6 w.heap.size v6 S5) := Lib.hid h6; have B6 := Lib.hid b6; clear h6 b6 hm))
    | (go_at_call 17; ((with_reducible refine (of_is H6.out _).mono ?_); rintro e w7 ⟨he, rfl⟩; rw [Q5o.out] at he; subst he))
    | (go_at_call 19; ((with_reducible refine (least_is H6.out _).mono ?_); rintro e w7 ⟨he, rfl⟩; rw [Q5l.out] at he; subst he))
    | (go_at_call 13; ((with_reducible refine (mark_any H6.out _ _ (by decide)).mono ?_); rintro e w7 ⟨he, hm⟩; rw [Q6.out] at he; subst he; obtain ⟨v7, h7, b7⟩ := Moved.go H6.out B6.out (Nat.le_refl _) hm; have H7 : Hid (KnotIs w.heap.size w7 w.heap.size v7 S6) := Lib.hid h7; have B7 := Lib.hid b7; clear h7 b7 hm))
    | (go_at_call 15; ((with_reducible refine (tie_any H7.out _ _).mono ?_); rintro e w8 ⟨he, hm⟩; rw [Q7.out] at he; subst he; obtain ⟨v8, h8, b8⟩ := Moved.go H7.out B7.out (Nat.le_refl _) hm; have H8 : Hid (KnotIs w.heap.size w8 w.heap.size v8 S7) := Lib.hid h8; have B8 := Lib.hid b8; clear h8 b8 hm))
    | (go_at_call 23; ((with_reducible refine (len_is H8.out).mono ?_); rintro e w9 ⟨he, rfl⟩; replace he : e = .returned (.int .i64 3) := he; subst he)))
  go_ret
  exact ⟨rfl, B8.out⟩
end Go.Proofs.Ytiehfjkiedgkhaa
