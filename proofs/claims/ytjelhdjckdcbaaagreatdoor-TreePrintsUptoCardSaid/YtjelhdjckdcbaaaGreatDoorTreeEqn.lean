/-
  equation; written by wip/tools/gen-tree-prog.py.
-/
import Derived.Test.YtjelhdjckdcbaaaGreatDoorTreeExpr
namespace Go.Proofs.YtjelhdjckdcbaaaGreatDoor
open Go.RowKit

theorem eqT_many {q : QEq} (h : q.names.length ≠ 1) : eqT q = [40] :: (namesT [44] q.names ++ [41] :: [61] :: (toksX q.e ++ [[59]])) := by
  obtain ⟨names, e⟩ := q
  match names, h with
  | [], _ => simp [eqT]
  | [x], h => exact absurd rfl h
  | x :: y :: r, _ => simp [eqT]
theorem eqT_one {x : Tx} {e : Ex} : eqT ⟨[x], e⟩ = x :: [61] :: (toksX e ++ [[59]]) := by simp [eqT]
set_option maxHeartbeats 2000000 in
theorem equationT_any {B b : Nat} {w0 : World} (hB : w0.heap.size ≤ B) (htab : Tab w0) {q : QEq} {L : List Value} (hL : EqAt w0 L q) {w : World} {ts : List Tx} (ht : TextW B b ts w) (hb : Below w0.heap.size w0 w) (hn : SizeOk (ts ++ eqT q)) :
    Calls Tryz.prog 93 #[.pointer (some ⟨b, 0, none⟩), .agg L.toArray] w (PutPost B b (ts ++ eqT q) w) := by
  obtain ⟨A0, n0, k0, o1, s2, o3, A4, n4, k4, A5, n5, k5, rfl⟩ := hL.shape
  obtain ⟨nv, L', e, hS, hE⟩ := hL
  injection e with e1 e2
  subst e1 e2
  have HS := Lib.hid hS
  have HE := Lib.hid (exprT_any (b := b) hB htab hE)
  obtain ⟨A', c', e, hc0, hc1, _⟩ := hS
  injection e with ea eb ec
  subst ea eb ec
  have hlm : q.names.length ≤ 9223372036854775807 := by unfold maxLen at hc1; omega
  clear hc0 hc1 hE
  have HT := Lib.hid ht
  have HB := Lib.hid hb
  have HBB := Lib.hid hB
  have hsz := hb.size
  have hblt := ht.lt
  have hble := ht.2
  by_cases h1 : q.names.length = 1
  · obtain ⟨x, hx⟩ : ∃ x, q.names = [x] := List.length_eq_one_iff.1 h1
    obtain ⟨qn, qe⟩ := q
    subst hx
    obtain ⟨a, ea, c0⟩ := (ToksAt.came (b := b) (B := B) HS.out HBB.out HB.out).cell (TKept.refl _ _ _) (k := 0) rfl
    subst ea
    rw [Nat.zero_mul, add_zero] at c0
    have c1 : w.cell? (a.add 0) = some (.string (str x)) := by rw [add_zero]; exact c0
    have hab : a.block < w.heap.size := World.block_lt_of_cell? _ _ c0
    change Calls _ _ #[_, .agg #[.slice (some a) 1 k0, .int .i64 o1, .string s2, .int .i64 o3, .slice A4 n4 k4, .slice A5 n5 k5]] _ _
    have HT0 := Lib.hid (HT.out.alloc (.cells #[.slice (some a) 1 k0, .int .i64 o1, .string s2, .int .i64 o3, .slice A4 n4 k4, .slice A5 n5 k5] 41))
    have HK0 := Lib.hid (TKept.refl B b (w.alloc (.cells #[.slice (some a) 1 k0, .int .i64 o1, .string s2, .int .i64 o3, .slice A4 n4 k4, .slice A5 n5 k5] 41)))
    have HBA := Lib.hid (HB.out.alloc hsz (.cells #[.slice (some a) 1 k0, .int .i64 o1, .string s2, .int .i64 o3, .slice A4 n4 k4, .slice A5 n5 k5] 41))
    have e : eqT ⟨[x], qe⟩ = [(str x : ByteArray).data.toList] ++ [(⟨#[61]⟩ : ByteArray).data.toList] ++ toksX qe ++ [(⟨#[59]⟩ : ByteArray).data.toList] := by rw [eqT_one]; simp [str_toList]
    have HQ := Lib.hid e
    have HN := Lib.hid (show SizeOk (ts ++ [(str x : ByteArray).data.toList] ++ [(⟨#[61]⟩ : ByteArray).data.toList] ++ toksX qe ++ [(⟨#[59]⟩ : ByteArray).data.toList]) by rw [e] at hn; simpa using hn)
    have HX := Lib.hid (show (str x).size ≤ maxLen by obtain ⟨_, _, _, _, _, h3⟩ := HS.out; obtain ⟨_, _, _, h⟩ := h3 0 x rfl; exact h)
    clear e hn ht hb hB h1 htab
    go_enter Tryz.func93, Tryz.ntmps93
    go_wp2_with (first
      | (go_at_call 42
         with_reducible refine (putN1 (str x) HT0.out HN.out.left.left.left HX.out (by simp)).mono ?_
         rintro e w1 ⟨rfl, ht1, hk1⟩
         have HT1 := Lib.hid ht1
         have HK1 := Lib.hid (HK0.out.trans hk1)
         clear ht1 hk1
         have hbx1 := box_kept HK1.out (heap_alloc_new w _) (by omega) (by decide)
         obtain ⟨d0, d1, d2, d3, d4, d5⟩ := row6 hbx1
         clear hbx1
         skip)
      | (go_at_call 42
         with_reducible refine (putN1 (⟨#[61]⟩) HT1.out HN.out.left.left (lit_ok (by decide)) rfl).mono ?_
         rintro e w2 ⟨rfl, ht2, hk2⟩
         have HT2 := Lib.hid ht2
         have HK2 := Lib.hid (HK1.out.trans hk2)
         clear ht2 hk2
         have hbx2 := box_kept HK2.out (heap_alloc_new w _) (by omega) (by decide)
         obtain ⟨d0, d1, d2, d3, d4, d5⟩ := row6 hbx2
         clear hbx2
         skip)
      | (go_at_call 21
         refine (HE.out _ _ HT2.out (HBA.out.trans (HK2.out.below.mono HBB.out)) HN.out.left).mono ?_
         rintro e w3 ⟨rfl, ht3, hk3⟩
         have HT3 := Lib.hid ht3
         have HK3 := Lib.hid (HK2.out.trans hk3)
         clear ht3 hk3
         have hbx3 := box_kept HK3.out (heap_alloc_new w _) (by omega) (by decide)
         obtain ⟨d0, d1, d2, d3, d4, d5⟩ := row6 hbx3
         clear hbx3
         skip)
      | (go_at_call 42
         with_reducible refine (putN1 (⟨#[59]⟩) HT3.out HN.out (lit_ok (by decide)) rfl).mono ?_
         rintro e w4 ⟨rfl, ht4, hk4⟩
         have HT4 := Lib.hid ht4
         have HK4 := Lib.hid (HK3.out.trans hk4)
         clear ht4 hk4
         have hbx4 := box_kept HK4.out (heap_alloc_new w _) (by omega) (by decide)
         obtain ⟨d0, d1, d2, d3, d4, d5⟩ := row6 hbx4
         clear hbx4
         skip))
    go_end0
    exact ⟨rfl, by rw [HQ.out]; simpa using HT4.out, ((TKept.refl B b w).alloc HT.out.2 _).trans HK4.out⟩
  · have HT0 := Lib.hid (HT.out.alloc (.cells #[.slice A0 q.names.length k0, .int .i64 o1, .string s2, .int .i64 o3, .slice A4 n4 k4, .slice A5 n5 k5] 41))
    have HK0 := Lib.hid (TKept.refl B b (w.alloc (.cells #[.slice A0 q.names.length k0, .int .i64 o1, .string s2, .int .i64 o3, .slice A4 n4 k4, .slice A5 n5 k5] 41)))
    have HBA := Lib.hid (HB.out.alloc hsz (.cells #[.slice A0 q.names.length k0, .int .i64 o1, .string s2, .int .i64 o3, .slice A4 n4 k4, .slice A5 n5 k5] 41))
    have e : eqT q = [(⟨#[40]⟩ : ByteArray).data.toList] ++ namesT [44] q.names ++ [(⟨#[41]⟩ : ByteArray).data.toList] ++ [(⟨#[61]⟩ : ByteArray).data.toList] ++ toksX q.e ++ [(⟨#[59]⟩ : ByteArray).data.toList] := by rw [eqT_many h1]; simp
    have HQ := Lib.hid e
    have HN := Lib.hid (show SizeOk (ts ++ [(⟨#[40]⟩ : ByteArray).data.toList] ++ namesT [44] q.names ++ [(⟨#[41]⟩ : ByteArray).data.toList] ++ [(⟨#[61]⟩ : ByteArray).data.toList] ++ toksX q.e ++ [(⟨#[59]⟩ : ByteArray).data.toList]) by rw [e] at hn; simpa using hn)
    have hd : ((q.names.length : Int) == 1) = false := by rw [beq_eq_false_iff_ne]; omega
    have H1 := Lib.hid h1
    clear e hn ht hb hB h1 htab
    go_enter Tryz.func93, Tryz.ntmps93
    go_wp2_with (first
      | (go_at_call 42
         with_reducible refine (putN1 (⟨#[40]⟩) HT0.out HN.out.left.left.left.left.left (lit_ok (by decide)) (by simp)).mono ?_
         rintro e w1 ⟨rfl, ht1, hk1⟩
         have HT1 := Lib.hid ht1
         have HK1 := Lib.hid (HK0.out.trans hk1)
         clear ht1 hk1
         have hbx1 := box_kept HK1.out (heap_alloc_new w _) (by omega) (by decide)
         obtain ⟨d0, d1, d2, d3, d4, d5⟩ := row6 hbx1
         clear hbx1
         skip)
      | (go_at_call 66
         refine (names_any (s := [44]) _ HT1.out (ToksAt.came (b := b) HS.out HBB.out (HBA.out.trans (HK1.out.below.mono HBB.out))) HN.out.left.left.left.left (lit_ok (x := str [44]) (by decide))).mono ?_
         rintro e w2 ⟨rfl, ht2, hk2⟩
         have HT2 := Lib.hid ht2
         have HK2 := Lib.hid (HK1.out.trans hk2)
         clear ht2 hk2
         have hbx2 := box_kept HK2.out (heap_alloc_new w _) (by omega) (by decide)
         obtain ⟨d0, d1, d2, d3, d4, d5⟩ := row6 hbx2
         clear hbx2
         skip)
      | (go_at_call 42
         with_reducible refine (putN1 (⟨#[41]⟩) HT2.out HN.out.left.left.left (lit_ok (by decide)) rfl).mono ?_
         rintro e w3 ⟨rfl, ht3, hk3⟩
         have HT3 := Lib.hid ht3
         have HK3 := Lib.hid (HK2.out.trans hk3)
         clear ht3 hk3
         have hbx3 := box_kept HK3.out (heap_alloc_new w _) (by omega) (by decide)
         obtain ⟨d0, d1, d2, d3, d4, d5⟩ := row6 hbx3
         clear hbx3
         skip)
      | (go_at_call 42
         with_reducible refine (putN1 (⟨#[61]⟩) HT3.out HN.out.left.left (lit_ok (by decide)) rfl).mono ?_
         rintro e w4 ⟨rfl, ht4, hk4⟩
         have HT4 := Lib.hid ht4
         have HK4 := Lib.hid (HK3.out.trans hk4)
         clear ht4 hk4
         have hbx4 := box_kept HK4.out (heap_alloc_new w _) (by omega) (by decide)
         obtain ⟨d0, d1, d2, d3, d4, d5⟩ := row6 hbx4
         clear hbx4
         skip)
      | (go_at_call 21
         refine (HE.out _ _ HT4.out (HBA.out.trans (HK4.out.below.mono HBB.out)) HN.out.left).mono ?_
         rintro e w5 ⟨rfl, ht5, hk5⟩
         have HT5 := Lib.hid ht5
         have HK5 := Lib.hid (HK4.out.trans hk5)
         clear ht5 hk5
         have hbx5 := box_kept HK5.out (heap_alloc_new w _) (by omega) (by decide)
         obtain ⟨d0, d1, d2, d3, d4, d5⟩ := row6 hbx5
         clear hbx5
         skip)
      | (go_at_call 42
         with_reducible refine (putN1 (⟨#[59]⟩) HT5.out HN.out (lit_ok (by decide)) rfl).mono ?_
         rintro e w6 ⟨rfl, ht6, hk6⟩
         have HT6 := Lib.hid ht6
         have HK6 := Lib.hid (HK5.out.trans hk6)
         clear ht6 hk6
         have hbx6 := box_kept HK6.out (heap_alloc_new w _) (by omega) (by decide)
         obtain ⟨d0, d1, d2, d3, d4, d5⟩ := row6 hbx6
         clear hbx6
         skip))
    go_end0
    exact ⟨rfl, by rw [HQ.out]; simpa using HT6.out, ((TKept.refl B b w).alloc HT.out.2 _).trans HK6.out⟩
end Go.Proofs.YtjelhdjckdcbaaaGreatDoor
