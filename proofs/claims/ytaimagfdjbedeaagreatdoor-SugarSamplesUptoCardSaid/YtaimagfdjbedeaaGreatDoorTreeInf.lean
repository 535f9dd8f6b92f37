/-
  infix, choice: as prefix in XTreeKid; written by a script, three kids at most.
-/
import Derived.Test.YtaimagfdjbedeaaGreatDoorTreeKid
namespace Go.Proofs.YtaimagfdjbedeaaGreatDoor
open Go.RowKit

theorem TKept.below {B b : Nat} {w w' : World} (h : TKept B b w w') : Below B w w' := h.1
theorem kid_at0 {B b : Nat} {w0 : World} {op n : Int} {nm : Tx} {cs : List Tx} {ks : List Ex} {cv : Value} {A : Option Addr} {c : Nat} {C : Nat → List Value} (h : NodeC B b w0 nm cs ks cv A c C) {w : World} {ts : List Tx} (ht : TextW B b ts w) (hb : Below w0.heap.size w0 w) (hn : SizeOk (ts ++ kidT (ks.map toksX) 0)) :
    Calls Tryz.prog 101 #[.pointer (some ⟨b, 0, none⟩), .agg #[.int .i64 op, .string (str nm), .int .i64 n, cv, .slice A ks.length c], .int .i64 0] w (PutPost B b (ts ++ kidT (ks.map toksX) 0) w) := kid_any h 0 ht hb hn
theorem kid_at1 {B b : Nat} {w0 : World} {op n : Int} {nm : Tx} {cs : List Tx} {ks : List Ex} {cv : Value} {A : Option Addr} {c : Nat} {C : Nat → List Value} (h : NodeC B b w0 nm cs ks cv A c C) {w : World} {ts : List Tx} (ht : TextW B b ts w) (hb : Below w0.heap.size w0 w) (hn : SizeOk (ts ++ kidT (ks.map toksX) 1)) :
    Calls Tryz.prog 101 #[.pointer (some ⟨b, 0, none⟩), .agg #[.int .i64 op, .string (str nm), .int .i64 n, cv, .slice A ks.length c], .int .i64 1] w (PutPost B b (ts ++ kidT (ks.map toksX) 1) w) := kid_any h 1 ht hb hn
theorem kid_at2 {B b : Nat} {w0 : World} {op n : Int} {nm : Tx} {cs : List Tx} {ks : List Ex} {cv : Value} {A : Option Addr} {c : Nat} {C : Nat → List Value} (h : NodeC B b w0 nm cs ks cv A c C) {w : World} {ts : List Tx} (ht : TextW B b ts w) (hb : Below w0.heap.size w0 w) (hn : SizeOk (ts ++ kidT (ks.map toksX) 2)) :
    Calls Tryz.prog 101 #[.pointer (some ⟨b, 0, none⟩), .agg #[.int .i64 op, .string (str nm), .int .i64 n, cv, .slice A ks.length c], .int .i64 2] w (PutPost B b (ts ++ kidT (ks.map toksX) 2) w) := kid_any h 2 ht hb hn
set_option maxHeartbeats 2000000 in
theorem infix_any {B b : Nat} {w0 : World} {op n : Int} {nm o : Tx} {cs : List Tx} {ks : List Ex} {cv : Value} {A : Option Addr} {c : Nat} {C : Nat → List Value} (h : NodeC B b w0 nm cs ks cv A c C) (ho : (str o).size ≤ maxLen) {w : World} {ts : List Tx} (ht : TextW B b ts w) (hb : Below w0.heap.size w0 w) (hn : SizeOk (ts ++ infixT o (ks.map toksX))) :
    Calls Tryz.prog 50 #[.pointer (some ⟨b, 0, none⟩), .string (str o), .agg #[.int .i64 op, .string (str nm), .int .i64 n, cv, .slice A ks.length c]] w (PutPost B b (ts ++ infixT o (ks.map toksX)) w) := by
  have HT := Lib.hid ht
  have HB := Lib.hid hb
  have HH := Lib.hid h
  have HO := Lib.hid ho
  have hsz := hb.size
  have hblt := ht.lt
  obtain ⟨A2, n2, k2, rfl⟩ : ∃ A2 n2 k2, cv = .slice A2 n2 k2 := by obtain ⟨A2, k2, e, _⟩ := h.hcs; exact ⟨_, _, _, e⟩
  have HN := Lib.hid (show SizeOk (ts ++ [(⟨#[40]⟩ : ByteArray).data.toList] ++ kidT (ks.map toksX) 0 ++ [(str o : ByteArray).data.toList] ++ kidT (ks.map toksX) 1 ++ [(⟨#[41]⟩ : ByteArray).data.toList]) by simpa [infixT, str_toList] using hn)
  clear h hn ht hb ho
  go_enter Tryz.func50, Tryz.ntmps50
  go_wp2_with (first
    | (go_at_call 46
       with_reducible refine (putN1 (⟨#[40]⟩) (HT.out.alloc _) HN.out.left.left.left.left (lit_ok (by decide)) (by simp)).mono ?_
       rintro e w1 ⟨rfl, ht1, hk1⟩
       have hbx1 := box_kept hk1 (heap_alloc_new w _) (by omega) (by decide)
       obtain ⟨d0, d1, d2, d3, d4⟩ := row5 hbx1
       have HX1 := Lib.hid hbx1
       have HT1 := Lib.hid ht1
       have HK1 := Lib.hid (((TKept.refl B b w).alloc HT.out.2 _).trans hk1)
       clear ht1 hk1 hbx1)
    | (go_at_call 101
       with_reducible refine (kid_at0 HH.out (HT1.out) (HB.out.trans (HK1.out.below.mono HH.out.size)) HN.out.left.left.left).mono ?_
       rintro e w2 ⟨rfl, ht2, hk2⟩
       have hbx2 := box_kept hk2 HX1.out (by omega) (by decide)
       obtain ⟨d0, d1, d2, d3, d4⟩ := row5 hbx2
       have HX2 := Lib.hid hbx2
       have HT2 := Lib.hid ht2
       have HK2 := Lib.hid (HK1.out.trans hk2)
       clear ht2 hk2 hbx2)
    | (go_at_call 46
       with_reducible refine (putN1 (str o) (HT2.out) HN.out.left.left HO.out rfl).mono ?_
       rintro e w3 ⟨rfl, ht3, hk3⟩
       have hbx3 := box_kept hk3 HX2.out (by omega) (by decide)
       obtain ⟨d0, d1, d2, d3, d4⟩ := row5 hbx3
       have HX3 := Lib.hid hbx3
       have HT3 := Lib.hid ht3
       have HK3 := Lib.hid (HK2.out.trans hk3)
       clear ht3 hk3 hbx3)
    | (go_at_call 101
       with_reducible refine (kid_at1 HH.out (HT3.out) (HB.out.trans (HK3.out.below.mono HH.out.size)) HN.out.left).mono ?_
       rintro e w4 ⟨rfl, ht4, hk4⟩
       have hbx4 := box_kept hk4 HX3.out (by omega) (by decide)
       obtain ⟨d0, d1, d2, d3, d4⟩ := row5 hbx4
       have HX4 := Lib.hid hbx4
       have HT4 := Lib.hid ht4
       have HK4 := Lib.hid (HK3.out.trans hk4)
       clear ht4 hk4 hbx4)
    | (go_at_call 46
       with_reducible refine (putN1 (⟨#[41]⟩) (HT4.out) HN.out (lit_ok (by decide)) rfl).mono ?_
       rintro e w5 ⟨rfl, ht5, hk5⟩
       skip))
  go_end0
  exact ⟨rfl, by simpa [infixT, str_toList] using ht5, HK4.out.trans hk5⟩
set_option maxHeartbeats 2000000 in
theorem choice_any {B b : Nat} {w0 : World} {op n : Int} {nm : Tx} {cs : List Tx} {ks : List Ex} {cv : Value} {A : Option Addr} {c : Nat} {C : Nat → List Value} (h : NodeC B b w0 nm cs ks cv A c C) {w : World} {ts : List Tx} (ht : TextW B b ts w) (hb : Below w0.heap.size w0 w) (hn : SizeOk (ts ++ choiceT (ks.map toksX))) :
    Calls Tryz.prog 51 #[.pointer (some ⟨b, 0, none⟩), .agg #[.int .i64 op, .string (str nm), .int .i64 n, cv, .slice A ks.length c]] w (PutPost B b (ts ++ choiceT (ks.map toksX)) w) := by
  have HT := Lib.hid ht
  have HB := Lib.hid hb
  have HH := Lib.hid h
  have hsz := hb.size
  have hblt := ht.lt
  obtain ⟨A2, n2, k2, rfl⟩ : ∃ A2 n2 k2, cv = .slice A2 n2 k2 := by obtain ⟨A2, k2, e, _⟩ := h.hcs; exact ⟨_, _, _, e⟩
  have HN := Lib.hid (show SizeOk (ts ++ [(⟨#[40]⟩ : ByteArray).data.toList, (⟨#[105, 102]⟩ : ByteArray).data.toList] ++ kidT (ks.map toksX) 0 ++ [(⟨#[116, 104, 101, 110]⟩ : ByteArray).data.toList] ++ kidT (ks.map toksX) 1 ++ [(⟨#[101, 108, 115, 101]⟩ : ByteArray).data.toList] ++ kidT (ks.map toksX) 2 ++ [(⟨#[41]⟩ : ByteArray).data.toList]) by simpa [choiceT, str_toList] using hn)
  clear h hn ht hb
  go_enter Tryz.func51, Tryz.ntmps51
  go_wp2_with (first
    | (go_at_call 46
       with_reducible refine (putN2 (⟨#[40]⟩) (⟨#[105, 102]⟩) (HT.out.alloc _) HN.out.left.left.left.left.left.left (lit_ok (by decide)) (lit_ok (by decide)) (by simp)).mono ?_
       rintro e w1 ⟨rfl, ht1, hk1⟩
       have hbx1 := box_kept hk1 (heap_alloc_new w _) (by omega) (by decide)
       obtain ⟨d0, d1, d2, d3, d4⟩ := row5 hbx1
       have HX1 := Lib.hid hbx1
       have HT1 := Lib.hid ht1
       have HK1 := Lib.hid (((TKept.refl B b w).alloc HT.out.2 _).trans hk1)
       clear ht1 hk1 hbx1)
    | (go_at_call 101
       with_reducible refine (kid_at0 HH.out (HT1.out) (HB.out.trans (HK1.out.below.mono HH.out.size)) HN.out.left.left.left.left.left).mono ?_
       rintro e w2 ⟨rfl, ht2, hk2⟩
       have hbx2 := box_kept hk2 HX1.out (by omega) (by decide)
       obtain ⟨d0, d1, d2, d3, d4⟩ := row5 hbx2
       have HX2 := Lib.hid hbx2
       have HT2 := Lib.hid ht2
       have HK2 := Lib.hid (HK1.out.trans hk2)
       clear ht2 hk2 hbx2)
    | (go_at_call 46
       with_reducible refine (putN1 (⟨#[116, 104, 101, 110]⟩) (HT2.out) HN.out.left.left.left.left (lit_ok (by decide)) rfl).mono ?_
       rintro e w3 ⟨rfl, ht3, hk3⟩
       have hbx3 := box_kept hk3 HX2.out (by omega) (by decide)
       obtain ⟨d0, d1, d2, d3, d4⟩ := row5 hbx3
       have HX3 := Lib.hid hbx3
       have HT3 := Lib.hid ht3
       have HK3 := Lib.hid (HK2.out.trans hk3)
       clear ht3 hk3 hbx3)
    | (go_at_call 101
       with_reducible refine (kid_at1 HH.out (HT3.out) (HB.out.trans (HK3.out.below.mono HH.out.size)) HN.out.left.left.left).mono ?_
       rintro e w4 ⟨rfl, ht4, hk4⟩
       have hbx4 := box_kept hk4 HX3.out (by omega) (by decide)
       obtain ⟨d0, d1, d2, d3, d4⟩ := row5 hbx4
       have HX4 := Lib.hid hbx4
       have HT4 := Lib.hid ht4
       have HK4 := Lib.hid (HK3.out.trans hk4)
       clear ht4 hk4 hbx4)
    | (go_at_call 46
       with_reducible refine (putN1 (⟨#[101, 108, 115, 101]⟩) (HT4.out) HN.out.left.left (lit_ok (by decide)) rfl).mono ?_
       rintro e w5 ⟨rfl, ht5, hk5⟩
       have hbx5 := box_kept hk5 HX4.out (by omega) (by decide)
       obtain ⟨d0, d1, d2, d3, d4⟩ := row5 hbx5
       have HX5 := Lib.hid hbx5
       have HT5 := Lib.hid ht5
       have HK5 := Lib.hid (HK4.out.trans hk5)
       clear ht5 hk5 hbx5)
    | (go_at_call 101
       with_reducible refine (kid_at2 HH.out (HT5.out) (HB.out.trans (HK5.out.below.mono HH.out.size)) HN.out.left).mono ?_
       rintro e w6 ⟨rfl, ht6, hk6⟩
       have hbx6 := box_kept hk6 HX5.out (by omega) (by decide)
       obtain ⟨d0, d1, d2, d3, d4⟩ := row5 hbx6
       have HX6 := Lib.hid hbx6
       have HT6 := Lib.hid ht6
       have HK6 := Lib.hid (HK5.out.trans hk6)
       clear ht6 hk6 hbx6)
    | (go_at_call 46
       with_reducible refine (putN1 (⟨#[41]⟩) (HT6.out) HN.out (lit_ok (by decide)) rfl).mono ?_
       rintro e w7 ⟨rfl, ht7, hk7⟩
       skip))
  go_end0
  exact ⟨rfl, by simpa [choiceT, str_toList] using ht7, HK6.out.trans hk7⟩
end Go.Proofs.YtaimagfdjbedeaaGreatDoor
