/-
  when.
-/
import Derived.Test.YtaimagfdjbedeaaGreatDoorTreeSta
namespace Go.Proofs.YtaimagfdjbedeaaGreatDoor
open Go.RowKit

theorem putN4 {B b N : Nat} {ts : List Tx} {W : World} (x y z u : ByteArray) (h : TextW B b ts W) (hlen : SizeOk (ts ++ [x.data.toList, y.data.toList, z.data.toList, u.data.toList])) (hx : x.size ≤ maxLen) (hy : y.size ≤ maxLen) (hz : z.size ≤ maxLen) (hu : u.size ≤ maxLen) (hN : W.heap.size = N) :
    Calls Tryz.prog 46 #[.pointer (some ⟨b, 0, none⟩), .slice (some ⟨N, 0, none⟩) 4 4] (W.alloc (.cells #[.string x, .string y, .string z, .string u] 9)) (PutPost B b (ts ++ [x.data.toList, y.data.toList, z.data.toList, u.data.toList]) W) := by
  subst hN
  exact put_made [x, y, z, u] h hlen (by simp [hx, hy, hz, hu]) (by simp only [List.length_cons, List.length_nil]; decide)
theorem ToksAt.came {B b : Nat} {w0 w : World} {v : Value} {l : List Tx} (h : StrsAt w0 v l) (hB : w0.heap.size ≤ B) (hb : Below w0.heap.size w0 w) : ToksAt B b w v l := by
  refine ⟨h.under hb, fun A n c e hne => ?_⟩
  obtain ⟨A', c', rfl, _, _, h3⟩ := h
  injection e with e _ _
  subst e
  obtain ⟨x, r, rfl⟩ := List.exists_cons_of_ne_nil hne
  obtain ⟨L, ⟨a, e, hc⟩, hL, _⟩ := h3 0 x rfl
  cases e
  subst hL
  have := hc.lt (by simp)
  rw [add_block] at this
  exact .inl (by omega)
set_option maxHeartbeats 2000000 in
theorem when_any {B b : Nat} {w0 : World} {op n : Int} {nm : Tx} {cs : List Tx} {ks : List Ex} {cv : Value} {A : Option Addr} {c : Nat} {C : Nat → List Value} (h : NodeC B b w0 nm cs ks cv A c C) {w : World} {ts : List Tx} (ht : TextW B b ts w) (hb : Below w0.heap.size w0 w) (hn : SizeOk (ts ++ whenT nm cs (ks.map toksX))) :
    Calls Tryz.prog 52 #[.pointer (some ⟨b, 0, none⟩), .agg #[.int .i64 op, .string (str nm), .int .i64 n, cv, .slice A ks.length c]] w (PutPost B b (ts ++ whenT nm cs (ks.map toksX)) w) := by
  have HT := Lib.hid ht
  have HB := Lib.hid hb
  have HH := Lib.hid h
  have hsz := hb.size
  have hblt := ht.lt
  have HC := Lib.hid h.hcs
  obtain ⟨A2, n2, k2, rfl⟩ : ∃ A2 n2 k2, cv = .slice A2 n2 k2 := by obtain ⟨A2, k2, e, _⟩ := h.hcs; exact ⟨_, _, _, e⟩
  have HN := Lib.hid (show SizeOk (ts ++ [(⟨#[40]⟩ : ByteArray).data.toList] ++ kidT (ks.map toksX) 0 ++ [(⟨#[119, 104, 101, 110]⟩ : ByteArray).data.toList] ++ namesT [44] cs ++ [(⟨#[40]⟩ : ByteArray).data.toList, (str nm).data.toList, (⟨#[41]⟩ : ByteArray).data.toList, (⟨#[41]⟩ : ByteArray).data.toList]) by simpa [whenT, str_toList] using hn)
  clear h hn ht hb
  go_enter Tryz.func52, Tryz.ntmps52
  go_wp2_with (first
    | (go_at_call 46
       with_reducible refine (putN1 (⟨#[40]⟩) (HT.out.alloc _) HN.out.left.left.left.left (lit_ok (by decide)) (by simp)).mono ?_
       rintro e w1 ⟨rfl, ht1, hk1⟩
       have hbx1 := box_kept hk1 (heap_alloc_new w _) (by omega) (by decide)
       obtain ⟨d0, d1, d2, d3, d4⟩ := row5 hbx1
       have HX1 := Lib.hid hbx1
       have HT1 := Lib.hid ht1
       have HK1 := Lib.hid (((TKept.refl B b w).alloc HT.out.2 _).trans hk1)
       clear ht1 hk1 hbx1)
    | (go_at_call 101
       with_reducible refine (kid_at0 HH.out (HT1.out) (HB.out.trans (HK1.out.below.mono HH.out.size)) HN.out.left.left.left).mono ?_
       rintro e w2 ⟨rfl, ht2, hk2⟩
       have hbx2 := box_kept hk2 HX1.out (by omega) (by decide)
       obtain ⟨d0, d1, d2, d3, d4⟩ := row5 hbx2
       have HX2 := Lib.hid hbx2
       have HT2 := Lib.hid ht2
       have HK2 := Lib.hid (HK1.out.trans hk2)
       clear ht2 hk2 hbx2)
    | (go_at_call 46
       with_reducible refine (putN1 (⟨#[119, 104, 101, 110]⟩) (HT2.out) HN.out.left.left (lit_ok (by decide)) rfl).mono ?_
       rintro e w3 ⟨rfl, ht3, hk3⟩
       have hbx3 := box_kept hk3 HX2.out (by omega) (by decide)
       obtain ⟨d0, d1, d2, d3, d4⟩ := row5 hbx3
       have HX3 := Lib.hid hbx3
       have HT3 := Lib.hid ht3
       have HK3 := Lib.hid (HK2.out.trans hk3)
       have HC3 := Lib.hid (ToksAt.came (b := b) HC.out HH.out.size (HB.out.trans (HK3.out.below.mono HH.out.size)))
       clear ht3 hk3 hbx3)
    | (go_at_call 102
       refine (names_any (s := [44]) _ HT3.out HC3.out HN.out.left (lit_ok (x := str [44]) (by decide))).mono ?_
       rintro e w4 ⟨rfl, ht4, hk4⟩
       have hbx4 := box_kept hk4 HX3.out (by omega) (by decide)
       obtain ⟨d0, d1, d2, d3, d4⟩ := row5 hbx4
       have HT4 := Lib.hid ht4
       have HK4 := Lib.hid (HK3.out.trans hk4)
       clear ht4 hk4 hbx4)
    | (go_at_call 46
       with_reducible refine (putN4 (⟨#[40]⟩) (str nm) (⟨#[41]⟩) (⟨#[41]⟩) (HT4.out) HN.out (lit_ok (by decide)) HH.out.hnm (lit_ok (by decide)) (lit_ok (by decide)) rfl).mono ?_
       rintro e w5 ⟨rfl, ht5, hk5⟩))
  go_end0
  exact ⟨rfl, by simpa [whenT, str_toList] using ht5, HK4.out.trans hk5⟩
end Go.Proofs.YtaimagfdjbedeaaGreatDoor
