/-
  statics, kid, prefix, infix, choice: given the contract of expr for the kids.
-/
import Derived.Test.YtaimagfdjbedeaaGreatDoorTreeNms
import Derived.Test.YtaimagfdjbedeaaGreatDoorTreeEqS
namespace Go.Proofs.YtaimagfdjbedeaaGreatDoor
open Go.RowKit

/-- the contract of expr for one expression -/
def ExprC (B b : Nat) (w0 : World) (L : List Value) (x : Ex) : Prop := ∀ (w : World) (ts : List Tx), TextW B b ts w → Below w0.heap.size w0 w → SizeOk (ts ++ toksX x) →
  Calls Tryz.prog 22 #[.pointer (some ⟨b, 0, none⟩), .agg L.toArray] w (PutPost B b (ts ++ toksX x) w)
structure NodeC (B b : Nat) (w0 : World) (nm : Tx) (cs : List Tx) (ks : List Ex) (cv : Value) (A : Option Addr) (c : Nat) (C : Nat → List Value) : Prop where
  size : w0.heap.size ≤ B
  hnm : (str nm).size ≤ maxLen
  hcs : StrsAt w0 cv cs
  hl : ks.length ≤ c
  hc : c ≤ maxLen
  hk : ∀ (i : Nat) y, ks[i]? = some y → ElemAt w0 A i (C i)
  hx : ∀ (i : Nat) y, ks[i]? = some y → ExAt w0 (C i) y
  ih : ∀ (i : Nat) y, ks[i]? = some y → ExprC B b w0 (C i) y
theorem box_kept {B b N : Nat} {W w1 : World} {cs : Array Value} {T : TypeId} (h : TKept B b W w1) (hb : W.heap[N]? = some (.cells cs T (0, 0))) (hN : N ≠ b) (hT : T ≠ 5) : w1.heap[N]? = some (.cells cs T (0, 0)) :=
  h.2 N _ hb (fun e => hN (by simpa using e)) fun c' fz' e => by injection e with _ e; exact hT e
theorem lit_ok {x : ByteArray} (h : x.size ≤ 100) : x.size ≤ maxLen := by unfold maxLen; omega
theorem putN1 {B b N : Nat} {ts : List Tx} {W : World} (x : ByteArray) (h : TextW B b ts W) (hlen : SizeOk (ts ++ [x.data.toList])) (hx : x.size ≤ maxLen) (hN : W.heap.size = N) :
    Calls Tryz.prog 46 #[.pointer (some ⟨b, 0, none⟩), .slice (some ⟨N, 0, none⟩) 1 1] (W.alloc (.cells #[.string x] 9)) (PutPost B b (ts ++ [x.data.toList]) W) := by
  subst hN
  exact put1 h hlen hx
theorem putN2 {B b N : Nat} {ts : List Tx} {W : World} (x y : ByteArray) (h : TextW B b ts W) (hlen : SizeOk (ts ++ [x.data.toList, y.data.toList])) (hx : x.size ≤ maxLen) (hy : y.size ≤ maxLen) (hN : W.heap.size = N) :
    Calls Tryz.prog 46 #[.pointer (some ⟨b, 0, none⟩), .slice (some ⟨N, 0, none⟩) 2 2] (W.alloc (.cells #[.string x, .string y] 9)) (PutPost B b (ts ++ [x.data.toList, y.data.toList]) W) := by
  subst hN
  exact put2 h hlen hx hy
theorem putN3 {B b N : Nat} {ts : List Tx} {W : World} (x y z : ByteArray) (h : TextW B b ts W) (hlen : SizeOk (ts ++ [x.data.toList, y.data.toList, z.data.toList])) (hx : x.size ≤ maxLen) (hy : y.size ≤ maxLen) (hz : z.size ≤ maxLen) (hN : W.heap.size = N) :
    Calls Tryz.prog 46 #[.pointer (some ⟨b, 0, none⟩), .slice (some ⟨N, 0, none⟩) 3 3] (W.alloc (.cells #[.string x, .string y, .string z] 9)) (PutPost B b (ts ++ [x.data.toList, y.data.toList, z.data.toList]) W) := by
  subst hN
  exact put3 h hlen hx hy hz
set_option maxHeartbeats 1000000 in
theorem kid_any {B b : Nat} {w0 : World} {op n : Int} {nm : Tx} {cs : List Tx} {ks : List Ex} {cv : Value} {A : Option Addr} {c : Nat} {C : Nat → List Value} (h : NodeC B b w0 nm cs ks cv A c C) (i : Nat) {w : World} {ts : List Tx} (ht : TextW B b ts w) (hb : Below w0.heap.size w0 w) (hn : SizeOk (ts ++ kidT (ks.map toksX) i)) :
    Calls Tryz.prog 101 #[.pointer (some ⟨b, 0, none⟩), .agg #[.int .i64 op, .string (str nm), .int .i64 n, cv, .slice A ks.length c], .int .i64 i] w (PutPost B b (ts ++ kidT (ks.map toksX) i) w) := by
  have HT := Lib.hid ht
  have HB := Lib.hid hb
  have hlm : ks.length ≤ 9223372036854775807 := by have := h.hl; have := h.hc; unfold maxLen at this; omega
  have hsz := hb.size
  have hcv : ∃ A2 n2 k2, cv = .slice A2 n2 k2 := by obtain ⟨A2, k2, e, _⟩ := h.hcs; exact ⟨_, _, _, e⟩
  obtain ⟨A2, n2, k2, rfl⟩ := hcv
  by_cases hlt : i < ks.length
  · obtain ⟨y, hy⟩ : ∃ y, ks[i]? = some y := ⟨_, List.getElem?_eq_getElem hlt⟩
    have ek : kidT (ks.map toksX) i = toksX y := by simp [kidT, List.getD, hy]
    rw [ek] at hn ⊢
    have HN := Lib.hid hn
    have hC := h.hk i y hy
    have HI := Lib.hid (h.ih i y hy)
    obtain ⟨o1, s1, n1, A3, m1, k1, A4, m2, k4, hL⟩ := (h.hx i y hy).shape
    generalize C i = L at hC HI hL
    subst hL
    clear hy ek hn h ht
    obtain ⟨a, rfl, ha, haa, d0, d1, d2, d3, d4⟩ := elem5 (hC.under hb)
    clear hC hb
    go_enter Tryz.func101, Tryz.ntmps101
    go_wp2_with (go_at_call 22; refine (HI.out _ _ (HT.out.alloc _) (HB.out.alloc (by omega) _) HN.out).mono ?_; rintro e w1 ⟨rfl, ht1, hk1⟩)
    go_end0
    exact ⟨rfl, ht1, ((TKept.refl B b w).alloc HT.out.2 _).trans hk1⟩
  · have ek : kidT (ks.map toksX) i = [[63]] := by simp [kidT, List.getD, List.getElem?_eq_none (Nat.le_of_not_lt hlt)]
    rw [ek] at hn ⊢
    have HN := Lib.hid (show SizeOk (ts ++ [(⟨#[63]⟩ : ByteArray).data.toList]) from hn)
    clear ek hn h ht hb
    go_enter Tryz.func101, Tryz.ntmps101
    go_wp2_with (go_at_call 46; (with_reducible refine (putN1 ⟨#[63]⟩ (HT.out.alloc _) HN.out (lit_ok (by decide)) (by simp)).mono ?_); rintro e w1 ⟨rfl, ht1, hk1⟩)
    go_end0
    exact ⟨rfl, ht1, ((TKept.refl B b w).alloc HT.out.2 _).trans hk1⟩
set_option maxHeartbeats 1000000 in
theorem prefix_any {B b : Nat} {w0 : World} {op n : Int} {nm o : Tx} {cs : List Tx} {ks : List Ex} {cv : Value} {A : Option Addr} {c : Nat} {C : Nat → List Value} (h : NodeC B b w0 nm cs ks cv A c C) (ho : (str o).size ≤ maxLen) {w : World} {ts : List Tx} (ht : TextW B b ts w) (hb : Below w0.heap.size w0 w) (hn : SizeOk (ts ++ prefixT o (ks.map toksX))) :
    Calls Tryz.prog 49 #[.pointer (some ⟨b, 0, none⟩), .string (str o), .agg #[.int .i64 op, .string (str nm), .int .i64 n, cv, .slice A ks.length c]] w (PutPost B b (ts ++ prefixT o (ks.map toksX)) w) := by
  have HT := Lib.hid ht
  have HB := Lib.hid hb
  have HH := Lib.hid h
  have HO := Lib.hid ho
  have hsz := hb.size
  have hblt := ht.lt
  obtain ⟨A2, n2, k2, rfl⟩ : ∃ A2 n2 k2, cv = .slice A2 n2 k2 := by obtain ⟨A2, k2, e, _⟩ := h.hcs; exact ⟨_, _, _, e⟩
  have HN := Lib.hid (show SizeOk (ts ++ [(⟨#[40]⟩ : ByteArray).data.toList, (str o).data.toList] ++ kidT (ks.map toksX) 0 ++ [(⟨#[41]⟩ : ByteArray).data.toList]) by simpa [prefixT, str_toList] using hn)
  clear h hn ht hb ho
  go_enter Tryz.func49, Tryz.ntmps49
  go_wp2_with (first
    | (go_at_call 46
       (with_reducible refine (putN2 ⟨#[40]⟩ (str o) (HT.out.alloc _) HN.out.left.left (lit_ok (by decide)) HO.out (by simp)).mono ?_)
       rintro e w1 ⟨rfl, ht1, hk1⟩
       have hbx := box_kept hk1 (heap_alloc_new w _) (by omega) (by decide)
       obtain ⟨d0, d1, d2, d3, d4⟩ := row5 hbx
       have HT1 := Lib.hid ht1
       have HK1 := Lib.hid (((TKept.refl B b w).alloc HT.out.2 _).trans hk1)
       clear ht1 hk1 hbx)
    | (go_at_call 101
       (refine (kid_any HH.out 0 HT1.out (HB.out.trans (HK1.out.1.mono HH.out.size)) HN.out.left).mono ?_)
       rintro e w2 ⟨rfl, ht2, hk2⟩)
    | (go_at_call 46
       (with_reducible refine (putN1 ⟨#[41]⟩ ht2 HN.out (lit_ok (by decide)) rfl).mono ?_)
       rintro e w3 ⟨rfl, ht3, hk3⟩))
  go_end0
  exact ⟨rfl, by simpa [prefixT, str_toList] using ht3, HK1.out.trans (hk2.trans hk3)⟩
end Go.Proofs.YtaimagfdjbedeaaGreatDoor
