/-
  call.
-/
import Derived.Test.YtaimagfdjbedeaaGreatDoorTreeArms
namespace Go.Proofs.YtaimagfdjbedeaaGreatDoor
open Go.RowKit

/-- the tokens of the first k arguments, what stands before them ahead -/
def callK (ts : List Tx) (nm : Tx) (cs : List Tx) (U : List (List Tx)) (k : Nat) : List Tx := ts ++ [nm] ++ staticsT cs ++ [[40]] ++ sepT [44] (U.take k)
theorem callK_ok {ts : List Tx} {nm : Tx} {cs : List Tx} {U : List (List Tx)} (h : SizeOk (ts ++ callT nm cs U)) (k : Nat) : SizeOk (callK ts nm cs U k) := by
  obtain ⟨q, hq⟩ := sepT_more [44] (U.take k) (U.drop k)
  rw [List.take_append_drop] at hq
  have e : ts ++ callT nm cs U = callK ts nm cs U k ++ (q ++ [[41]]) := by
    unfold callT callK
    rw [hq]
    simp
  rw [e] at h
  exact h.left
theorem callK_succ (ts : List Tx) (nm : Tx) {cs : List Tx} {U : List (List Tx)} {k : Nat} {t : List Tx} (ht : U[k]? = some t) : callK ts nm cs U (k + 1) = callK ts nm cs U k ++ ((if k = 0 then [] else [[44]]) ++ t) := by
  unfold callK
  have hk : k < U.length := (List.getElem?_eq_some_iff.1 ht).1
  rw [take_snoc ht, sepT_snoc]
  by_cases h0 : k = 0
  · subst h0; simp
  · have h1 : U.take k ≠ [] := by
      intro e
      have := congrArg List.length e
      rw [List.length_take, List.length_nil] at this
      omega
    rw [if_neg h0, if_neg h1]
    simp
set_option maxHeartbeats 2000000 in
theorem call_any {B b : Nat} {w0 : World} {op n : Int} {nm : Tx} {cs : List Tx} {ks : List Ex} {cv : Value} {A : Option Addr} {c : Nat} {C : Nat → List Value} (h : NodeC B b w0 nm cs ks cv A c C) {w : World} {ts : List Tx} (ht : TextW B b ts w) (hb : Below w0.heap.size w0 w) (hn : SizeOk (ts ++ callT nm cs (ks.map toksX))) :
    Calls Tryz.prog 54 #[.pointer (some ⟨b, 0, none⟩), .agg #[.int .i64 op, .string (str nm), .int .i64 n, cv, .slice A ks.length c]] w (PutPost B b (ts ++ callT nm cs (ks.map toksX)) w) := by
  have HT := Lib.hid ht
  have HB := Lib.hid hb
  have HH := Lib.hid h
  have hsz := hb.size
  have hblt := ht.lt
  have HC := Lib.hid h.hcs
  have hlk : ks.length ≤ 9223372036854775807 := by have := h.hl; have := h.hc; unfold maxLen at this; omega
  obtain ⟨A2, n2, k2, rfl⟩ : ∃ A2 n2 k2, cv = .slice A2 n2 k2 := by obtain ⟨A2, k2, e, _⟩ := h.hcs; exact ⟨_, _, _, e⟩
  have HZ := Lib.hid hn
  have HN := Lib.hid (show SizeOk (ts ++ [(str nm).data.toList] ++ staticsT cs ++ [(⟨#[40]⟩ : ByteArray).data.toList]) by have := callK_ok hn 0; simpa [callK, sepT, str_toList] using this)
  clear h hn ht hb
  go_enter Tryz.func54, Tryz.ntmps54
  go_wp2_with (first
    | (go_at_call 46
       with_reducible refine (putN1 (str nm) (HT.out.alloc _) HN.out.left.left HH.out.hnm (by simp)).mono ?_
       rintro e w1 ⟨rfl, ht1, hk1⟩
       have hbx1 := box_kept hk1 (heap_alloc_new w _) (by omega) (by decide)
       obtain ⟨d0, d1, d2, d3, d4⟩ := row5 hbx1
       have HX1 := Lib.hid hbx1
       have HT1 := Lib.hid ht1
       have HK1 := Lib.hid (((TKept.refl B b w).alloc HT.out.2 _).trans hk1)
       have HC1 := Lib.hid (ToksAt.came (b := b) HC.out HH.out.size (HB.out.trans (HK1.out.below.mono HH.out.size)))
       clear ht1 hk1 hbx1)
    | (go_at_call 103
       refine (statics_any _ HT1.out HC1.out HN.out.left).mono ?_
       rintro e w2 ⟨rfl, ht2, hk2⟩
       have hbx2 := box_kept hk2 HX1.out (by omega) (by decide)
       obtain ⟨d0, d1, d2, d3, d4⟩ := row5 hbx2
       have HX2 := Lib.hid hbx2
       have HT2 := Lib.hid ht2
       have HK2 := Lib.hid (HK1.out.trans hk2)
       clear ht2 hk2 hbx2)
    | (go_at_call 46
       with_reducible refine (putN1 ⟨#[40]⟩ HT2.out HN.out (lit_ok (by decide)) rfl).mono ?_
       rintro e w3 ⟨rfl, ht3, hk3⟩
       have hbx3 := box_kept hk3 HX2.out (by omega) (by decide)
       obtain ⟨d0, d1, d2, d3, d4⟩ := row5 hbx3
       have HT3 := Lib.hid ht3
       have HK3 := Lib.hid (HK2.out.trans hk3)
       clear ht3 hk3 hbx3))
  go_loopg [21] ks.length (fun g v wr => ∃ k : Nat, k + g = ks.length ∧ v = .int .i64 k ∧ TextW B b (callK ts nm cs (ks.map toksX) k) wr ∧ TKept B b w wr)
  case atStart => exact ⟨0, by omega, rfl, by simpa [callK, sepT, str_toList] using HT3.out, HK3.out⟩
  case round =>
    obtain ⟨k, hkg, rfl, hto, hkw⟩ := hrel
    have HK := Lib.hid hkg
    have HW := Lib.hid hkw
    have HTO := Lib.hid hto
    have hkl : k ≤ ks.length := by omega
    have hblr := hto.lt
    clear hkg hto hkw
    by_cases hlt : k < ks.length
    · obtain ⟨y, hy⟩ : ∃ y, ks[k]? = some y := ⟨_, List.getElem?_eq_getElem hlt⟩
      have HKS := Lib.hid (callK_succ ts nm (cs := cs) (show (ks.map toksX)[k]? = some (toksX y) by simp [hy]))
      have HZ1 := Lib.hid (callK_ok HZ.out (k + 1))
      have hC := HH.out.hk k y hy
      have HI := Lib.hid (HH.out.ih k y hy)
      obtain ⟨o1, s1, n1, A3, m1, k1', A4, m2, k4', hL⟩ := (HH.out.hx k y hy).shape
      generalize C k = L at hC HI hL
      subst hL
      have HBR := Lib.hid (HB.out.trans (HW.out.below.mono HH.out.size))
      have hszr := HBR.out.size
      obtain ⟨a, rfl, hab, haa, q0, q1, q2, q3, q4⟩ := elem5 (hC.under HBR.out)
      clear hy hC
      by_cases h0 : k = 0
      · have HN3 := Lib.hid (show SizeOk (callK ts nm cs (ks.map toksX) k ++ toksX y) by have := HZ1.out; rw [HKS.out, if_pos h0] at this; simpa using this)
        have HQ := Lib.hid (show callK ts nm cs (ks.map toksX) (k + 1) = callK ts nm cs (ks.map toksX) k ++ toksX y by rw [HKS.out, if_pos h0]; simp)
        have hk0 : ¬ (0 < (k : Int)) := by omega
        clear h0
        go_wp2_with (go_at_call 22; refine (HI.out _ _ (HTO.out.alloc _) (HBR.out.alloc (by omega) _) HN3.out).mono ?_; rintro e w3 ⟨rfl, ht3, hk3⟩)
        go_roundg (ks.length - (k + 1))
        case measure => have := HK.out; omega
        case rel => exact ⟨k + 1, by omega, by go_num, by rw [HQ.out]; exact ht3, (HW.out.alloc HT.out.2 _).trans hk3⟩
      · have HN3 := Lib.hid (show SizeOk (callK ts nm cs (ks.map toksX) k ++ [(⟨#[44]⟩ : ByteArray).data.toList] ++ toksX y) by have := HZ1.out; rw [HKS.out, if_neg h0] at this; simpa [str_toList] using this)
        have HQ := Lib.hid (show callK ts nm cs (ks.map toksX) (k + 1) = callK ts nm cs (ks.map toksX) k ++ [(⟨#[44]⟩ : ByteArray).data.toList] ++ toksX y by rw [HKS.out, if_neg h0]; simp)
        have hk0 : 0 < k := by omega
        clear h0
        go_wp2_with (first
        | (go_at_call 46
           with_reducible refine (putN1 ⟨#[44]⟩ (HTO.out.alloc _) HN3.out.left (lit_ok (by decide)) (by simp)).mono ?_
           rintro e w2 ⟨rfl, ht2, hk2⟩
           have HW2 := Lib.hid ((HW.out.alloc HT.out.2 _).trans hk2)
           have hbx2 := box_kept hk2 (heap_alloc_new wr _) (by omega) (by decide)
           obtain ⟨d0, d1, d2, d3, d4⟩ := row5 hbx2
           have HT2 := Lib.hid ht2
           have HB2 := Lib.hid (HB.out.trans (HW2.out.below.mono HH.out.size))
           clear ht2 hk2 hbx2)
        | (go_at_call 22
           refine (HI.out _ _ HT2.out HB2.out HN3.out).mono ?_
           rintro e w4 ⟨rfl, ht4, hk4⟩))
        go_roundg (ks.length - (k + 1))
        case measure => have := HK.out; omega
        case rel => exact ⟨k + 1, by omega, by go_num, by rw [HQ.out]; exact ht4, HW2.out.trans hk4⟩
    · have hke : k = ks.length := by omega
      have HKE := Lib.hid hke
      have HN2 := Lib.hid (show SizeOk (callK ts nm cs (ks.map toksX) k ++ [(⟨#[41]⟩ : ByteArray).data.toList]) by
        have := HZ.out
        unfold callK
        rw [hke, List.take_of_length_le (by simp)]
        simpa [callT] using this)
      clear hke
      go_wp2_with (go_at_call 46; (with_reducible refine (putN1 ⟨#[41]⟩ HTO.out HN2.out (lit_ok (by decide)) rfl).mono ?_); rintro e w5 ⟨rfl, ht5, hk5⟩)
      go_end0
      refine ⟨rfl, ?_, HW.out.trans hk5⟩
      unfold callK at ht5
      rw [HKE.out, List.take_of_length_le (by simp)] at ht5
      simpa [callT] using ht5
end Go.Proofs.YtaimagfdjbedeaaGreatDoor
