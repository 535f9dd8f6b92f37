/-
  arms.
-/
import Derived.Test.YtaimagfdjbedeaaGreatDoorTreeWhen
namespace Go.Proofs.YtaimagfdjbedeaaGreatDoor
open Go.RowKit

theorem armsT_snoc {c : Tx} {t : List Tx} : ∀ (k : Nat) (cs : List Tx) (U : List (List Tx)), cs[k]? = some c → U[k]? = some t → armsT (cs.take (k + 1)) (U.take (k + 1)) = armsT (cs.take k) (U.take k) ++ [c :: [45, 62] :: t] := by
  intro k
  induction k with
  | zero =>
    intro cs U hc ht
    cases cs <;> cases U <;> simp_all [armsT]
  | succ k ih =>
    intro cs U hc ht
    cases cs with
    | nil => simp at hc
    | cons c' cs =>
      cases U with
      | nil => simp at ht
      | cons t' U =>
        simp only [List.getElem?_cons_succ] at hc ht
        simp only [List.take_succ_cons, armsT, List.cons_append]
        rw [ih cs U hc ht]
theorem armsT_take : ∀ (k : Nat) (cs : List Tx) (U : List (List Tx)), ∃ r, armsT cs U = armsT (cs.take k) (U.take k) ++ r := by
  intro k
  induction k with
  | zero => intro cs U; exact ⟨_, by simp [armsT]; rfl⟩
  | succ k ih =>
    intro cs U
    cases cs with
    | nil => exact ⟨[], by simp [armsT]⟩
    | cons c' cs =>
      cases U with
      | nil => exact ⟨[], by simp [armsT]⟩
      | cons t' U =>
        obtain ⟨r, hr⟩ := ih cs U
        exact ⟨r, by simp only [List.take_succ_cons, armsT, List.cons_append]; rw [← hr]⟩
theorem armsT_all : ∀ (k : Nat) (cs : List Tx) (U : List (List Tx)), (cs.length ≤ k ∨ U.length ≤ k) → armsT (cs.take k) (U.take k) = armsT cs U := by
  intro k
  induction k with
  | zero =>
    intro cs U h
    cases cs <;> cases U <;> simp_all [armsT]
  | succ k ih =>
    intro cs U h
    cases cs with
    | nil => simp [armsT]
    | cons c' cs =>
      cases U with
      | nil => simp [armsT]
      | cons t' U =>
        simp only [List.take_succ_cons, armsT]
        rw [ih cs U (by simpa using h)]
theorem armsT_nil (k : Nat) (cs : List Tx) (U : List (List Tx)) (hk : 0 < k) (hc : k ≤ cs.length) (ht : k ≤ U.length) : armsT (cs.take k) (U.take k) ≠ [] := by
  obtain ⟨j, rfl⟩ : ∃ j, k = j + 1 := ⟨k - 1, by omega⟩
  cases cs with
  | nil => simp at hc
  | cons c' cs =>
    cases U with
    | nil => simp at ht
    | cons t' U => simp [armsT]
theorem sepT_more (s : Tx) (l m : List (List Tx)) : ∃ r, sepT s (l ++ m) = sepT s l ++ r := by
  cases l with
  | nil => exact ⟨_, by simp [sepT]; rfl⟩
  | cons y r => exact ⟨_, by simp only [List.cons_append, sepT, List.flatMap_append, ← List.append_assoc]; rfl⟩
/-- the tokens of the first k arms, what stands before them ahead -/
def armsK (ts : List Tx) (word nm : Tx) (cs : List Tx) (U : List (List Tx)) (k : Nat) : List Tx := ts ++ [word, nm, [40]] ++ sepT [124] (armsT (cs.take k) (U.take k))
theorem armsK_ok {ts : List Tx} {word nm : Tx} {cs : List Tx} {U : List (List Tx)} (h : SizeOk (ts ++ armT word nm cs U)) (k : Nat) : SizeOk (armsK ts word nm cs U k) := by
  obtain ⟨r, hr⟩ := armsT_take k cs U
  obtain ⟨q, hq⟩ := sepT_more [124] (armsT (cs.take k) (U.take k)) r
  have e : ts ++ armT word nm cs U = armsK ts word nm cs U k ++ (q ++ [[41]]) := by
    unfold armT armsK
    rw [hr, hq]
    simp
  rw [e] at h
  exact h.left
theorem armsK_succ (ts : List Tx) (word nm : Tx) {cs : List Tx} {U : List (List Tx)} {k : Nat} {c : Tx} {t : List Tx} (hc : cs[k]? = some c) (ht : U[k]? = some t) : armsK ts word nm cs U (k + 1) = armsK ts word nm cs U k ++ ((if k = 0 then [] else [[124]]) ++ ([c, [45, 62]] ++ t)) := by
  unfold armsK
  rw [armsT_snoc k cs U hc ht, sepT_snoc]
  by_cases h0 : k = 0
  · subst h0; simp [armsT]
  · rw [if_neg h0, if_neg (armsT_nil k cs U (by omega) (by have := (List.getElem?_eq_some_iff.1 hc).1; omega) (by have := (List.getElem?_eq_some_iff.1 ht).1; omega))]
    simp
theorem elem5a {w : World} {a : Addr} {k : Nat} {c0 c1 c2 c3 c4 : Value} (h : ElemAt w (some a) k [c0, c1, c2, c3, c4]) :
    (a.add (k * 5)).block < w.heap.size ∧ w.cell? (a.add (k * 5)) = some c0 ∧ w.cell? { block := (a.add (k * 5)).block, off := (a.add (k * 5)).off + 1 } = some c1 ∧ w.cell? { block := (a.add (k * 5)).block, off := (a.add (k * 5)).off + 2 } = some c2 ∧ w.cell? { block := (a.add (k * 5)).block, off := (a.add (k * 5)).off + 3 } = some c3 ∧ w.cell? { block := (a.add (k * 5)).block, off := (a.add (k * 5)).off + 4 } = some c4 := by
  obtain ⟨a', e, _, r⟩ := elem5 h
  cases e
  exact r
theorem toks_at {B b : Nat} {w : World} {a : Addr} {n c : Nat} {l : List Tx} (h : ToksAt B b w (.slice (some a) n c) l) {k : Nat} {x : Tx} (hx : l[k]? = some x) : w.cell? (a.add k) = some (.string (str x)) := by
  obtain ⟨a', e, r⟩ := h.cell (TKept.refl _ _ _) hx
  cases e
  rwa [Nat.mul_one] at r
set_option maxHeartbeats 2000000 in
theorem arms_any {B b : Nat} {w0 : World} {op n : Int} {nm word : Tx} {cs : List Tx} {ks : List Ex} {cv : Value} {A : Option Addr} {c : Nat} {C : Nat → List Value} (h : NodeC B b w0 nm cs ks cv A c C) (ho : (str word).size ≤ maxLen) {w : World} {ts : List Tx} (ht : TextW B b ts w) (hb : Below w0.heap.size w0 w) (hn : SizeOk (ts ++ armT word nm cs (ks.map toksX))) :
    Calls Tryz.prog 53 #[.pointer (some ⟨b, 0, none⟩), .string (str word), .agg #[.int .i64 op, .string (str nm), .int .i64 n, cv, .slice A ks.length c]] w (PutPost B b (ts ++ armT word nm cs (ks.map toksX)) w) := by
  have HT := Lib.hid ht
  have HB := Lib.hid hb
  have HH := Lib.hid h
  have HO := Lib.hid ho
  have hsz := hb.size
  have hblt := ht.lt
  have HC := Lib.hid h.hcs
  have hlk : ks.length ≤ 9223372036854775807 := by have := h.hl; have := h.hc; unfold maxLen at this; omega
  obtain ⟨A2, k2, rfl, hl2, hm2, _⟩ := h.hcs
  have hlc : cs.length ≤ 9223372036854775807 := by unfold maxLen at hm2; omega
  have HZ := Lib.hid hn
  have HN := Lib.hid (show SizeOk (ts ++ [(str word).data.toList, (str nm).data.toList, (⟨#[40]⟩ : ByteArray).data.toList]) by have := armsK_ok hn 0; simpa [armsK, armsT, sepT, str_toList] using this)
  clear h hn ht hb ho hl2 hm2
  go_enter Tryz.func53, Tryz.ntmps53
  go_wp2_with (first
    | (go_at_call 46
       with_reducible refine (putN3 (str word) (str nm) ⟨#[40]⟩ (HT.out.alloc _) HN.out HO.out HH.out.hnm (lit_ok (by decide)) (by simp)).mono ?_
       rintro e w1 ⟨rfl, ht1, hk1⟩
       have hbx1 := box_kept hk1 (heap_alloc_new w _) (by omega) (by decide)
       obtain ⟨d0, d1, d2, d3, d4⟩ := row5 hbx1
       have HX1 := Lib.hid hbx1
       have HT1 := Lib.hid ht1
       have HK1 := Lib.hid (((TKept.refl B b w).alloc HT.out.2 _).trans hk1)
       clear ht1 hk1 hbx1))
  obtain ⟨m, hm⟩ : ∃ m : Nat, min (cs.length : Int) (ks.length : Int) = m := ⟨min cs.length ks.length, by omega⟩
  rw [hm]
  have HM := Lib.hid (show m ≤ cs.length ∧ m ≤ ks.length ∧ (cs.length ≤ m ∨ ks.length ≤ m) by omega)
  have hmx : m ≤ 9223372036854775807 := by omega
  clear hm
  go_loopg [20] m (fun g v wr => ∃ k : Nat, k + g = m ∧ v = .int .i64 k ∧ TextW B b (armsK ts word nm cs (ks.map toksX) k) wr ∧ TKept B b w wr ∧ wr.heap[w.heap.size]? = some (.cells #[.int .i64 op, .string (str nm), .int .i64 n, .slice A2 cs.length k2, .slice A ks.length c] 25 (0, 0)))
  case atStart => exact ⟨0, by omega, rfl, by simpa [armsK, armsT, sepT, str_toList] using HT1.out, HK1.out, HX1.out⟩
  case round =>
    obtain ⟨k, hkg, rfl, hto, hkw, hbx⟩ := hrel
    obtain ⟨d0, d1, d2, d3, d4⟩ := row5 hbx
    have HX := Lib.hid hbx
    have HK := Lib.hid hkg
    have HW := Lib.hid hkw
    have HTO := Lib.hid hto
    have hkl : k ≤ m := by omega
    clear hkg hto hkw hbx
    by_cases hlt : k < m
    · obtain ⟨y, hy⟩ : ∃ y, ks[k]? = some y := ⟨_, List.getElem?_eq_getElem (by have := HM.out.2.1; omega)⟩
      obtain ⟨x, hx⟩ : ∃ x, cs[k]? = some x := ⟨_, List.getElem?_eq_getElem (by have := HM.out.1; omega)⟩
      have HCX := Lib.hid hx
      have hkk : k < ks.length := by have := HM.out.2.1; omega
      have hkc : k < cs.length := by have := HM.out.1; omega
      have HKS := Lib.hid (armsK_succ ts word nm hx (show (ks.map toksX)[k]? = some (toksX y) by simp [hy]))
      have HZ1 := Lib.hid (armsK_ok HZ.out (k + 1))
      have hC := HH.out.hk k y hy
      have HI := Lib.hid (HH.out.ih k y hy)
      obtain ⟨o1, s1, n1, A3, m1, k1', A4, m2, k4', hL⟩ := (HH.out.hx k y hy).shape
      generalize C k = L at hC HI hL
      subst hL
      have HBR := Lib.hid (HB.out.trans (HW.out.below.mono HH.out.size))
      have hlx : (str x).size ≤ maxLen := by obtain ⟨_, _, _, _, _, h3⟩ := HC.out; obtain ⟨_, _, _, h⟩ := h3 k x hx; exact h
      have HLX := Lib.hid hlx
      obtain ⟨a2, rfl, _⟩ := (ToksAt.came (b := b) HC.out HH.out.size HBR.out).cell (TKept.refl _ _ _) hx
      obtain ⟨a, rfl, hcl⟩ := hC
      have HEL := Lib.hid (show ElemAt w0 (some a) k _ from ⟨a, rfl, hcl⟩)
      have e0 := toks_at (ToksAt.came (b := b) HC.out HH.out.size HBR.out) hx
      clear hy hx hlx
      by_cases h0 : k = 0
      · have HN3 := Lib.hid (show SizeOk (armsK ts word nm cs (ks.map toksX) k ++ [(str x).data.toList, (⟨#[45, 62]⟩ : ByteArray).data.toList] ++ toksX y) by have := HZ1.out; rw [HKS.out, if_pos h0] at this; simpa [str_toList] using this)
        have HQ := Lib.hid (show armsK ts word nm cs (ks.map toksX) (k + 1) = armsK ts word nm cs (ks.map toksX) k ++ [(str x).data.toList, (⟨#[45, 62]⟩ : ByteArray).data.toList] ++ toksX y by rw [HKS.out, if_pos h0]; simp [str_toList])
        have HKG := Lib.hid (show ¬ (0 < k) by omega)
        have hk0 : ¬ (0 < (k : Int)) := by omega
        clear h0
        go_wp2_with (first
        | (go_at_call 46
           with_reducible refine (putN2 (str x) ⟨#[45, 62]⟩ HTO.out HN3.out.left HLX.out (lit_ok (by decide)) rfl).mono ?_
           rintro e w2 ⟨rfl, ht2, hk2⟩
           have HW2 := Lib.hid (HW.out.trans hk2)
           have hbx2 := box_kept hk2 HX.out (by omega) (by decide)
           obtain ⟨d0, d1, d2, d3, d4⟩ := row5 hbx2
           have HX2 := Lib.hid hbx2
           have HT2 := Lib.hid ht2
           have HB2 := Lib.hid (HB.out.trans (HW2.out.below.mono HH.out.size))
           have e0 := toks_at (ToksAt.came (b := b) HC.out HH.out.size HB2.out) HCX.out
           obtain ⟨hab, q0, q1, q2, q3, q4⟩ := elem5a (HEL.out.under HB2.out)
           clear ht2 hk2 hbx2)
        | (go_at_call 22
           refine (HI.out _ _ HT2.out HB2.out HN3.out).mono ?_
           rintro e w3 ⟨rfl, ht3, hk3⟩))
        go_roundg (m - (k + 1))
        case measure => have := HK.out; omega
        case rel => exact ⟨k + 1, by omega, by go_num, by rw [HQ.out]; exact ht3, HW2.out.trans hk3, box_kept hk3 HX2.out (by omega) (by decide)⟩
      · have HN3 := Lib.hid (show SizeOk (armsK ts word nm cs (ks.map toksX) k ++ [(⟨#[124]⟩ : ByteArray).data.toList] ++ [(str x).data.toList, (⟨#[45, 62]⟩ : ByteArray).data.toList] ++ toksX y) by have := HZ1.out; rw [HKS.out, if_neg h0] at this; simpa [str_toList] using this)
        have HQ := Lib.hid (show armsK ts word nm cs (ks.map toksX) (k + 1) = armsK ts word nm cs (ks.map toksX) k ++ [(⟨#[124]⟩ : ByteArray).data.toList] ++ [(str x).data.toList, (⟨#[45, 62]⟩ : ByteArray).data.toList] ++ toksX y by rw [HKS.out, if_neg h0]; simp [str_toList])
        have hk0 : 0 < k := by omega
        clear h0
        go_wp2_with (first
        | (go_at_call 46
           with_reducible refine (putN1 ⟨#[124]⟩ HTO.out HN3.out.left.left (lit_ok (by decide)) rfl).mono ?_
           rintro e w2 ⟨rfl, ht2, hk2⟩
           have HW2 := Lib.hid (HW.out.trans hk2)
           have hbx2 := box_kept hk2 HX.out (by omega) (by decide)
           obtain ⟨d0, d1, d2, d3, d4⟩ := row5 hbx2
           have HX2 := Lib.hid hbx2
           have HT2 := Lib.hid ht2
           have HB2 := Lib.hid (HB.out.trans (HW2.out.below.mono HH.out.size))
           have e0 := toks_at (ToksAt.came (b := b) HC.out HH.out.size HB2.out) HCX.out
           obtain ⟨hab, q0, q1, q2, q3, q4⟩ := elem5a (HEL.out.under HB2.out)
           clear ht2 hk2 hbx2)
        | (go_at_call 46
           with_reducible refine (putN2 (str x) ⟨#[45, 62]⟩ HT2.out HN3.out.left HLX.out (lit_ok (by decide)) rfl).mono ?_
           rintro e w3 ⟨rfl, ht3, hk3⟩
           have HW3 := Lib.hid (HW2.out.trans hk3)
           have hbx3 := box_kept hk3 HX2.out (by omega) (by decide)
           obtain ⟨d0, d1, d2, d3, d4⟩ := row5 hbx3
           have HX3 := Lib.hid hbx3
           have HT3 := Lib.hid ht3
           have HB3 := Lib.hid (HB.out.trans (HW3.out.below.mono HH.out.size))
           have e0 := toks_at (ToksAt.came (b := b) HC.out HH.out.size HB3.out) HCX.out
           obtain ⟨hab, q0, q1, q2, q3, q4⟩ := elem5a (HEL.out.under HB3.out)
           clear ht3 hk3 hbx3)
        | (go_at_call 22
           refine (HI.out _ _ HT3.out HB3.out HN3.out).mono ?_
           rintro e w4 ⟨rfl, ht4, hk4⟩))
        go_roundg (m - (k + 1))
        case measure => have := HK.out; omega
        case rel => exact ⟨k + 1, by omega, by go_num, by rw [HQ.out]; exact ht4, HW3.out.trans hk4, box_kept hk4 HX3.out (by omega) (by decide)⟩
    · have hke : k = m := by omega
      have HKE := Lib.hid hke
      have HN2 := Lib.hid (show SizeOk (armsK ts word nm cs (ks.map toksX) k ++ [(⟨#[41]⟩ : ByteArray).data.toList]) by
        have := HZ.out
        unfold armsK
        rw [hke, armsT_all m _ _ (by have := HM.out.2.2; simpa using this)]
        simpa [armT] using this)
      clear hke
      go_wp2_with (first
        | (go_at_call 46
           with_reducible refine (putN1 ⟨#[41]⟩ HTO.out HN2.out (lit_ok (by decide)) rfl).mono ?_
           rintro e w5 ⟨rfl, ht5, hk5⟩))
      go_end0
      refine ⟨rfl, ?_, HW.out.trans hk5⟩
      unfold armsK at ht5
      rw [HKE.out, armsT_all m _ _ (by have := HM.out.2.2; simpa using this)] at ht5
      simpa [armT] using ht5
end Go.Proofs.YtaimagfdjbedeaaGreatDoor
