/-
  put: tokens behind what a text under way holds.
-/
import Derived.Test.YtaimagfdjbedeaaGreatDoorTreeBuf
namespace Go.Proofs.YtaimagfdjbedeaaGreatDoor
open Go.RowKit

/-- writing to the text at b keeps the block n -/
def Kept1 (B b : Nat) (w : World) (n : Nat) : Prop := n < B ∨ (n ≠ b ∧ ∃ cs T fz, w.heap[n]? = some (.cells cs T fz) ∧ T ≠ 5)
theorem Kept1.heap {B b n : Nat} {w w' : World} (h : Kept1 B b w n) (hk : TKept B b w w') : w'.heap[n]? = w.heap[n]? := by
  rcases h with h | ⟨hb, cs, T, fz, hh, hT⟩
  · exact hk.1.block n h
  · rw [hh]
    refine hk.2 n _ hh (fun e => hb (by simpa using e)) fun c' fz' e => ?_
    injection e with _ e
    exact hT e
/-- tokens that stand where writing to the text at b keeps them -/
def ToksAt (B b : Nat) (w : World) (v : Value) (l : List Tx) : Prop := StrsAt w v l ∧ ∀ A n c, v = .slice (some A) n c → l ≠ [] → Kept1 B b w A.block
def TextL (B b : Nat) (bs : Tx) (g : Bool) (w : World) : Prop := IsText B b (Lib.byteCells bs) g w
theorem byte_snoc (bs : Tx) : Lib.byteCells bs ++ [.int .u8 32] = Lib.byteCells (bs ++ [32]) := by rw [Lib.byteCells_append]; rfl
theorem byte_str (bs x : Tx) : Lib.byteCells bs ++ Lib.strCells (str x) = Lib.byteCells (bs ++ x) := by rw [Lib.byteCells_append]; rfl
theorem ToksAt.cell {B b : Nat} {w w' : World} {A : Option Addr} {n c : Nat} {l : List Tx} (h : ToksAt B b w (.slice A n c) l) (hk : TKept B b w w') {k : Nat} {x : Tx} (hx : l[k]? = some x) : ∃ a, A = some a ∧ w'.cell? (a.add (k * 1)) = some (.string (str x)) := by
  obtain ⟨⟨A', c', e, _, _, hE⟩, hK⟩ := h
  cases e
  obtain ⟨L, hEL, rfl, _⟩ := hE k x hx
  obtain ⟨a, rfl, ha, _, d0⟩ := elem1 hEL
  refine ⟨a, rfl, ?_⟩
  have := (hK a _ _ rfl (fun e => by rw [e] at hx; cases hx)).heap hk
  rw [World.cell?, add_block, this, ← add_block a (k * 1), ← World.cell?]
  exact d0
set_option maxHeartbeats 1000000 in
theorem put_any {B b : Nat} {bs : Tx} {g0 : Bool} {v : Value} {l : List Tx} (w : World) (h : TextL B b bs g0 w) (hl : ToksAt B b w v l) (hlen : bs.length + (putL g0 l).length ≤ 140737488355328) (hBw : B ≤ w.heap.size) :
    Calls Tryz.prog 46 #[.pointer (some ⟨b, 0, none⟩), v] w fun e w' => e = .returned (.tuple #[]) ∧ TextL B b (bs ++ putL g0 l) (g0 || !l.isEmpty) w' ∧ TKept B b w w' := by
  have hT := Lib.hid hl
  obtain ⟨⟨A, c, rfl, hc, hm, _⟩, _⟩ := hl
  have hlm : l.length ≤ 9223372036854775807 := by unfold maxLen at hm; omega
  have HL := Lib.hid hlen
  have H0 := Lib.hid h
  have HB := Lib.hid hBw
  clear hc hm hlen h hBw
  go_enter Tryz.func46, Tryz.ntmps46
  go_wp2_with fail
  go_loopg [8] l.length (fun g v wr => ∃ k : Nat, k + g = l.length ∧ v = .int .i64 k ∧ TextL B b (bs ++ putL g0 (l.take k)) (g0 || !(l.take k).isEmpty) wr ∧ TKept B b w wr)
  case atStart => exact ⟨0, by omega, rfl, by simpa [putL] using H0.out, TKept.refl _ _ _⟩
  case round =>
    obtain ⟨k, hkg, rfl, hto, hbw⟩ := hrel
    have HK := Lib.hid hkg
    have HW := Lib.hid hbw
    have HTO := Lib.hid hto
    have HBR := Lib.hid (Nat.le_trans HB.out hbw.1.size)
    have hkl : k ≤ l.length := by omega
    clear hkg hbw hto
    by_cases hlt : k < l.length
    · obtain ⟨x, hx⟩ : ∃ x, l[k]? = some x := ⟨_, List.getElem?_eq_getElem hlt⟩
      obtain ⟨a, rfl, d0⟩ := hT.out.cell HW.out hx
      rw [Nat.mul_one] at d0
      have HS := Lib.hid (show putL g0 (l.take (k + 1)) = putL g0 (l.take k) ++ putL (g0 || !(l.take k).isEmpty) [x] by rw [take_snoc hx, putL_app])
      have HF := Lib.hid (show (g0 || !(l.take (k + 1)).isEmpty) = true by rw [take_snoc hx]; simp)
      have HN := Lib.hid (show bs.length + (putL g0 (l.take (k + 1))).length ≤ 140737488355328 by
        have e : putL g0 l = putL g0 (l.take (k + 1)) ++ putL (g0 || !(l.take (k + 1)).isEmpty) (l.drop (k + 1)) := by rw [← putL_app, List.take_append_drop]
        have := HL.out
        rw [e, List.length_append] at this
        omega)
      clear hx
      have HT1 := HTO.out
      generalize hg1 : (g0 || !(l.take k).isEmpty) = g1 at HT1 HS
      generalize hb1 : bs ++ putL g0 (l.take k) = bs1 at HT1
      have HB1 := Lib.hid hb1
      clear hg1 hb1 HTO
      have HT2 := Lib.hid HT1
      obtain ⟨p, hp⟩ : ∃ p, TextAt B b p (Lib.byteCells bs1) g1 wr := HT1.elim (fun h => ⟨_, h⟩) (fun h => ⟨_, h⟩)
      obtain ⟨hBb, vv, hbk, _, _⟩ := hp
      have c2 : wr.cell? ⟨b, 2, none⟩ = some (.bool g1) := by rw [Lib.cell_of_heap hbk]; rfl
      have f2 : wr.frozen? ⟨b, 2, none⟩ = false := Lib.frozen_of_heap hbk 2
      clear HT1 hbk
      cases g1
      · have HQ := Lib.hid (show bs1.length + x.length ≤ 140737488355328 by have := HN.out; rw [HS.out, ← List.length_append, ← List.append_assoc, HB1.out] at this; simpa [putL] using this)
        have HP := Lib.hid (show TextL B b bs1 true (wr.setCell ⟨b, 2, none⟩ (.bool true)) from HT2.out.elim (fun h => .inl (h.begun true)) (fun h => .inr (h.begun true)))
        have HKS := Lib.hid (show TKept B b wr (wr.setCell ⟨b, 2, none⟩ (.bool true)) from ⟨(Below.refl B wr).setCell (p := ⟨b, 2, none⟩) hBb _, (Lib.OthersKept.refl _ _ wr).setCell ⟨b, 2, none⟩ rfl _⟩)
        go_wp2_with (go_at_call 98; refine (tString_any B b _ true (str x) _ HP.out (by rw [Lib.byteCells_length]; exact HQ.out) (Nat.le_trans HBR.out HKS.out.1.size)).mono ?_; rintro e w1 ⟨rfl, ht1, hk1⟩)
        rw [byte_str] at ht1
        go_roundg (l.length - (k + 1))
        case measure => have := HK.out; omega
        case rel => exact ⟨k + 1, by omega, by go_num, by rw [HF.out, HS.out, ← List.append_assoc, HB1.out]; simpa [putL] using (show TextL B b (bs1 ++ x) true w1 from .inr ht1), HW.out.trans (HKS.out.trans hk1)⟩
      · have HQ := Lib.hid (show bs1.length + (x.length + 1) ≤ 140737488355328 by have := HN.out; rw [HS.out, ← List.length_append, ← List.append_assoc, HB1.out] at this; simpa [putL] using this)
        have HQ2 := Lib.hid (show (Lib.byteCells (bs1 ++ [32])).length + (str x).size ≤ 140737488355328 by rw [Lib.byteCells_length, List.length_append]; have := HQ.out; simp only [str_size, List.length_cons, List.length_nil]; omega)
        go_wp2_with (first
          | (go_at_call 97
             refine (tByte_any B b _ true 32 _ HT2.out (by rw [Lib.byteCells_length]; have := HQ.out; omega) HBR.out).mono ?_
             rintro e w1 ⟨rfl, ht1, hk1⟩
             rw [byte_snoc] at ht1
             have HTW := Lib.hid ht1
             have HKW := Lib.hid hk1
             obtain ⟨_, vv1, hbk1, _, _⟩ := ht1
             have e2 : w1.cell? ⟨b, 2, none⟩ = some (.bool true) := by rw [Lib.cell_of_heap hbk1]; rfl
             have k2 : w1.frozen? ⟨b, 2, none⟩ = false := Lib.frozen_of_heap hbk1 2
             clear hbk1 hk1
             have HP := Lib.hid (show TextL B b (bs1 ++ [32]) true (w1.setCell ⟨b, 2, none⟩ (.bool true)) from .inr (HTW.out.begun true))
             have HKS := Lib.hid (show TKept B b wr (w1.setCell ⟨b, 2, none⟩ (.bool true)) from HKW.out.trans ⟨(Below.refl B w1).setCell (p := ⟨b, 2, none⟩) hBb _, (Lib.OthersKept.refl _ _ w1).setCell ⟨b, 2, none⟩ rfl _⟩))
          | (go_at_call 98
             refine (tString_any B b _ true (str x) _ HP.out HQ2.out (Nat.le_trans HBR.out HKS.out.1.size)).mono ?_
             rintro e w2 ⟨rfl, ht2, hk2⟩))
        rw [byte_str] at ht2
        go_roundg (l.length - (k + 1))
        case measure => have := HK.out; omega
        case rel => exact ⟨k + 1, by omega, by go_num, by rw [HF.out, HS.out, ← List.append_assoc, HB1.out]; simpa [putL] using (show TextL B b (bs1 ++ [32] ++ x) true w2 from .inr ht2), HW.out.trans (HKS.out.trans hk2)⟩
    · have hke : k = l.length := by omega
      have HKE := Lib.hid hke
      clear hke
      go_wp2_with fail
      go_end0
      refine ⟨rfl, ?_, HW.out⟩
      have := HTO.out
      rwa [HKE.out, List.take_length] at this
end Go.Proofs.YtaimagfdjbedeaaGreatDoor
