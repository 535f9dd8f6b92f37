/-
  The reference's Print; TreePrints' walk, and TreePrints at what came in.
-/
import Derived.Test.YtjelhdjckdcbaaaGreatDoorTreeRTxt
import Derived.Test.YtjelhdjckdcbaaaGreatDoorTreeRR
import Derived.Test.YtjelhdjckdcbaaaGreatDoorTreePrint
import Derived.Test.YtjelhdjckdcbaaaGreatDoorTreeLives
import Derived.Test.YtjelhdjckdcbaaaGreatDoorTreeLaid
namespace Go.Proofs.YtjelhdjckdcbaaaGreatDoor
open Go.RowKit

def PrPost (S : Tx) (g : Int) (w : World) (e : Ending) (w' : World) : Prop := e = .returned (.tuple #[.string (str S), .int .i64 g]) ∧ Below w.heap.size w w'
theorem right_cons {p : QProg} (h : rightL false p = 0) : ∀ e ∈ p.enums, e.cons ≠ [] := by
  have hr : rightP false p = true := by
    unfold rightL at h
    by_cases hr : rightP false p = true
    · exact hr
    · rw [if_neg hr] at h; omega
  unfold rightP at hr
  rw [Bool.and_eq_true] at hr
  have h1 := hr.1
  unfold allM at h1
  rw [Bool.and_eq_true, List.all_eq_true] at h1
  intro e he h0
  have := h1.2 e he
  unfold rightEnum at this
  rw [Bool.and_eq_true] at this
  have h2 := this.2
  unfold allM at h2
  rw [h0] at h2
  simp at h2
theorem prog_few_text {p : QProg} (h : i64P p) (hw : wProg p ≤ 1048576) (hc : ∀ e ∈ p.enums, e.cons ≠ []) : (joinB (progL p)).length ≤ 8388608 := by
  have h1 := prog_wN h
  have h2 := putL_wN (progT p) false
  rw [putL_false] at h2
  rw [progL_spell p hc]
  omega
set_option maxHeartbeats 2000000 in
set_option maxRecDepth 100000 in
theorem rPrint_any {w0 : World} (htab : Tab w0) {p : QProg} {L : List Value} (hL : ProgAt w0 L p) (hq : ∀ x ∈ p.nodes, (nodeX x).length ≤ 1048576) (hw : wProg p ≤ 1048576) :
    ∀ w, Below w0.heap.size w0 w → Calls Tryz.prog 18 #[.agg L.toArray] w (PrPost (if rightL false p = 0 then spellL (progT p) else []) (rightL false p) w) := by
  intro w hb
  have HR := Lib.hid (rRight_any false hL hq)
  have HB := Lib.hid hb
  have hsz := hb.size
  by_cases h0 : rightL false p = 0
  · have hc := right_cons h0
    have HT := Lib.hid (rTextS_any htab hL hw (prog_few_text hL.i64 hw hc))
    rw [progL_spell p hc] at HT
    rw [if_pos h0]
    rw [h0] at HR ⊢
    obtain ⟨A1, n1, k1, A2, n2, k2, rfl⟩ := hL.shape
    clear hL hq hw hb h0 hc htab
    go_enter Tryz.func18, Tryz.ntmps18
    go_wp2_with (first
      | (go_at_call 16
         (with_reducible refine (HR.out _ (HB.out.alloc (by omega) _)).mono ?_)
         rintro e w1 ⟨rfl, hb1⟩
         obtain ⟨V, rfl⟩ : ∃ W, W = w1 := ⟨_, rfl⟩
         have BX := Lib.hid (box_next hb1 (heap_alloc_new w _))
         have HV := Lib.hid (((Below.refl _ w).alloc (Nat.le_refl _) _).trans (hb1.mono (by simp)))
         obtain ⟨p0, p1⟩ := row2 BX.out
         clear hb1)
      | (go_at_call 37
         (with_reducible refine (HT.out _ (HB.out.trans (HV.out.mono hsz))).mono ?_)
         rintro e w2 ⟨rfl, hb2⟩))
    go_ret2
    exact ⟨rfl, HV.out.trans (hb2.mono HV.out.size)⟩
  · rw [if_neg h0]
    have hne : (rightL false p != 0) = true := by simpa using h0
    generalize rightL false p = g at *
    obtain ⟨A1, n1, k1, A2, n2, k2, rfl⟩ := hL.shape
    clear hL hq hw hb h0 htab
    go_enter Tryz.func18, Tryz.ntmps18
    go_wp2_with (go_at_call 16
                 (with_reducible refine (HR.out _ (HB.out.alloc (by omega) _)).mono ?_)
                 rintro e w1 ⟨rfl, hb1⟩
                 obtain ⟨V, rfl⟩ : ∃ W, W = w1 := ⟨_, rfl⟩
                 have HV := Lib.hid (((Below.refl _ w).alloc (Nat.le_refl _) _).trans (hb1.mono (by simp)))
                 clear hb1)
    go_ret2
    exact ⟨rfl, HV.out⟩
theorem cPrint_any {w0 : World} (htab : Tab w0) {p : QProg} {L : List Value} (hL : ProgAt w0 L p) (hq : ∀ x ∈ p.nodes, (nodeX x).length ≤ 1048576) (hs : SizeOk (progT p)) :
    ∀ w, Below w0.heap.size w0 w → Calls Tryz.prog 17 #[.agg L.toArray] w (PrPost (if rightL false p = 0 then spellL (progT p) else []) (rightL false p) w) := by
  intro w hb
  by_cases h0 : rightL false p = 0
  · rw [if_pos h0, h0]; exact print_ok htab hL hq hs h0 hb
  · rw [if_neg h0]; exact print_no htab hL hq hs rfl h0 hb
set_option maxHeartbeats 2000000 in
set_option maxRecDepth 100000 in
/-- the walk -/
theorem prints_walk {w : World} (htab : Tab w) {A1 A2 : Option Addr} {n1 k1 n2 k2 : Nat} {S : Tx} {g : Int}
    (HC : ∀ W, Below w.heap.size w W → Calls Tryz.prog 17 #[.agg #[.slice A1 n1 k1, .slice A2 n2 k2]] W (PrPost S g W))
    (HR : ∀ W, Below w.heap.size w W → Calls Tryz.prog 18 #[.agg #[.slice A1 n1 k1, .slice A2 n2 k2]] W (PrPost S g W)) :
    Calls Tryz.prog 5 #[.agg #[.slice A1 n1 k1, .slice A2 n2 k2]] w (Lived w) := by
  have HTB := Lib.hid htab
  have HC := Lib.hid HC
  have HR := Lib.hid HR
  clear htab
  go_enter Tryz.func5, Tryz.ntmps5
  go_wp2_with (first
    | (go_at_call 6
       refine (lives_any _ (HTB.out.under ((Below.refl _ w).alloc (Nat.le_refl _) _))).mono ?_
       rintro e w1 ⟨rfl, hb1⟩
       obtain ⟨V, rfl⟩ : ∃ W, W = w1 := ⟨_, rfl⟩
       have BX := Lib.hid (box_next hb1 (heap_alloc_new w _))
       have HV := Lib.hid (((Below.refl _ w).alloc (Nat.le_refl _) _).trans (hb1.mono (by simp)))
       obtain ⟨p0, p1⟩ := row2 BX.out
       clear hb1)
    | (go_at_call 17
       (with_reducible refine (HC.out _ HV.out).mono ?_)
       rintro e w2 ⟨rfl, hb2⟩
       obtain ⟨V2, rfl⟩ : ∃ W, W = w2 := ⟨_, rfl⟩
       have HV2 := Lib.hid (HV.out.trans (hb2.mono HV.out.size))
       obtain ⟨p0, p1⟩ := row2 (box_next hb2 BX.out)
       clear hb2)
    | (go_at_call 18
       (with_reducible refine (HR.out _ HV2.out).mono ?_)
       rintro e w3 ⟨rfl, hb3⟩))
  go_ret
  exact ⟨ret_bool (by simp), HV2.out.trans (hb3.mono HV2.out.size)⟩
theorem laid_prints {W : World} (h : laidMetH Tryz.prog Rows.treePrintsUptoRow.laid W) : Tab W := by
  have h : laidMet Tryz.prog Rows.treePrintsUptoRow.laid W := h
  exact tab_head h.tail.tail
theorem prints_law (L : List Value) (p : QProg) (w : World) (hL : ProgAt w L p) (hp : wProg p ≤ 1048576) (htab : Tab w) : Calls Tryz.prog 5 #[.agg L.toArray] w (Lived w) := by
  obtain ⟨A1, n1, k1, A2, n2, k2, rfl⟩ := hL.shape
  exact prints_walk htab (fun W h => cPrint_any htab hL (prog_few hp) (prog_size hL.i64 hp) W h) (fun W h => rPrint_any htab hL (prog_few hp) hp W h)
end Go.Proofs.YtjelhdjckdcbaaaGreatDoor
