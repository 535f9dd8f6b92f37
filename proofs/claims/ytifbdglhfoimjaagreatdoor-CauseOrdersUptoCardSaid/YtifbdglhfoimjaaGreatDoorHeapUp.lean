/-
  heap.up, heap.Push: a number more, and the least stays first.
-/
import Derived.Test.YtifbdglhfoimjaaGreatDoorHeapQ
namespace Go.Proofs.YtifbdglhfoimjaaGreatDoor
open Go.RowKit

section
variable {N B : Nat} {w : World} {qv : Value} {H : List Int} {ops : Array Oper} {rest : List Oper} {o : Oper} {a : Act} {Q : Exit → Act → World → Prop} {x y z : Operand} {ts : Array TypeId}
theorem QAt.cell (h : QAt N B w qv H) : w.cell? ⟨N, 0, none⟩ = some qv := by simp [World.cell?, h.1]
theorem inv_len (h : QAt N B w qv H) (hw : Region.wanted o (yielded ops a.tmps) = true) (ho : o.op = .call { callee := .invoke x "Len", args := #[], argTypes := ts }) (hx : a.eval x = .iface 86 (.pointer (some ⟨N, 0, none⟩)))
    (hK : ∀ w', Below w.heap.size w w' → wpList Tryz.prog ops Q rest (a.put o.dst (.int .i64 (H.length : Int))) w') : wpList Tryz.prog ops Q (o :: rest) a w := by
  refine list_inv m_len (y := qv) h.cell hw ho hx e_len (R := fun e w' => e = .returned (.int .i64 (H.length : Int)) ∧ Below w.heap.size w w') ?_ ?_
  · have := len_any h.2.1
    simpa using this
  · intro e w' hr
    exact ⟨_, hr.1, hK w' hr.2⟩
theorem inv_less (h : QAt N B w qv H) (hl : H.length ≤ 1048576) {i j : Nat} (hi : i < H.length) (hj : j < H.length) (hw : Region.wanted o (yielded ops a.tmps) = true) (ho : o.op = .call { callee := .invoke x "Less", args := #[y, z], argTypes := ts }) (hx : a.eval x = .iface 86 (.pointer (some ⟨N, 0, none⟩)))
    (hy : a.eval y = .int .i64 (i : Int)) (hz : a.eval z = .int .i64 (j : Int)) (hK : ∀ w', Below w.heap.size w w' → wpList Tryz.prog ops Q rest (a.put o.dst (.bool (decide (H.getD i 0 < H.getD j 0)))) w') : wpList Tryz.prog ops Q (o :: rest) a w := by
  refine list_inv m_less (y := qv) h.cell hw ho hx e_less (R := fun e w' => e = .returned (.bool (decide (H.getD i 0 < H.getD j 0))) ∧ Below w.heap.size w w') ?_ ?_
  · have := less_any h.2.1 hl hi hj
    simpa [hy, hz] using this
  · intro e w' hr
    exact ⟨_, hr.1, hK w' hr.2⟩
theorem inv_swap (h : QAt N B w qv H) (hl : H.length ≤ 1048576) {i j : Nat} (hi : i < H.length) (hj : j < H.length) (hw : Region.wanted o (yielded ops a.tmps) = true) (ho : o.op = .call { callee := .invoke x "Swap", args := #[y, z], argTypes := ts }) (hx : a.eval x = .iface 86 (.pointer (some ⟨N, 0, none⟩)))
    (hy : a.eval y = .int .i64 (i : Int)) (hz : a.eval z = .int .i64 (j : Int)) (hK : ∀ w', QAt N B w' qv (swapL H i j) → QStep N w qv w' qv → wpList Tryz.prog ops Q rest (a.put o.dst (.tuple #[])) w') : wpList Tryz.prog ops Q (o :: rest) a w := by
  refine list_inv m_swap (y := qv) h.cell hw ho hx e_swap (R := SwapPost B qv (swapL H i j) w) ?_ ?_
  · have := swap_any h.2.1 hl hi hj
    simpa [hy, hz] using this
  · rintro e w' ⟨h1, h2, h3⟩
    exact ⟨_, h1, hK w' ⟨(h3.block N (lt_of_heap h.1) (fun e => h.ne e.symm)).trans h.1, h2, h.2.2⟩ (QStep.of_grown h3)⟩
theorem inv_push (h : QAt N B w qv H) (hl : H.length ≤ 1048576) (hB : B ≤ w.heap.size) {k : Int} (hw : Region.wanted o (yielded ops a.tmps) = true) (ho : o.op = .call { callee := .invoke x "Push", args := #[y], argTypes := ts }) (hx : a.eval x = .iface 86 (.pointer (some ⟨N, 0, none⟩)))
    (hy : a.eval y = .iface 3 (.int .i64 k)) (hK : ∀ qv' w', QAt N B w' qv' (H ++ [k]) → QStep N w qv w' qv' → wpList Tryz.prog ops Q rest (a.put o.dst (.tuple #[])) w') : wpList Tryz.prog ops Q (o :: rest) a w := by
  refine list_inv m_push (y := .pointer (some ⟨N, 0, none⟩)) rfl hw ho hx e_push (R := QPost N B (H ++ [k]) w qv (.tuple #[])) ?_ ?_
  · have := push_any h hl hB k
    simpa [hy] using this
  · rintro e w' ⟨h1, qv', h2, h3⟩
    exact ⟨_, h1, hK qv' w' h2 h3⟩
theorem inv_pop (h : QAt N B w qv H) (hl : H.length ≤ 1048576) (h0 : 0 < H.length) (hw : Region.wanted o (yielded ops a.tmps) = true) (ho : o.op = .call { callee := .invoke x "Pop", args := #[], argTypes := ts }) (hx : a.eval x = .iface 86 (.pointer (some ⟨N, 0, none⟩)))
    (hK : ∀ qv' w', QAt N B w' qv' (H.take (H.length - 1)) → QStep N w qv w' qv' → wpList Tryz.prog ops Q rest (a.put o.dst (.iface 3 (.int .i64 (H.getD (H.length - 1) 0)))) w') : wpList Tryz.prog ops Q (o :: rest) a w := by
  refine list_inv m_pop (y := .pointer (some ⟨N, 0, none⟩)) rfl hw ho hx e_pop (R := QPost N B (H.take (H.length - 1)) w qv (.iface 3 (.int .i64 (H.getD (H.length - 1) 0)))) ?_ ?_
  · have := popQ_any h hl h0
    simpa using this
  · rintro e w' ⟨h1, qv', h2, h3⟩
    exact ⟨_, h1, hK qv' w' h2 h3⟩
end
/-- what a heap's climb or sinking leaves: the same numbers, the least first -/
def HeapPost (N B : Nat) (H : List Int) (n : Nat) (w : World) (qv : Value) (r : Value → Prop) (e : Ending) (w' : World) : Prop := ∃ v, e = .returned v ∧ r v ∧ ∃ qv' H', QAt N B w' qv' H' ∧ QStep N w qv w' qv' ∧ H'.Perm H ∧ HeapL H' n
set_option maxRecDepth 100000 in
set_option maxHeartbeats 1000000 in
theorem up_any {N B : Nat} {w : World} {qv : Value} {H : List Int} (h : QAt N B w qv H) (hl : H.length ≤ 1048576) {j : Nat} (hj : j < H.length) (hu : UpOk H j) : Calls Tryz.prog 52 #[.iface 86 (.pointer (some ⟨N, 0, none⟩)), .int .i64 (j : Int)] w (HeapPost N B H H.length w qv (fun v => v = .tuple #[])) := by
  have HQ := Lib.hid h
  have HL := Lib.hid hl
  have HJ := Lib.hid hj
  have HU := Lib.hid hu
  clear h hl hj hu
  go_enter Tryz.func52, Tryz.ntmps52
  go_wp2_with fail
  go_loopg [1] j (fun g v wr => ∃ (k : Nat) (H' : List Int) (qv' : Value), g = k ∧ v = .int .i64 (k : Int) ∧ k < H'.length ∧ H'.length = H.length ∧ H'.Perm H ∧ UpOk H' k ∧ QAt N B wr qv' H' ∧ QStep N w qv wr qv')
  case atStart => exact ⟨j, H, qv, rfl, rfl, HJ.out, rfl, List.Perm.refl _, HU.out, HQ.out, QStep.refl _ _ _⟩
  case round =>
    obtain ⟨k, H', qv', hgk, rfl, hk, hlen, hperm, hup, hq, hstep⟩ := hrel
    have HG := Lib.hid hgk
    obtain ⟨wq, rfl⟩ : ∃ W, W = wr := ⟨_, rfl⟩
    have HK := Lib.hid hk
    have HLEN := Lib.hid hlen
    have HPERM := Lib.hid hperm
    have HUP := Lib.hid hup
    have HQK := Lib.hid hq
    have HST := Lib.hid hstep
    have HLK := Lib.hid (show H'.length ≤ 1048576 by rw [hlen]; exact HL.out)
    have hkb : k ≤ 1048576 := by have := HLK.out; omega
    clear hgk hk hlen hperm hup hq hstep
    by_cases h0 : k = 0
    · subst h0
      have HP := Lib.hid (show HeapPost N B H H.length w qv (fun v => v = .tuple #[]) (.returned (.tuple #[])) wq from ⟨_, rfl, rfl, qv', H', HQK.out, HST.out, HPERM.out, by rw [← HLEN.out]; exact HUP.out.first⟩)
      go_wp2_with fail
      exact bodyPost_ret (results_none rfl _ _ _) rfl HP.out
    · obtain ⟨p, hp⟩ : ∃ p, p = (k - 1) / 2 := ⟨_, rfl⟩
      have hq : ((k : Int) - 1).tdiv 2 = (p : Int) := by rw [Int.tdiv_eq_ediv_of_nonneg (by omega)]; omega
      have hne : ((p : Int) == (k : Int)) = false := by simp; omega
      have HI := Lib.hid (show p < H'.length by have := HK.out; omega)
      have HPP := Lib.hid hp
      have hpb : p ≤ 1048576 := by omega
      have H0 := Lib.hid h0
      clear h0 hp
      by_cases hlt : H'.getD k 0 < H'.getD p 0
      · have HLT := Lib.hid hlt
        clear hlt
        go_wp2_with (first
          | (refine inv_less HQK.out HLK.out HK.out HI.out rfl rfl rfl rfl rfl ?_
             intro w1 hb1
             obtain ⟨V1, rfl⟩ : ∃ W, W = w1 := ⟨_, rfl⟩
             rw [decide_eq_true HLT.out]
             have HQ1 := Lib.hid (HQK.out.under hb1)
             have HS1 := Lib.hid (HST.out.trans (QStep.of_below hb1))
             clear hb1)
          | (refine inv_swap HQ1.out HLK.out HI.out HK.out rfl rfl rfl rfl rfl ?_
             intro w2 hq2 hs2
             obtain ⟨V2, rfl⟩ : ∃ W, W = w2 := ⟨_, rfl⟩
             have HQ2 := Lib.hid hq2
             have HS2 := Lib.hid (HS1.out.trans hs2)
             clear hq2 hs2))
        go_roundg p
        case measure => have := H0.out; have := HG.out; have := HPP.out; omega
        case rel => exact ⟨p, swapL H' p k, qv', rfl, rfl, by rw [swapL_len]; exact HI.out, by rw [swapL_len]; exact HLEN.out, (swapL_perm HI.out HK.out).trans HPERM.out, by have := HUP.out.swap (by have := H0.out; omega) HK.out (by rw [← HPP.out]; exact HLT.out); rwa [← HPP.out] at this, HQ2.out, HS2.out⟩
      · have HLT := Lib.hid hlt
        clear hlt
        go_wp2_with (first
          | (refine inv_less HQK.out HLK.out HK.out HI.out rfl rfl rfl rfl rfl ?_
             intro w1 hb1
             obtain ⟨V1, rfl⟩ : ∃ W, W = w1 := ⟨_, rfl⟩
             rw [decide_eq_false HLT.out]
             have HQ1 := Lib.hid (HQK.out.under hb1)
             have HS1 := Lib.hid (HST.out.trans (QStep.of_below hb1))
             clear hb1))
        have HP : HeapPost N B H H.length w qv (fun v => v = .tuple #[]) (.returned (.tuple #[])) V1 := ⟨_, rfl, rfl, qv', H', HQ1.out, HS1.out, HPERM.out, by rw [← HLEN.out]; exact HUP.out.stop (by rw [← HPP.out]; have := HLT.out; omega)⟩
        exact bodyPost_ret (results_none rfl _ _ _) rfl HP
end Go.Proofs.YtifbdglhfoimjaaGreatDoor
