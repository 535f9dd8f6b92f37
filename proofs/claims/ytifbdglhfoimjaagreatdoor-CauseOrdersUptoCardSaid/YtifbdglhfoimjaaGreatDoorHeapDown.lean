/-
  heap.Push, heap.down, heap.Pop.
-/
import Derived.Test.YtifbdglhfoimjaaGreatDoorHeapUp
namespace Go.Proofs.YtifbdglhfoimjaaGreatDoor
open Go.RowKit

set_option maxRecDepth 100000 in
set_option maxHeartbeats 1000000 in
theorem heapPush_any {N B : Nat} {w : World} {qv : Value} {H : List Int} (h : QAt N B w qv H) (hl : H.length < 1048576) (hB : B ≤ w.heap.size) (hh : HeapL H H.length) (x : Int) :
    Calls Tryz.prog 31 #[.iface 86 (.pointer (some ⟨N, 0, none⟩)), .iface 3 (.int .i64 x)] w (HeapPost N B (H ++ [x]) (H.length + 1) w qv (fun v => v = .tuple #[])) := by
  have HQ := Lib.hid h
  have HL := Lib.hid (show H.length ≤ 1048576 by omega)
  have HB := Lib.hid hB
  have HU := Lib.hid (UpOk.push hh x)
  have HX := Lib.hid (show (H ++ [x]).length ≤ 1048576 ∧ H.length < (H ++ [x]).length by simp; omega)
  have HLN := Lib.hid (show (((H ++ [x]).length : Nat) : Int) - 1 = (H.length : Int) by simp)
  clear h hl hB hh
  go_enter Tryz.func31, Tryz.ntmps31
  go_wp2_with (first
    | (refine inv_push HQ.out HL.out HB.out rfl rfl rfl rfl ?_
       intro q1 w1 hq1 hs1
       obtain ⟨V1, rfl⟩ : ∃ W, W = w1 := ⟨_, rfl⟩
       have HQ1 := Lib.hid hq1
       have HS1 := Lib.hid hs1
       clear hq1 hs1)
    | (refine inv_len HQ1.out rfl rfl rfl ?_
       intro w2 hb2
       obtain ⟨V2, rfl⟩ : ∃ W, W = w2 := ⟨_, rfl⟩
       have HQ2 := Lib.hid (HQ1.out.under hb2)
       have HS2 := Lib.hid (HS1.out.trans (QStep.of_below hb2))
       obtain ⟨n1, hn1⟩ : ∃ n1, (H ++ [x]).length = n1 := ⟨_, rfl⟩
       rw [hn1]
       have hln : (n1 : Int) - 1 = (H.length : Int) := by rw [← hn1]; exact HLN.out
       have hlb := HL.out
       clear hb2 hn1)
    | (go_at_call 52
       (with_reducible refine (up_any HQ2.out HX.out.1 HX.out.2 HU.out).mono ?_)
       rintro e w3 ⟨_, rfl, rfl, q3, H3, hq3, hs3, hp3, hh3⟩
       obtain ⟨V3, rfl⟩ : ∃ W, W = w3 := ⟨_, rfl⟩
       have HQ3 := Lib.hid hq3
       have HS3 := Lib.hid (HS2.out.trans hs3)
       have HP3 := Lib.hid hp3
       have HH3 := Lib.hid hh3
       clear hq3 hs3 hp3 hh3))
  have HP : HeapPost N B (H ++ [x]) (H.length + 1) w qv (fun v => v = .tuple #[]) (.returned (.tuple #[])) V3 := ⟨_, rfl, rfl, q3, H3, HQ3.out, HS3.out, HP3.out, by have := HH3.out; simpa using this⟩
  exact bodyPost_ret (results_none rfl _ _ _) rfl HP
/-- what a sinking leaves: the same numbers, the first n a heap, the others where they were -/
def DownPost (N B : Nat) (H : List Int) (n : Nat) (w : World) (qv : Value) (e : Ending) (w' : World) : Prop := ∃ v, e = .returned v ∧ ∃ qv' H', QAt N B w' qv' H' ∧ QStep N w qv w' qv' ∧ H'.Perm H ∧ HeapL H' n ∧ ∀ m, n ≤ m → H'.getD m 0 = H.getD m 0
theorem swap_keeps {H H0 : List Int} {i j n : Nat} (hi : i < H.length) (hj : j < H.length) (hin : i < n) (hjn : j < n) (h : ∀ m, n ≤ m → H.getD m 0 = H0.getD m 0) : ∀ m, n ≤ m → (swapL H i j).getD m 0 = H0.getD m 0 := fun m hm => by
  rw [swapL_get hi hj, if_neg (by omega), if_neg (by omega)]
  exact h m hm
theorem child_of {k c : Nat} (h : (c - 1) / 2 = k) (h0 : 0 < c) : c = 2 * k + 1 ∨ c = 2 * k + 2 := by omega
set_option maxRecDepth 100000 in
set_option maxHeartbeats 4000000 in
theorem down_any {N B : Nat} {w : World} {qv : Value} {H : List Int} {n : Nat} (h : QAt N B w qv H) (hl : H.length ≤ 1048576) (hn : n ≤ H.length) (hu : DownOk H n 0) : Calls Tryz.prog 53 #[.iface 86 (.pointer (some ⟨N, 0, none⟩)), .int .i64 0, .int .i64 (n : Int)] w (DownPost N B H n w qv) := by
  have HQ := Lib.hid h
  have HL := Lib.hid hl
  have HN := Lib.hid hn
  have HU := Lib.hid hu
  have hnb : n ≤ 1048576 := by omega
  clear h hl hn hu
  go_enter Tryz.func53, Tryz.ntmps53
  go_wp2_with fail
  go_loopg [7] H.length (fun g v wr => ∃ (k : Nat) (H' : List Int), k + g = H.length ∧ v = .int .i64 (k : Int) ∧ H'.length = H.length ∧ H'.Perm H ∧ DownOk H' n k ∧ (∀ m, n ≤ m → H'.getD m 0 = H.getD m 0) ∧ QAt N B wr qv H' ∧ QStep N w qv wr qv)
  case atStart => exact ⟨0, H, by omega, rfl, rfl, List.Perm.refl _, HU.out, fun _ _ => rfl, HQ.out, QStep.refl _ _ _⟩
  case round =>
    obtain ⟨k, H', hgk, rfl, hlen, hperm, hup, hkeep, hq, hstep⟩ := hrel
    obtain ⟨wq, rfl⟩ : ∃ W, W = wr := ⟨_, rfl⟩
    have HG := Lib.hid hgk
    have HLEN := Lib.hid hlen
    have HPERM := Lib.hid hperm
    have HUP := Lib.hid hup
    have HKP := Lib.hid hkeep
    have HQK := Lib.hid hq
    have HST := Lib.hid hstep
    have HLK := Lib.hid (show H'.length ≤ 1048576 by rw [hlen]; exact HL.out)
    have HNK := Lib.hid (show n ≤ H'.length by rw [hlen]; exact HN.out)
    have hkb : k ≤ 1048576 := by have := HL.out; omega
    obtain ⟨j1, hj1⟩ : ∃ j1, j1 = 2 * k + 1 := ⟨_, rfl⟩
    obtain ⟨j2, hj2⟩ : ∃ j2, j2 = j1 + 1 := ⟨_, rfl⟩
    have e1 : 2 * (k : Int) + 1 = (j1 : Int) := by omega
    have e2 : (j1 : Int) + 1 = (j2 : Int) := by omega
    have b1 : j1 ≤ 4194304 := by omega
    have b2 : j2 ≤ 4194304 := by omega
    have HJ1 := Lib.hid hj1
    have HJ2 := Lib.hid hj2
    clear hgk hlen hperm hup hkeep hq hstep hj1 hj2
    by_cases h1 : n ≤ j1
    · have HST1 := Lib.hid (show HeapL H' n from HUP.out.stop fun c hc h0 he => by
        have := HJ1.out
        rcases child_of he h0 with e | e <;> omega)
      go_wp2_with fail
      have HP : ∀ b, DownPost N B H n w qv (.returned (.bool b)) wq := fun b => ⟨_, rfl, qv, H', HQK.out, HST.out, HPERM.out, HST1.out, HKP.out⟩
      go_ret
      exact HP _
    · have H1 := Lib.hid (show j1 < n by omega)
      have HI1 := Lib.hid (show j1 < H'.length by have := HNK.out; omega)
      have HIK := Lib.hid (show k < H'.length by have := HNK.out; have := HJ1.out; omega)
      have HKN := Lib.hid (show k < n by have := HJ1.out; omega)
      by_cases h2 : j2 < n
      · have H2 := Lib.hid h2
        have HI2 := Lib.hid (show j2 < H'.length by have := HNK.out; omega)
        by_cases hl2 : H'.getD j2 0 < H'.getD j1 0
        · have HL2 := Lib.hid hl2
          clear hl2
          have HMIN := Lib.hid (show ∀ c, c < n → 0 < c → (c - 1) / 2 = k → H'.getD j2 0 ≤ H'.getD c 0 from fun c hc h0 he => by
            have g1 := HJ1.out
            have g2 := HJ2.out
            rcases child_of he h0 with e | e
            · have e : c = j1 := by omega
              subst e
              have := HL2.out; omega
            · have e : c = j2 := by omega
              subst e
              exact Int.le_refl _)
          have HJN := Lib.hid (show j2 < n ∧ 0 < j2 ∧ (j2 - 1) / 2 = k by have := HJ1.out; have := HJ2.out; have := H1.out; have := H2.out; omega)
          have HIJ := Lib.hid (show j2 < H'.length by have := HNK.out; have := HJN.out; omega)
          by_cases hlt : H'.getD j2 0 < H'.getD k 0
          · have HLT := Lib.hid hlt
            clear hlt
            go_wp2_with (first
                    | (refine inv_less HQK.out HLK.out HI2.out HI1.out rfl rfl rfl rfl rfl ?_
                       intro w1 hb1
                       obtain ⟨V1, rfl⟩ : ∃ W, W = w1 := ⟨_, rfl⟩
                       rw [decide_eq_true HL2.out]
                       have HQ1 := Lib.hid (HQK.out.under hb1)
                       have HS1 := Lib.hid (HST.out.trans (QStep.of_below hb1))
                       clear hb1)
                    | (refine inv_less HQ1.out HLK.out HIJ.out HIK.out rfl rfl rfl rfl rfl ?_
                       intro w2 hb2
                       obtain ⟨V2, rfl⟩ : ∃ W, W = w2 := ⟨_, rfl⟩
                       rw [decide_eq_true HLT.out]
                       have HQ2 := Lib.hid (HQ1.out.under hb2)
                       have HS2 := Lib.hid (HS1.out.trans (QStep.of_below hb2))
                       clear hb2)
                    | (refine inv_swap HQ2.out HLK.out HIK.out HIJ.out rfl rfl rfl rfl rfl ?_
                       intro w3 hq3 hs3
                       obtain ⟨V3, rfl⟩ : ∃ W, W = w3 := ⟨_, rfl⟩
                       have HQ3 := Lib.hid hq3
                       have HS3 := Lib.hid (HS2.out.trans hs3)
                       clear hq3 hs3))
            go_roundg (H.length - j2)
            case measure => have := HG.out; have := HJN.out; have := HIJ.out; have := HLEN.out; omega
            case rel => exact ⟨j2, swapL H' k j2, by have := HIJ.out; have := HLEN.out; omega, rfl, by rw [swapL_len]; exact HLEN.out, (swapL_perm HIK.out HIJ.out).trans HPERM.out, HUP.out.swap HNK.out HJN.out.1 HJN.out.2.1 HJN.out.2.2 HLT.out HMIN.out, swap_keeps HIK.out HIJ.out HKN.out HJN.out.1 HKP.out, HQ3.out, HS3.out⟩
          · have HLT := Lib.hid hlt
            have HST1 := Lib.hid (show HeapL H' n from HUP.out.stop fun c hc h0 he => by have := HMIN.out c hc h0 he; have := HLT.out; omega)
            clear hlt
            go_wp2_with (first
                    | (refine inv_less HQK.out HLK.out HI2.out HI1.out rfl rfl rfl rfl rfl ?_
                       intro w1 hb1
                       obtain ⟨V1, rfl⟩ : ∃ W, W = w1 := ⟨_, rfl⟩
                       rw [decide_eq_true HL2.out]
                       have HQ1 := Lib.hid (HQK.out.under hb1)
                       have HS1 := Lib.hid (HST.out.trans (QStep.of_below hb1))
                       clear hb1)
                    | (refine inv_less HQ1.out HLK.out HIJ.out HIK.out rfl rfl rfl rfl rfl ?_
                       intro w2 hb2
                       obtain ⟨V2, rfl⟩ : ∃ W, W = w2 := ⟨_, rfl⟩
                       rw [decide_eq_false HLT.out]
                       have HQ2 := Lib.hid (HQ1.out.under hb2)
                       have HS2 := Lib.hid (HS1.out.trans (QStep.of_below hb2))
                       clear hb2))
            have HP : ∀ b, DownPost N B H n w qv (.returned (.bool b)) V2 := fun b => ⟨_, rfl, qv, H', HQ2.out, HS2.out, HPERM.out, HST1.out, HKP.out⟩
            go_ret
            exact HP _
        · have HL2 := Lib.hid hl2
          clear hl2
          have HMIN := Lib.hid (show ∀ c, c < n → 0 < c → (c - 1) / 2 = k → H'.getD j1 0 ≤ H'.getD c 0 from fun c hc h0 he => by
            have g1 := HJ1.out
            have g2 := HJ2.out
            rcases child_of he h0 with e | e
            · have e : c = j1 := by omega
              subst e
              exact Int.le_refl _
            · have e : c = j2 := by omega
              subst e
              have := HL2.out; omega)
          have HJN := Lib.hid (show j1 < n ∧ 0 < j1 ∧ (j1 - 1) / 2 = k by have := HJ1.out; have := HJ2.out; have := H1.out; omega)
          have HIJ := Lib.hid (show j1 < H'.length by have := HNK.out; have := HJN.out; omega)
          by_cases hlt : H'.getD j1 0 < H'.getD k 0
          · have HLT := Lib.hid hlt
            clear hlt
            go_wp2_with (first
                    | (refine inv_less HQK.out HLK.out HI2.out HI1.out rfl rfl rfl rfl rfl ?_
                       intro w1 hb1
                       obtain ⟨V1, rfl⟩ : ∃ W, W = w1 := ⟨_, rfl⟩
                       rw [decide_eq_false HL2.out]
                       have HQ1 := Lib.hid (HQK.out.under hb1)
                       have HS1 := Lib.hid (HST.out.trans (QStep.of_below hb1))
                       clear hb1)
                    | (refine inv_less HQ1.out HLK.out HIJ.out HIK.out rfl rfl rfl rfl rfl ?_
                       intro w2 hb2
                       obtain ⟨V2, rfl⟩ : ∃ W, W = w2 := ⟨_, rfl⟩
                       rw [decide_eq_true HLT.out]
                       have HQ2 := Lib.hid (HQ1.out.under hb2)
                       have HS2 := Lib.hid (HS1.out.trans (QStep.of_below hb2))
                       clear hb2)
                    | (refine inv_swap HQ2.out HLK.out HIK.out HIJ.out rfl rfl rfl rfl rfl ?_
                       intro w3 hq3 hs3
                       obtain ⟨V3, rfl⟩ : ∃ W, W = w3 := ⟨_, rfl⟩
                       have HQ3 := Lib.hid hq3
                       have HS3 := Lib.hid (HS2.out.trans hs3)
                       clear hq3 hs3))
            go_roundg (H.length - j1)
            case measure => have := HG.out; have := HJN.out; have := HIJ.out; have := HLEN.out; omega
            case rel => exact ⟨j1, swapL H' k j1, by have := HIJ.out; have := HLEN.out; omega, rfl, by rw [swapL_len]; exact HLEN.out, (swapL_perm HIK.out HIJ.out).trans HPERM.out, HUP.out.swap HNK.out HJN.out.1 HJN.out.2.1 HJN.out.2.2 HLT.out HMIN.out, swap_keeps HIK.out HIJ.out HKN.out HJN.out.1 HKP.out, HQ3.out, HS3.out⟩
          · have HLT := Lib.hid hlt
            have HST1 := Lib.hid (show HeapL H' n from HUP.out.stop fun c hc h0 he => by have := HMIN.out c hc h0 he; have := HLT.out; omega)
            clear hlt
            go_wp2_with (first
                    | (refine inv_less HQK.out HLK.out HI2.out HI1.out rfl rfl rfl rfl rfl ?_
                       intro w1 hb1
                       obtain ⟨V1, rfl⟩ : ∃ W, W = w1 := ⟨_, rfl⟩
                       rw [decide_eq_false HL2.out]
                       have HQ1 := Lib.hid (HQK.out.under hb1)
                       have HS1 := Lib.hid (HST.out.trans (QStep.of_below hb1))
                       clear hb1)
                    | (refine inv_less HQ1.out HLK.out HIJ.out HIK.out rfl rfl rfl rfl rfl ?_
                       intro w2 hb2
                       obtain ⟨V2, rfl⟩ : ∃ W, W = w2 := ⟨_, rfl⟩
                       rw [decide_eq_false HLT.out]
                       have HQ2 := Lib.hid (HQ1.out.under hb2)
                       have HS2 := Lib.hid (HS1.out.trans (QStep.of_below hb2))
                       clear hb2))
            have HP : ∀ b, DownPost N B H n w qv (.returned (.bool b)) V2 := fun b => ⟨_, rfl, qv, H', HQ2.out, HS2.out, HPERM.out, HST1.out, HKP.out⟩
            go_ret
            exact HP _
      · have H2 := Lib.hid h2
        have HMIN := Lib.hid (show ∀ c, c < n → 0 < c → (c - 1) / 2 = k → H'.getD j1 0 ≤ H'.getD c 0 from fun c hc h0 he => by
          have g1 := HJ1.out
          have g2 := HJ2.out
          rcases child_of he h0 with e | e
          · have e : c = j1 := by omega
            subst e
            exact Int.le_refl _
          · have e : c = j2 := by omega
            subst e
            exact absurd hc H2.out)
        have HJN := Lib.hid (show j1 < n ∧ 0 < j1 ∧ (j1 - 1) / 2 = k by have := HJ1.out; have := HJ2.out; have := H1.out; omega)
        have HIJ := Lib.hid (show j1 < H'.length by have := HNK.out; have := HJN.out; omega)
        have HQ1 := Lib.hid HQK.out
        have HS1 := Lib.hid HST.out
        by_cases hlt : H'.getD j1 0 < H'.getD k 0
        · have HLT := Lib.hid hlt
          clear hlt
          go_wp2_with (first
                  | (refine inv_less HQ1.out HLK.out HIJ.out HIK.out rfl rfl rfl rfl rfl ?_
                     intro w2 hb2
                     obtain ⟨V2, rfl⟩ : ∃ W, W = w2 := ⟨_, rfl⟩
                     rw [decide_eq_true HLT.out]
                     have HQ2 := Lib.hid (HQ1.out.under hb2)
                     have HS2 := Lib.hid (HS1.out.trans (QStep.of_below hb2))
                     clear hb2)
                  | (refine inv_swap HQ2.out HLK.out HIK.out HIJ.out rfl rfl rfl rfl rfl ?_
                     intro w3 hq3 hs3
                     obtain ⟨V3, rfl⟩ : ∃ W, W = w3 := ⟨_, rfl⟩
                     have HQ3 := Lib.hid hq3
                     have HS3 := Lib.hid (HS2.out.trans hs3)
                     clear hq3 hs3))
          go_roundg (H.length - j1)
          case measure => have := HG.out; have := HJN.out; have := HIJ.out; have := HLEN.out; omega
          case rel => exact ⟨j1, swapL H' k j1, by have := HIJ.out; have := HLEN.out; omega, rfl, by rw [swapL_len]; exact HLEN.out, (swapL_perm HIK.out HIJ.out).trans HPERM.out, HUP.out.swap HNK.out HJN.out.1 HJN.out.2.1 HJN.out.2.2 HLT.out HMIN.out, swap_keeps HIK.out HIJ.out HKN.out HJN.out.1 HKP.out, HQ3.out, HS3.out⟩
        · have HLT := Lib.hid hlt
          have HST1 := Lib.hid (show HeapL H' n from HUP.out.stop fun c hc h0 he => by have := HMIN.out c hc h0 he; have := HLT.out; omega)
          clear hlt
          go_wp2_with (first
                  | (refine inv_less HQ1.out HLK.out HIJ.out HIK.out rfl rfl rfl rfl rfl ?_
                     intro w2 hb2
                     obtain ⟨V2, rfl⟩ : ∃ W, W = w2 := ⟨_, rfl⟩
                     rw [decide_eq_false HLT.out]
                     have HQ2 := Lib.hid (HQ1.out.under hb2)
                     have HS2 := Lib.hid (HS1.out.trans (QStep.of_below hb2))
                     clear hb2))
          have HP : ∀ b, DownPost N B H n w qv (.returned (.bool b)) V2 := fun b => ⟨_, rfl, qv, H', HQ2.out, HS2.out, HPERM.out, HST1.out, HKP.out⟩
          go_ret
          exact HP _
/-- what Pop leaves: the least, and the others a heap -/
def PopPost (N B : Nat) (H : List Int) (w : World) (qv : Value) (e : Ending) (w' : World) : Prop := e = .returned (.iface 3 (.int .i64 (H.getD 0 0))) ∧ ∃ qv' H', QAt N B w' qv' H' ∧ QStep N w qv w' qv' ∧ H.Perm (H.getD 0 0 :: H') ∧ HeapL H' H'.length
theorem pop_math {H H1 H2 : List Int} {n : Nat} (hn : n + 1 = H.length) (e1 : H1 = swapL H 0 n) (hp : H2.Perm H1) (hh : HeapL H2 n) (hk : ∀ m, n ≤ m → H2.getD m 0 = H1.getD m 0) : H2.getD n 0 = H.getD 0 0 ∧ H.Perm (H.getD 0 0 :: H2.take n) ∧ HeapL (H2.take n) (H2.take n).length ∧ H2.length = n + 1 := by
  have hl2 : H2.length = n + 1 := by rw [hp.length_eq, e1, swapL_len, hn]
  have hlast : H2.getD n 0 = H.getD 0 0 := by rw [hk n (Nat.le_refl _), e1, swapL_get (by omega) (by omega), if_pos rfl]
  have hsplit : H2 = H2.take n ++ [H.getD 0 0] := by
    rw [← hlast, List.getD_eq_getElem?_getD, List.getElem?_eq_getElem (by omega)]
    have := List.take_succ_eq_append_getElem (l := H2) (i := n) (by omega)
    rw [← hl2, List.take_length] at this
    exact this
  refine ⟨hlast, ?_, ?_, hl2⟩
  · have h1 : H.Perm H2 := (swapL_perm (l := H) (i := 0) (j := n) (by omega) (by omega)).symm.trans (by rw [← e1]; exact hp.symm)
    refine h1.trans ?_
    have h2 : (H2.take n ++ [H.getD 0 0]).Perm (H.getD 0 0 :: H2.take n) := List.perm_append_comm
    rwa [← hsplit] at h2
  · intro k hk2 h0
    rw [List.length_take] at hk2
    have g : ∀ m, m < n → (H2.take n).getD m 0 = H2.getD m 0 := fun m hm => by
      rw [List.getD_eq_getElem?_getD, List.getD_eq_getElem?_getD, List.getElem?_take, if_pos hm]
    rw [g _ (by omega), g _ (by omega)]
    exact hh k (by omega) h0
set_option maxRecDepth 100000 in
set_option maxHeartbeats 1000000 in
theorem heapPop_any {N B : Nat} {w : World} {qv : Value} {H : List Int} (h : QAt N B w qv H) (hl : H.length ≤ 1048576) (h0 : 0 < H.length) (hh : HeapL H H.length) :
    Calls Tryz.prog 33 #[.iface 86 (.pointer (some ⟨N, 0, none⟩))] w (PopPost N B H w qv) := by
  obtain ⟨n, hn⟩ : ∃ n, n + 1 = H.length := ⟨H.length - 1, by omega⟩
  have HQ := Lib.hid h
  have HL := Lib.hid hl
  have HN := Lib.hid hn
  have HD := Lib.hid (show DownOk (swapL H 0 n) n 0 from DownOk.start (by rw [hn]; exact hh) (by omega))
  have HLS := Lib.hid (show (swapL H 0 n).length ≤ 1048576 ∧ n ≤ (swapL H 0 n).length by rw [swapL_len]; omega)
  have HI := Lib.hid (show 0 < H.length ∧ n < H.length by omega)
  have hnb : n ≤ 1048576 := by omega
  clear h hl h0 hh
  go_enter Tryz.func33, Tryz.ntmps33
  go_wp2_with (first
    | (refine inv_len HQ.out rfl rfl rfl ?_
       intro w1 hb1
       obtain ⟨V1, rfl⟩ : ∃ W, W = w1 := ⟨_, rfl⟩
       have HQ1 := Lib.hid (HQ.out.under hb1)
       have HS1 := Lib.hid (QStep.of_below (N := N) (qv := qv) hb1)
       have hln : ((H.length : Nat) : Int) - 1 = (n : Int) := by have := HN.out; omega
       clear hb1)
    | (refine inv_swap HQ1.out HL.out HI.out.1 HI.out.2 rfl rfl rfl rfl rfl ?_
       intro w2 hq2 hs2
       obtain ⟨V2, rfl⟩ : ∃ W, W = w2 := ⟨_, rfl⟩
       have HQ2 := Lib.hid hq2
       have HS2 := Lib.hid (HS1.out.trans hs2)
       clear hq2 hs2)
    | (go_at_call 53
       (with_reducible refine (down_any HQ2.out HLS.out.1 HLS.out.2 HD.out).mono ?_)
       rintro e w3 ⟨v3, rfl, q3, H3, hq3, hs3, hp3, hh3, hk3⟩
       obtain ⟨V3, rfl⟩ : ∃ W, W = w3 := ⟨_, rfl⟩
       obtain ⟨m1, m2, m3, m4⟩ := pop_math HN.out rfl hp3 hh3 hk3
       have HQ3 := Lib.hid hq3
       have HS3 := Lib.hid (HS2.out.trans hs3)
       have HM1 := Lib.hid m1
       have HM2 := Lib.hid m2
       have HM3 := Lib.hid m3
       have HM4 := Lib.hid (show H3.length ≤ 1048576 ∧ 0 < H3.length ∧ H3.length - 1 = n by rw [m4]; have := HN.out; have := HL.out; omega)
       clear hq3 hs3 hp3 hh3 hk3 m1 m2 m3 m4)
    | (refine inv_pop HQ3.out HM4.out.1 HM4.out.2.1 rfl rfl rfl ?_
       intro q4 w4 hq4 hs4
       rw [HM4.out.2.2, HM1.out]
       rw [HM4.out.2.2] at hq4
       obtain ⟨V4, rfl⟩ : ∃ W, W = w4 := ⟨_, rfl⟩
       have HQ4 := Lib.hid hq4
       have HS4 := Lib.hid (HS3.out.trans hs4)
       clear hq4 hs4))
  go_ret
  exact ⟨rfl, q4, H3.take n, HQ4.out, HS4.out, HM2.out, HM3.out⟩
end Go.Proofs.YtifbdglhfoimjaaGreatDoor
