/-
  addItem: what an item defines is recorded.
-/
import Derived.Test.YtbpbnebcbjacdaaGreatScopeSts
namespace Go.Proofs.YtbpbnebcbjacdaaGreat
open Go.RowKit
open Go.ChangeMaps Go.MapKept
open Go.Maps

/-- what addItem leaves: the program's scope, and the node's variables -/
def ItemPost (P e1 c1 n1 t1 v1 : Nat) (s : SProg) (lv : List (Tx × Value)) (b : Int) (i : QItem) (w : World) (e : Ending) (w' : World) : Prop :=
  e = .returned (.bool (itemOk s (keysOf lv) i)) ∧ KeptM [t1, v1] w w' ∧ (itemOk s (keysOf lv) i = true → ScopeAt w' P e1 c1 n1 t1 (s.addItem i) ∧ MapAt w' v1 (lv ++ withV (.int .i64 b) (definedQ i)))
theorem item_no {P e1 c1 n1 t1 v1 : Nat} {s : SProg} {lv : List (Tx × Value)} {b : Int} {i : QItem} {w w' : World} (h : itemOk s (keysOf lv) i = false) (hk : KeptM [t1, v1] w w') : ItemPost P e1 c1 n1 t1 v1 s lv b i w (.returned (.bool false)) w' :=
  ⟨ret_bool h.symm, hk, fun h' => by rw [h] at h'; cases h'⟩
section
variable {S P e1 c1 n1 t1 f1 v1 : Nat} {x1 x2 x3 x4 x5 x6 : Value} {sp : SProg}
set_option maxHeartbeats 8000000 in
set_option maxRecDepth 100000 in
theorem addItem_any {w0 : World} {L : List Value} {i : QItem} (hL : ItemAt w0 L i) (hlen : (definedQ i).length ≤ 2097152) (hst : i.states.length ≤ 2097152)
    {w : World} (hb : Below w0.heap.size w0 w) (hS : ScopeAt w P e1 c1 n1 t1 sp) (ht1 : w0.heap.size ≤ t1) (hv1 : w0.heap.size ≤ v1) (hnv : v1 ≠ e1 ∧ v1 ≠ c1 ∧ v1 ≠ n1 ∧ v1 ≠ t1)
    (hbox : w.heap[S]? = some (.cells #[.pointer (some ⟨P, 0, none⟩), x1, x2, x3, x4, x5, x6, .map (some v1)] 92 (0, 0)))
    {lv : List (Tx × Value)} (hm : MapAt w v1 lv) (hsh : ∀ p ∈ lv, ShI p.2) (b : Int) :
    Calls Tryz.prog 45 #[.pointer (some ⟨S, 0, none⟩), .int .i64 b, .agg L.toArray] w (ItemPost P e1 c1 n1 t1 v1 sp lv b i w) := by
  have HDEF := Lib.hid (defined_any hL hlen)
  have HS := Lib.hid hS
  have HB := Lib.hid hb
  have HBOX := Lib.hid hbox
  have HM := Lib.hid hm
  have HSH := Lib.hid hsh
  have hsz := hb.size
  have hSl := lt_of_heap hbox
  have HOK := Lib.hid (show itemOk sp (keysOf lv) i = (recOk (keysOf lv) (definedQ i) && (if i.states = [] then i.eq.names.length == 1 || (i.eq.e.op == 14 || i.eq.e.op == 15) else statesOk sp i.states)) from rfl)
  have HAI := Lib.hid (show sp.addItem i = { sp with states := sp.states ++ i.states.map QState.name } from rfl)
  obtain ⟨⟨nm, ex⟩, sts⟩ := i
  obtain ⟨L', sv, rfl, ⟨nv, Le, rfl, hnv', hxe⟩, hstv⟩ := hL
  replace hnv' : StrsAt w0 nv nm := hnv'
  replace hxe : ExAt w0 Le ex := hxe
  replace hstv : SliceAt w0 (StateAt w0) sv sts := hstv
  simp only at HOK HAI hst
  generalize hdq : definedQ ⟨⟨nm, ex⟩, sts⟩ = dq at *
  have HDQ := Lib.hid hdq
  clear hdq
  obtain ⟨nA, nk, rfl, _, hnm, _⟩ := hnv'
  have hnl : nm.length ≤ 9223372036854775807 := by unfold maxLen at hnm; omega
  obtain ⟨op, xnm, xn, xcs, xks⟩ := ex
  obtain ⟨cv, kv, rfl, _, _, _, hcs, hks⟩ := hxe.open_
  obtain ⟨cA, cn, ck, rfl⟩ := SliceAt.shape hcs
  obtain ⟨kA, kn, kk, rfl⟩ := SliceAt.shape hks
  obtain ⟨sA, sc, rfl, hsc, hsm, hes⟩ := hstv
  have HST := Lib.hid (show SliceAt w0 (StateAt w0) (.slice sA sts.length sc) sts from ⟨sA, sc, rfl, hsc, hsm, hes⟩)
  have hsl : sts.length ≤ 9223372036854775807 := by omega
  simp only [List.cons_append, List.nil_append] at HDEF ⊢
  simp only [Ex.op] at HOK
  clear hb hS hbox hm hsh hcs hks hsc hsm hes hlen hnm hxe
  go_enter Tryz.func45, Tryz.ntmps45
  go_wp2_with fail
  have BX := Lib.hid (heap_alloc_new w (.cells #[.slice nA nm.length nk, .int .i64 op, .string (str xnm), .int .i64 xn, .slice cA cn ck, .slice kA kn kk, .slice sA sts.length sc] 55))
  have HV := Lib.hid ((Below.refl w.heap.size w).alloc (Nat.le_refl _) (.cells #[.slice nA nm.length nk, .int .i64 op, .string (str xnm), .int .i64 xn, .slice cA cn ck, .slice kA kn kk, .slice sA sts.length sc] 55))
  generalize w.alloc (.cells #[.slice nA nm.length nk, .int .i64 op, .string (str xnm), .int .i64 xn, .slice cA cn ck, .slice kA kn kk, .slice sA sts.length sc] 55) = V at *
  have HBV := Lib.hid (HB.out.trans (HV.out.mono hsz))
  have HBXV := Lib.hid (box_next HV.out HBOX.out)
  have HMV := Lib.hid (HM.out.under HV.out)
  obtain ⟨_, _, _, _, _, _, _, y7⟩ := row8 HBXV.out
  obtain ⟨z0, z1, z2, z3, z4, z5, z6⟩ := row7 BX.out
  cases hr : recOk (keysOf lv) dq
  · have HR := Lib.hid hr
    have HNO := Lib.hid (show itemOk sp (keysOf lv) ⟨⟨nm, .mk op xnm xn xcs xks⟩, sts⟩ = false by rw [HOK.out, hr]; rfl)
    clear hr
    refine wp_region_held_drew (S := (fun W => W.cell? ⟨S, 7, none⟩ = some (.map (some v1)) ∧ W.cell? ⟨w.heap.size, 0, none⟩ = some (.slice nA nm.length nk) ∧ W.cell? ⟨w.heap.size, 1, none⟩ = some (.int .i64 op) ∧ W.cell? ⟨w.heap.size, 2, none⟩ = some (.string (str xnm)) ∧ W.cell? ⟨w.heap.size, 3, none⟩ = some (.int .i64 xn) ∧ W.cell? ⟨w.heap.size, 4, none⟩ = some (.slice cA cn ck) ∧ W.cell? ⟨w.heap.size, 5, none⟩ = some (.slice kA kn kk) ∧ W.cell? ⟨w.heap.size, 6, none⟩ = some (.slice sA sts.length sc))) (by kernel_rfl) ?_ (fun hHeld => ?_)
    · (try dsimp only); go_keep
    refine take_now 0 rfl ?_
    try simp only [Act.put, setA, setZ, setS]
    refine take_now 1 rfl ?_
    try simp only [Act.put, setA, setZ, setS]
    refine take_now 2 rfl ?_
    try simp only [Act.put, setA, setZ, setS]
    refine take_now 3 rfl ?_
    try simp only [Act.put, setA, setZ, setS]
    refine take_now 4 rfl ?_
    try simp only [Act.put, setA, setZ, setS]
    refine take_now 5 rfl ?_
    try simp only [Act.put, setA, setZ, setS]
    refine only_at 6 (by kernel_rfl) rfl (fun K hK => ?_)
    go_simp
    (go_at_call 33
     (with_reducible refine (HDEF.out _ HBV.out.drew).mono ?_)
     rintro e w7 ⟨v7, rfl, hs7, hb7⟩
     obtain ⟨V7, rfl⟩ : ∃ W, W = w7 := ⟨_, rfl⟩
     have G7 := Lib.hid ((Below.refl V.heap.size V).drew.trans hb7)
     have HS7 := Lib.hid hs7
     have HM7 := Lib.hid (HMV.out.under G7.out)
     have HBX7 := Lib.hid (box_next G7.out HBXV.out)
     have BX7 := Lib.hid (box_next G7.out BX.out)
     obtain ⟨_, _, _, _, _, _, _, y7⟩ := row8 HBX7.out
     obtain ⟨z0, z1, z2, z3, z4, z5, z6⟩ := row7 BX7.out
     clear hs7 hb7)
    refine hK.out _ _ ?_ (fun hHeld => ?_)
    · (try dsimp only); go_keep
    clear hK K
    try simp only [Act.put, setA, setZ, setS]
    refine only_at 7 (by kernel_rfl) rfl (fun K hK => ?_)
    go_simp
    (go_at_call 76
     (with_reducible refine (recordI_any HM7.out HSH.out HS7.out).mono ?_)
     rintro e w8 ⟨he, hk, hm⟩
     rw [HR.out] at he
     subst he
     obtain ⟨V8, rfl⟩ : ∃ W, W = w8 := ⟨_, rfl⟩
     have HK8 := Lib.hid (((KeptM.of_below HV.out).trans (KeptM.of_below G7.out)).trans (hk.mono (M' := [t1, v1]) (by simp)))
     have HB8 := Lib.hid ((HBV.out.trans (G7.out.mono HBV.out.size)).trans (hk.below (B := w0.heap.size) (by simpa using hv1) (Nat.le_trans HBV.out.size G7.out.size)))
     have HKK := Lib.hid hk
     have HMM := Lib.hid hm
     have HBX8 := Lib.hid (box_put HM7.out hk HBX7.out)
     have BX8 := Lib.hid (box_put HM7.out hk BX7.out)
     obtain ⟨_, _, _, _, _, _, _, y7⟩ := row8 HBX8.out
     obtain ⟨z0, z1, z2, z3, z4, z5, z6⟩ := row7 BX8.out
     clear hk hm)
    refine hK.out _ _ ?_ (fun hHeld => ?_)
    · (try dsimp only); go_keep
    clear hK K
    try simp only [Act.put, setA, setZ, setS]
    refine take_now 8 rfl ?_
    try simp only [Act.put, setA, setZ, setS]
    refine wpAnyH_done (by kernel_rfl) ?_ _
    go_wp2_with fail
    go_ret
    exact item_no HNO.out HK8.out
  · have HR := Lib.hid hr
    rw [hr, Bool.true_and] at HOK
    clear hr
    refine wp_region_held_drew (S := (fun W => W.cell? ⟨S, 7, none⟩ = some (.map (some v1)) ∧ W.cell? ⟨w.heap.size, 0, none⟩ = some (.slice nA nm.length nk) ∧ W.cell? ⟨w.heap.size, 1, none⟩ = some (.int .i64 op) ∧ W.cell? ⟨w.heap.size, 2, none⟩ = some (.string (str xnm)) ∧ W.cell? ⟨w.heap.size, 3, none⟩ = some (.int .i64 xn) ∧ W.cell? ⟨w.heap.size, 4, none⟩ = some (.slice cA cn ck) ∧ W.cell? ⟨w.heap.size, 5, none⟩ = some (.slice kA kn kk) ∧ W.cell? ⟨w.heap.size, 6, none⟩ = some (.slice sA sts.length sc))) (by kernel_rfl) ?_ (fun hHeld => ?_)
    · (try dsimp only); go_keep
    refine take_now 0 rfl ?_
    try simp only [Act.put, setA, setZ, setS]
    refine take_now 1 rfl ?_
    try simp only [Act.put, setA, setZ, setS]
    refine take_now 2 rfl ?_
    try simp only [Act.put, setA, setZ, setS]
    refine take_now 3 rfl ?_
    try simp only [Act.put, setA, setZ, setS]
    refine take_now 4 rfl ?_
    try simp only [Act.put, setA, setZ, setS]
    refine take_now 5 rfl ?_
    try simp only [Act.put, setA, setZ, setS]
    refine only_at 6 (by kernel_rfl) rfl (fun K hK => ?_)
    go_simp
    (go_at_call 33
     (with_reducible refine (HDEF.out _ HBV.out.drew).mono ?_)
     rintro e w7 ⟨v7, rfl, hs7, hb7⟩
     obtain ⟨V7, rfl⟩ : ∃ W, W = w7 := ⟨_, rfl⟩
     have G7 := Lib.hid ((Below.refl V.heap.size V).drew.trans hb7)
     have HS7 := Lib.hid hs7
     have HM7 := Lib.hid (HMV.out.under G7.out)
     have HBX7 := Lib.hid (box_next G7.out HBXV.out)
     have BX7 := Lib.hid (box_next G7.out BX.out)
     obtain ⟨_, _, _, _, _, _, _, y7⟩ := row8 HBX7.out
     obtain ⟨z0, z1, z2, z3, z4, z5, z6⟩ := row7 BX7.out
     clear hs7 hb7)
    refine hK.out _ _ ?_ (fun hHeld => ?_)
    · (try dsimp only); go_keep
    clear hK K
    try simp only [Act.put, setA, setZ, setS]
    refine only_at 7 (by kernel_rfl) rfl (fun K hK => ?_)
    go_simp
    (go_at_call 76
     (with_reducible refine (recordI_any HM7.out HSH.out HS7.out).mono ?_)
     rintro e w8 ⟨he, hk, hm⟩
     rw [HR.out] at he
     subst he
     obtain ⟨V8, rfl⟩ : ∃ W, W = w8 := ⟨_, rfl⟩
     have HK8 := Lib.hid (((KeptM.of_below HV.out).trans (KeptM.of_below G7.out)).trans (hk.mono (M' := [t1, v1]) (by simp)))
     have HB8 := Lib.hid ((HBV.out.trans (G7.out.mono HBV.out.size)).trans (hk.below (B := w0.heap.size) (by simpa using hv1) (Nat.le_trans HBV.out.size G7.out.size)))
     have HKK := Lib.hid hk
     have HMM := Lib.hid hm
     have HBX8 := Lib.hid (box_put HM7.out hk HBX7.out)
     have BX8 := Lib.hid (box_put HM7.out hk BX7.out)
     obtain ⟨_, _, _, _, _, _, _, y7⟩ := row8 HBX8.out
     obtain ⟨z0, z1, z2, z3, z4, z5, z6⟩ := row7 BX8.out
     clear hk hm)
    refine hK.out _ _ ?_ (fun hHeld => ?_)
    · (try dsimp only); go_keep
    clear hK K
    try simp only [Act.put, setA, setZ, setS]
    refine take_now 8 rfl ?_
    try simp only [Act.put, setA, setZ, setS]
    refine wpAnyH_done (by kernel_rfl) ?_ _
    have HS8 := Lib.hid (((HS.out.under HV.out).under G7.out).other HM7.out HKK.out hnv)
    have HM8 := Lib.hid (HMM.out HR.out)
    by_cases hs0 : sts = []
    · have HQ := Lib.hid (show itemOk sp (keysOf lv) ⟨⟨nm, .mk op xnm xn xcs xks⟩, sts⟩ = (nm.length == 1 || (op == 14 || op == 15)) by rw [HOK.out, if_pos hs0])
      have HEND := Lib.hid (show ScopeAt V8 P e1 c1 n1 t1 (sp.addItem ⟨⟨nm, .mk op xnm xn xcs xks⟩, sts⟩) by
        rw [HAI.out, hs0, List.map_nil, List.append_nil]; exact HS8.out)
      have hd0 : ¬ (0 < (sts.length : Int)) := by rw [hs0]; simp
      clear hs0
      by_cases h1 : nm.length = 1
      · have hd : ((nm.length : Int) == 1) = true := by simp [h1]
        have HF := Lib.hid (show itemOk sp (keysOf lv) ⟨⟨nm, .mk op xnm xn xcs xks⟩, sts⟩ = true by rw [HQ.out]; simp [h1])
        clear h1
        go_wp2_with fail
        go_ret
        exact ⟨ret_bool HF.out.symm, HK8.out, fun _ => ⟨HEND.out, by rw [HDQ.out]; exact HM8.out⟩⟩
      · have hd : ((nm.length : Int) == 1) = false := by simp; omega
        have HQ1 := Lib.hid (show itemOk sp (keysOf lv) ⟨⟨nm, .mk op xnm xn xcs xks⟩, sts⟩ = (op == 14 || op == 15) by rw [HQ.out]; simp [h1])
        clear h1
        by_cases h14 : op = 14
        · have hd2 : (op == 14) = true := by simp [h14]
          have HF := Lib.hid (show itemOk sp (keysOf lv) ⟨⟨nm, .mk op xnm xn xcs xks⟩, sts⟩ = true by rw [HQ1.out, hd2]; rfl)
          clear h14
          go_wp2_with fail
          go_ret
          exact ⟨ret_bool HF.out.symm, HK8.out, fun _ => ⟨HEND.out, by rw [HDQ.out]; exact HM8.out⟩⟩
        · have hd2 : (op == 14) = false := by simp [h14]
          have HQ2 := Lib.hid (show itemOk sp (keysOf lv) ⟨⟨nm, .mk op xnm xn xcs xks⟩, sts⟩ = (op == 15) by rw [HQ1.out, hd2]; rfl)
          clear h14
          by_cases h15 : op = 15
          · have hd3 : (op == 15) = true := by simp [h15]
            have HF := Lib.hid (show itemOk sp (keysOf lv) ⟨⟨nm, .mk op xnm xn xcs xks⟩, sts⟩ = true by rw [HQ2.out, hd3])
            clear h15
            go_wp2_with fail
            go_ret
            exact ⟨ret_bool HF.out.symm, HK8.out, fun _ => ⟨HEND.out, by rw [HDQ.out]; exact HM8.out⟩⟩
          · have hd3 : (op == 15) = false := by simp [h15]
            have HF := Lib.hid (show itemOk sp (keysOf lv) ⟨⟨nm, .mk op xnm xn xcs xks⟩, sts⟩ = false by rw [HQ2.out, hd3])
            clear h15
            go_wp2_with fail
            go_ret
            exact item_no HF.out HK8.out
    · have HQ := Lib.hid (show itemOk sp (keysOf lv) ⟨⟨nm, .mk op xnm xn xcs xks⟩, sts⟩ = statesOk sp sts by rw [HOK.out, if_neg hs0])
      have HNE := Lib.hid hs0
      have hd0 : 0 < (sts.length : Int) := by have := List.length_pos_iff.2 hs0; omega
      have hd1 : 0 < sts.length := by omega
      clear hs0
      go_wp2_with (go_at_call 77
                   (with_reducible refine (addStates_any HST.out HNE.out hst HB8.out HS8.out ht1 HBX8.out).mono ?_)
                   rintro e w9 ⟨rfl, hk9, hs9⟩
                   have HK9 := Lib.hid (HK8.out.trans (hk9.mono (M' := [t1, v1]) (by simp)))
                   have HM9 := Lib.hid (HM8.out.keptM hk9 (by simpa using hnv.2.2.2))
                   have HS9 := Lib.hid hs9
                   clear hk9 hs9)
      go_ret
      refine ⟨ret_bool HQ.out.symm, HK9.out, fun h => ⟨?_, by rw [HDQ.out]; exact HM9.out⟩⟩
      rw [HAI.out]
      exact HS9.out (HQ.out.symm.trans h)
end
end Go.Proofs.YtbpbnebcbjacdaaGreat
