/-
  The reference's definer and needs.
-/
import Derived.Test.YtifbdglhfoimjaaGreatDoorCauDefs
import Derived.Test.YtifbdglhfoimjaaGreatDoorCauVars
import Derived.Test.YtifbdglhfoimjaaGreatDoorCauRef
import Derived.Test.YtifbdglhfoimjaaGreatDoorIntMem
import Derived.Test.YtifbdglhfoimjaaGreatDoorCauSrc
import Derived.Test.YtifbdglhfoimjaaGreatDoorHeld
namespace Go.Proofs.YtifbdglhfoimjaaGreatDoor
open Go.RowKit

def firstI (o : Option Nat) : Int := match o with | some b => (b : Int) | none => -1
theorem firstB_hit {items : List QItem} {k : Nat} {s : Tx} (h : firstB items k s = none) (hk : k < items.length) (hd : defAt items s k = true) : firstD items s = some k := by
  refine range_find hk hd fun a ha => ?_
  unfold firstB at h
  rw [List.find?_eq_none] at h
  have := h a (List.mem_range.2 ha)
  simpa using this
set_option maxHeartbeats 4000000 in
set_option maxRecDepth 100000 in
theorem definer_any {w0 : World} {L : List Value} {n : QNode} (h : NodeAt w0 L n) (hd : ∀ i ∈ n.items, (definedQ i).length ≤ 2097152) (s : Tx) (w : World) (hb : Below w0.heap.size w0 w) :
    Calls Tryz.prog 34 #[.agg L.toArray, .string (str s)] w (fun e w' => e = .returned (.int .i64 (firstI (firstD n.items s))) ∧ Below w.heap.size w w') := by
  obtain ⟨fv, iv, ov, xv, rfl, hnl, hfu, hin, hou, hit⟩ := h
  obtain ⟨fA, fn, fk, rfl⟩ := SliceAt.shape hfu
  obtain ⟨iA, im, ik, rfl⟩ := SliceAt.shape hin
  obtain ⟨oA, on, ok, rfl⟩ := SliceAt.shape hou
  obtain ⟨xA, xk, rfl, hxc, hxm, hxe⟩ := hit
  have hxl : n.items.length ≤ 9223372036854775807 := by have h : n.items.length ≤ xk := hxc; unfold maxLen at hxm; omega
  have HXE := Lib.hid hxe
  have HD := Lib.hid hd
  have HB := Lib.hid hb
  have hsz := hb.size
  have HAL := Lib.hid ((Below.refl w.heap.size w).alloc (Nat.le_refl _) (.cells #[.string (str n.name), .slice fA fn fk, .slice iA im ik, .slice oA on ok, .slice xA n.items.length xk] 32))
  have BN := Lib.hid (heap_alloc_new w (.cells #[.string (str n.name), .slice fA fn fk, .slice iA im ik, .slice oA on ok, .slice xA n.items.length xk] 32))
  clear hnl hfu hin hou hxc hxm hxe hd hb
  go_enter Tryz.func34, Tryz.ntmps34
  go_wp2_with fail
  go_loopg [5] n.items.length (fun g v wr => ∃ k : Nat, k + g = n.items.length ∧ v = .int .i64 k ∧ firstB n.items k s = none ∧ Below w.heap.size w wr ∧ wr.heap[w.heap.size]? = some (.cells #[.string (str n.name), .slice fA fn fk, .slice iA im ik, .slice oA on ok, .slice xA n.items.length xk] 32 (0, 0)))
  case atStart => exact ⟨0, by omega, rfl, by simp [firstB], HAL.out, BN.out⟩
  case round =>
    obtain ⟨k, hkg, rfl, hno, hbw, hbox⟩ := hrel
    obtain ⟨wq, rfl⟩ : ∃ W, W = wr := ⟨_, rfl⟩
    have HK := Lib.hid hkg
    have HNO := Lib.hid hno
    have HW := Lib.hid hbw
    have BX := Lib.hid hbox
    obtain ⟨b0, b1, b2, b3, b4⟩ := row5 hbox
    have hkl : k ≤ n.items.length := by omega
    have hszw := hbw.size
    clear hkg hno hbw hbox b0 b1 b2 b3
    by_cases hlt : k < n.items.length
    · obtain ⟨q, hq⟩ : ∃ q, n.items[k]? = some q := ⟨_, List.getElem?_eq_getElem hlt⟩
      obtain ⟨Lq, hEq, hRq⟩ := HXE.out k q hq
      have HITM := Lib.hid hRq
      have HKL := Lib.hid hlt
      have HLEN := Lib.hid (HD.out q (List.mem_of_getElem? hq))
      have HDA := Lib.hid (show defAt n.items s k = (definedQ q).contains s by unfold defAt; rw [hq])
      obtain ⟨A0, n0, k0, o1, s2, o3, A4, n4, k4, A5, n5, k5, A6, n6, k6, rfl⟩ := hRq.shape
      have HBQ := Lib.hid (HB.out.trans (HW.out.mono hsz))
      obtain ⟨a, ea, ha, haa, d0, d1, d2, d3, d4, d5, d6⟩ := elem7 (hEq.under HBQ.out)
      subst ea
      have HDEF := Lib.hid (rdefined_any HITM.out HLEN.out _ HBQ.out)
      clear hq hEq hRq
      cases hc : (definedQ q).contains s
      · have HNX := Lib.hid (show firstB n.items (k + 1) s = none by rw [firstB_succ, HNO.out, HDA.out, hc]; rfl)
        have HC := Lib.hid hc
        clear hc
        go_wp2_with (first
          | (go_at_call 54
             (with_reducible refine HDEF.out.mono ?_)
             rintro e w1 ⟨v1, rfl, hs1, hb1⟩
             obtain ⟨V1, rfl⟩ : ∃ W, W = w1 := ⟨_, rfl⟩
             have HH := Lib.hid (hasR_any hs1 s)
             rw [HC.out] at HH
             have HB1 := Lib.hid (HW.out.trans (hb1.mono hszw))
             have BX1 := Lib.hid (box_next hb1 BX.out)
             obtain ⟨B1, m1, c1, rfl⟩ := SliceAt.shape hs1
             clear hs1 hb1)
          | (go_at_call 12
             (with_reducible refine HH.out.mono ?_)
             rintro e w2 ⟨rfl, rfl⟩))
        go_roundg (n.items.length - (k + 1))
        case measure => have := HK.out; omega
        case rel => exact ⟨k + 1, by omega, by go_num, HNX.out, HB1.out, BX1.out⟩
      · have HFD := Lib.hid (firstB_hit HNO.out HKL.out (by rw [HDA.out, hc]))
        have HC := Lib.hid hc
        clear hc
        go_wp2_with (first
          | (go_at_call 54
             (with_reducible refine HDEF.out.mono ?_)
             rintro e w1 ⟨v1, rfl, hs1, hb1⟩
             obtain ⟨V1, rfl⟩ : ∃ W, W = w1 := ⟨_, rfl⟩
             have HH := Lib.hid (hasR_any hs1 s)
             rw [HC.out] at HH
             have HB1 := Lib.hid (HW.out.trans (hb1.mono hszw))
             obtain ⟨B1, m1, c1, rfl⟩ := SliceAt.shape hs1
             clear hs1 hb1)
          | (go_at_call 12
             (with_reducible refine HH.out.mono ?_)
             rintro e w2 ⟨rfl, rfl⟩))
        go_ret
        exact ⟨by rw [HFD.out]; rfl, HB1.out⟩
    · have hke : k = n.items.length := by omega
      have HFD := Lib.hid (show firstD n.items s = none by have := HNO.out; rwa [hke] at this)
      clear hke
      go_wp2_with fail
      go_ret
      exact ⟨by rw [HFD.out]; rfl, HW.out⟩
/-- what needs answers -/
def NeedPost (l : List Nat) (w : World) (e : Ending) (w' : World) : Prop := ∃ v, e = .returned v ∧ OwnN w.heap.size w' v (natI l) ∧ Below w.heap.size w w'
set_option maxHeartbeats 4000000 in
set_option maxRecDepth 100000 in
theorem needs_any {w0 : World} {L : List Value} {n : QNode} (h : NodeAt w0 L n) (hd : ∀ i ∈ n.items, (definedQ i).length ≤ 2097152) (ho : ∀ i ∈ n.items, (occX i.eq.e).length ≤ 2097152) {b : Nat} {i : QItem} (hi : n.items[b]? = some i) (w : World) (hb : Below w0.heap.size w0 w) :
    Calls Tryz.prog 19 #[.agg L.toArray, .int .i64 (b : Int)] w (NeedPost (srcI n.items i) w) := by
  have HDF := Lib.hid (fun s W hW => definer_any h hd s W hW)
  obtain ⟨fv, iv, ov, xv, rfl, hnl, hfu, hin, hou, hit⟩ := h
  obtain ⟨fA, fn, fk, rfl⟩ := SliceAt.shape hfu
  obtain ⟨iA, im, ik, rfl⟩ := SliceAt.shape hin
  obtain ⟨oA, on, ok, rfl⟩ := SliceAt.shape hou
  obtain ⟨xA, xk, rfl, hxc, hxm, hxe⟩ := hit
  obtain ⟨Lq, hEq, hRq⟩ := hxe b i hi
  have hbl : b < n.items.length := (List.getElem?_eq_some_iff.1 hi).1
  have hxl : n.items.length ≤ 9223372036854775807 := by have h : n.items.length ≤ xk := hxc; unfold maxLen at hxm; omega
  have HOI := Lib.hid (ho i (List.mem_of_getElem? hi))
  have HB := Lib.hid hb
  have hsz := hb.size
  have HAL := Lib.hid ((Below.refl w.heap.size w).alloc (Nat.le_refl _) (.cells #[.string (str n.name), .slice fA fn fk, .slice iA im ik, .slice oA on ok, .slice xA n.items.length xk] 32))
  have BN := Lib.hid (heap_alloc_new w (.cells #[.string (str n.name), .slice fA fn fk, .slice iA im ik, .slice oA on ok, .slice xA n.items.length xk] 32))
  have HBA := Lib.hid (hb.trans (HAL.out.mono hb.size))
  obtain ⟨A0, n0, k0, o1, s2, o3, A4, n4, k4, A5, n5, k5, A6, n6, k6, rfl⟩ := hRq.shape
  obtain ⟨a, ea, ha, haa, d0, d1, d2, d3, d4, d5, d6⟩ := elem7 (hEq.under HBA.out)
  subst ea
  have HRD := Lib.hid (readsR_all (w0 := w0) hRq.expr HOI.out _ HBA.out)
  obtain ⟨p0, p1, p2, p3, p4⟩ := row5 BN.out
  have HRL := Lib.hid (show (readsX i.eq.e).length ≤ 2097152 by have := allL_len (occX i.eq.e) []; have := HOI.out; unfold readsX; simp at *; omega)
  have HSI := Lib.hid (show srcI n.items i = (readsX i.eq.e).filterMap (firstD n.items) from rfl)
  clear hnl hfu hin hou hxc hxm hxe hd ho hb hi hEq hRq
  go_enter Tryz.func19, Tryz.ntmps19
  go_wp2_with (go_at_call 9
               (with_reducible refine HRD.out.mono ?_)
               rintro e w7 ⟨v7, rfl, ho7, hb7⟩
               obtain ⟨V7, rfl⟩ : ∃ W, W = w7 := ⟨_, rfl⟩
               obtain ⟨A7, n7, c7, rfl, rfl⟩ := ho7.shape
               have HO7 := Lib.hid (ho7.mono (Nat.zero_le _))
               have HW7 := Lib.hid (HAL.out.trans (hb7.mono HAL.out.size))
               have BN7 := Lib.hid (box_next hb7 BN.out)
               clear ho7 hb7 d0 d1 d2 d3 d4 d5 d6 p0 p1 p2 p3 p4)
  have hvl : (readsX i.eq.e).length ≤ 9223372036854775807 := by have := HRL.out; omega
  have HS7 := Lib.hid HW7.out.size
  go_loopg [5, 7] (readsX i.eq.e).length (fun g ov v wr => ∃ j : Nat, j + g = (readsX i.eq.e).length ∧ v = .int .i64 j ∧ OwnN V7.heap.size wr ov (natI (((readsX i.eq.e).take j).filterMap (firstD n.items))) ∧ Below V7.heap.size V7 wr)
  case atStart => exact ⟨0, by omega, rfl, OwnN.nil _ _, Below.refl _ _⟩
  case round =>
    obtain ⟨j, hjg, rfl, hown, hbw⟩ := hrel
    obtain ⟨wz, rfl⟩ : ∃ W, W = wr := ⟨_, rfl⟩
    have HJ := Lib.hid hjg
    have HOZ := Lib.hid hown
    have HVZ := Lib.hid hbw
    have HSZ := Lib.hid (HO7.out.under hbw)
    have HWZ := Lib.hid (HW7.out.trans (hbw.mono HS7.out))
    have BZ := Lib.hid (box_next hbw BN7.out)
    obtain ⟨B5, m5, c5, rfl, rfl⟩ := hown.shape
    have hjl : j ≤ (readsX i.eq.e).length := by omega
    clear hjg hown hbw
    by_cases hjt : j < (readsX i.eq.e).length
    · obtain ⟨x, hx⟩ : ∃ x, (readsX i.eq.e)[j]? = some x := ⟨_, List.getElem?_eq_getElem hjt⟩
      obtain ⟨A9, c9, e9, _, _, he9⟩ := HSZ.out.strs
      injection e9 with e9 e10 e11
      obtain ⟨L9, hE9, rfl, hxl⟩ := he9 j x hx
      obtain ⟨a9, ea9, _, hzc, q9⟩ := elem1 hE9
      rw [ea9] at e9
      subst e9
      rw [Nat.mul_one] at q9
      have HT := Lib.hid (filt_step (items := n.items) hx)
      have HFL := Lib.hid (show (natI (((readsX i.eq.e).take j).filterMap (firstD n.items))).length ≤ 4194304 by rw [natI_len]; have := filt_le n.items (readsX i.eq.e) j; have := HRL.out; omega)
      have hlt9 : (a9.add j).block < wz.heap.size := World.block_lt_of_cell? wz _ q9
      have KEEP := Lib.hid (show ∀ W, Below wz.heap.size wz W → (fun W => W.cell? ⟨w.heap.size, 0, none⟩ = some (.string (str n.name)) ∧ W.cell? ⟨w.heap.size, 1, none⟩ = some (.slice fA fn fk) ∧ W.cell? ⟨w.heap.size, 2, none⟩ = some (.slice iA im ik) ∧ W.cell? ⟨w.heap.size, 3, none⟩ = some (.slice oA on ok) ∧ W.cell? ⟨w.heap.size, 4, none⟩ = some (.slice (some a) n.items.length xk) ∧ W.cell? (a9.add j) = some (.string (str x))) W from
        fun W hW => by
          obtain ⟨p0, p1, p2, p3, p4⟩ := row5 (box_next hW BZ.out)
          exact ⟨p0, p1, p2, p3, p4, (hW.cell (p := a9.add j) hlt9).trans q9⟩)
      have HBZ := Lib.hid (HB.out.trans (HWZ.out.mono hsz))
      clear hx e10 e11 he9 hE9 ea9 hzc hxl
      go_wp2_with fail
      refine wp_region_held_drew (S := (fun W => W.cell? ⟨w.heap.size, 0, none⟩ = some (.string (str n.name)) ∧ W.cell? ⟨w.heap.size, 1, none⟩ = some (.slice fA fn fk) ∧ W.cell? ⟨w.heap.size, 2, none⟩ = some (.slice iA im ik) ∧ W.cell? ⟨w.heap.size, 3, none⟩ = some (.slice oA on ok) ∧ W.cell? ⟨w.heap.size, 4, none⟩ = some (.slice (some a) n.items.length xk) ∧ W.cell? (a9.add j) = some (.string (str x)))) (by kernel_rfl) ?_ (fun hHeld => ?_)
      · exact KEEP.out _ (Below.refl _ _).drew
      refine take_now 0 rfl ?_
      try simp only [Act.put, setA, setZ, setS]
      refine take_now 1 rfl ?_
      try simp only [Act.put, setA, setZ, setS]
      refine take_now 2 rfl ?_
      try simp only [Act.put, setA, setZ, setS]
      refine take_now 3 rfl ?_
      try simp only [Act.put, setA, setZ, setS]
      refine take_now 4 rfl ?_
      try simp only [Act.put, setA, setZ, setS]
      refine only_at 5 (by kernel_rfl) rfl (fun K hK => ?_)
      go_simp
      (go_at_call 34
       (with_reducible refine (HDF.out x _ HBZ.out.drew).mono ?_)
       rintro e w8 ⟨rfl, hb8⟩
       obtain ⟨V8, rfl⟩ : ∃ W, W = w8 := ⟨_, rfl⟩
       have G8 := Lib.hid ((Below.refl wz.heap.size wz).drew.trans hb8)
       clear hb8)
      refine hK.out _ _ (KEEP.out _ ?_) (fun hHeld => ?_)
      · (repeat (first | exact Below.refl _ _ | exact G8.out | refine Below.drew ?_ | refine Below.alloc ?_ (by simp) _ | refine Below.setCell ?_ (by simp) _))
      clear hK K
      try simp only [Act.put, setA, setZ, setS]
      refine take_now 6 rfl ?_
      try simp only [Act.put, setA, setZ, setS]
      refine wpAnyH_done (by kernel_rfl) ?_ _
      clear KEEP q9 hlt9
      have HO8 := Lib.hid (HOZ.out.under G8.out)
      have HV8 := Lib.hid (HVZ.out.trans (G8.out.mono HVZ.out.size))
      cases hf : firstD n.items x with
      | none =>
        rw [hf, List.append_nil] at HT
        clear hf
        simp only [firstI]
        go_wp2_with fail
        go_roundg ((readsX i.eq.e).length - (j + 1))
        case measure => have := HJ.out; omega
        case rel => exact ⟨j + 1, by omega, by go_num, by rw [HT.out]; exact HO8.out, HV8.out⟩
      | some d =>
        rw [hf] at HT
        clear hf
        simp only [firstI]
        have hd0 : (0 : Int) ≤ (d : Int) := Int.natCast_nonneg d
        have HOU := Lib.hid (HO8.out.under ((Below.refl V8.heap.size V8).alloc (Nat.le_refl _) (.cells #[.int .i64 (d : Int)] 3)))
        have HBA8 := Lib.hid ((Below.refl V8.heap.size V8).alloc (Nat.le_refl _) (.cells #[.int .i64 (d : Int)] 3))
        go_wp2_with (at_builtin
                     refine app_num 33 Tryz.underlying33 rfl _ _ rfl rfl rfl (heap_alloc_new _ _) HOU.out HFL.out ?_ ?_
                     · have := HV8.out.size; simp; omega
                     intro v5 w5 h5
                     obtain ⟨V5, rfl⟩ : ∃ W, W = w5 := ⟨_, rfl⟩
                     have hown5 : OwnN V7.heap.size V5 v5 (natI (((readsX i.eq.e).take j).filterMap (firstD n.items) ++ [d])) := by rw [natI_snoc]; exact h5.own
                     have HN5 := Lib.hid hown5
                     have HGR := Lib.hid ((HV8.out.trans (HBA8.out.mono HV8.out.size)).trans (h5.below HOU.out (Nat.le_trans HV8.out.size HBA8.out.size)))
                     obtain ⟨B6, m6, c6, rfl, rfl⟩ := hown5.shape
                     clear h5 hown5)
        go_roundg ((readsX i.eq.e).length - (j + 1))
        case measure => have := HJ.out; omega
        case rel => exact ⟨j + 1, by omega, by go_num, by rw [HT.out]; exact HN5.out, HGR.out⟩
    · have hje : j = (readsX i.eq.e).length := by omega
      have HTE := Lib.hid (show OwnN V7.heap.size wz (.slice B5 (natI (((readsX i.eq.e).take j).filterMap (firstD n.items))).length c5) (natI (srcI n.items i)) by have := HOZ.out; rw [hje, List.take_length, ← HSI.out] at this; rw [hje, List.take_length, ← HSI.out]; exact this)
      go_wp2_with fail
      go_ret
      exact ⟨_, rfl, HTE.out.mono HS7.out, HWZ.out⟩
end Go.Proofs.YtifbdglhfoimjaaGreatDoor
