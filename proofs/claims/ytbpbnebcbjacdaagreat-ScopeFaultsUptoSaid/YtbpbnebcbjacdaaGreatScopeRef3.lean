/-
  The reference's Check: item.
  The reference's Check: defines, node, Check. ScopeFaults: the walk.
  The reference's Check: node, Check. ScopeFaults: the walk.
-/
import Derived.Test.YtbpbnebcbjacdaaGreatScopeRef2
namespace Go.Proofs.YtbpbnebcbjacdaaGreat
open Go.RowKit

theorem right_item {made : Bool} {x : QItem} (h : rightItem made x = true) : (x.states = [] → rightX made x.eq.e = true) ∧ ∀ q ∈ x.states, (∀ e ∈ q.eqs, rightX made e.e = true) ∧ ∀ y ∈ q.ways, rightX made y.cond = true := by
  obtain ⟨⟨nm, e⟩, sts⟩ := x
  unfold rightItem at h
  by_cases h0 : sts = []
  · subst h0
    rw [if_pos rfl] at h
    unfold rightEq at h
    rw [Bool.and_eq_true] at h
    exact ⟨fun _ => h.2, fun q hq => by cases hq⟩
  · rw [if_neg h0, Bool.and_eq_true, Bool.and_eq_true] at h
    refine ⟨fun e => absurd e h0, fun q hq => ?_⟩
    have h5 := (allM_len h.2.2).2.2 q hq
    unfold rightState at h5
    rw [Bool.and_eq_true, Bool.and_eq_true] at h5
    refine ⟨fun e he => ?_, fun y hy => ?_⟩
    · have := (allM_len h5.2.1).2.2 e he
      unfold rightEq at this
      rw [Bool.and_eq_true] at this
      exact this.2
    · have := (allM_len h5.2.2).2.2 y hy
      unfold rightWay at this
      rw [Bool.and_eq_true] at this
      exact this.2
set_option maxHeartbeats 16000000 in
set_option maxRecDepth 100000 in
theorem s5Item_any {made : Bool} {w0 : World} {L : List Value} {p : QProg} (hL : ProgAt w0 L p) {k : Nat} {n : QNode} (hk : p.nodes[k]? = some n) (hnd : (boolsL ++ p.enums.flatMap QEnum.cons).Nodup) (hvl : (varsQ n).length ≤ 2097152) (is : List QItem) {b : Nat} {x : QItem} (hx : n.items[b]? = some x) (hr : rightItem made x = true) : ∀ w, Below w0.heap.size w0 w →
    Calls Tryz.prog 52 #[.agg L.toArray, .int .i64 k, .int .i64 b] w (BoolPost (usesItem ⟨envS p.enums (p.nodes.take k) is, n.funs, varsQ n⟩ x) w) := by
  have HUSES := Lib.hid (fun (Le : List Value) (y : Ex) (hy : ExAt w0 Le y) (hry : rightX made y = true) => rUses_any hL hk hnd hvl is hy hry)
  have HUI := Lib.hid (show usesItem ⟨envS p.enums (p.nodes.take k) is, n.funs, varsQ n⟩ x = if x.states = [] then usesX ⟨envS p.enums (p.nodes.take k) is, n.funs, varsQ n⟩ x.eq.names.length false x.eq.e else x.states.all fun q => (q.eqs.all fun e => usesX ⟨envS p.enums (p.nodes.take k) is, n.funs, varsQ n⟩ 1 true e.e) && q.ways.all fun y => usesX ⟨envS p.enums (p.nodes.take k) is, n.funs, varsQ n⟩ 1 true y.cond from rfl)
  generalize (⟨envS p.enums (p.nodes.take k) is, n.funs, varsQ n⟩ : SNode) = sn at *
  obtain ⟨hr1, hr2⟩ := right_item hr
  have HR1 := Lib.hid hr1
  have HR2 := Lib.hid hr2
  clear hr hr1 hr2 hnd hvl
  intro w hb
  have HB := Lib.hid hb
  have hsz := hb.size
  have hkl : k < p.nodes.length := (List.getElem?_eq_some_iff.1 hk).1
  have HPROG := Lib.hid hL
  obtain ⟨ev, nv, rfl, he, hn⟩ := hL
  have HEV := Lib.hid he
  have HNV := Lib.hid hn
  obtain ⟨E, en, ek, rfl⟩ := SliceAt.shape he
  obtain ⟨C, ck, rfl, hcc, hmc, hce⟩ := hn
  have hccap : p.nodes.length ≤ ck := hcc
  have hnl : p.nodes.length ≤ 9223372036854775807 := by unfold maxLen at hmc; omega
  have HNE := Lib.hid hce
  obtain ⟨Ln, hEn, hNn⟩ := hce k n hk
  have HEN := Lib.hid hEn
  have HNA := Lib.hid hNn
  obtain ⟨fv, iv, ov, xv, rfl, hnn, hfu, hin, hou, hit⟩ := hNn
  have HFU := Lib.hid hfu
  have HIN := Lib.hid hin
  have HOU := Lib.hid hou
  have HIT := Lib.hid hit
  obtain ⟨fA, fk, rfl, hfc, hfm, hfe⟩ := hfu
  obtain ⟨iA, ik, rfl, hic, him, hie⟩ := hin
  obtain ⟨oA, ok, rfl, hoc, hom, hoe⟩ := hou
  obtain ⟨xA, xk, rfl, hxc, hxm, hxe⟩ := hit
  have hfl : n.funs.length ≤ 9223372036854775807 := by have h : n.funs.length ≤ fk := hfc; unfold maxLen at hfm; omega
  have hol : n.outs.length ≤ 9223372036854775807 := by have h : n.outs.length ≤ ok := hoc; unfold maxLen at hom; omega
  have hxcap : n.items.length ≤ xk := hxc
  have hxl : n.items.length ≤ 9223372036854775807 := by unfold maxLen at hxm; omega
  have HFE := Lib.hid hfe
  have HOE := Lib.hid hoe
  have HXE := Lib.hid hxe
  obtain ⟨a, ea, ha, haa, d0, d1, d2, d3, d4⟩ := elem5 (hEn.under HB.out)
  subst ea
  obtain ⟨Lx, hEx, hIx⟩ := HXE.out b x hx
  have hbl : b < n.items.length := (List.getElem?_eq_some_iff.1 hx).1
  obtain ⟨L', sv, rfl, hxq, hst⟩ := hIx
  obtain ⟨nv0, Le0, rfl, hnv0, hxe0⟩ := hxq
  have HXE0 := Lib.hid hxe0
  obtain ⟨A0, k0, rfl, hnc0, hnm0, _⟩ := hnv0
  have hn0l : x.eq.names.length ≤ 9223372036854775807 := by have h : x.eq.names.length ≤ k0 := hnc0; unfold maxLen at hnm0; omega
  obtain ⟨o1, s2, o3, A4, n4, k4, A5, n5, k5, rfl⟩ := hxe0.shape
  obtain ⟨sA, sc, rfl, hsc, hsm, hse⟩ := hst
  have hscap : x.states.length ≤ sc := hsc
  have hsl : x.states.length ≤ 9223372036854775807 := by unfold maxLen at hsm; omega
  have HSE := Lib.hid hse
  simp only [List.cons_append, List.nil_append] at hEx
  obtain ⟨c, ec, hcb, hcbb, f0, f1, f2, f3, f4, f5, f6⟩ := elem7 (hEx.under HB.out)
  subst ec
  have HW2 := Lib.hid (show Below w.heap.size w ((w.alloc (.cells #[.slice E en ek, .slice (some a) p.nodes.length ck] 25)).alloc (.cells #[.slice A0 x.eq.names.length k0, .int .i64 o1, .string s2, .int .i64 o3, .slice A4 n4 k4, .slice A5 n5 k5, .slice sA x.states.length sc] 55)) from (((Below.refl w.heap.size w).alloc (by simp) _).alloc (by simp <;> omega) _))
  have BX0 := Lib.hid (show ((w.alloc (.cells #[.slice E en ek, .slice (some a) p.nodes.length ck] 25)).alloc (.cells #[.slice A0 x.eq.names.length k0, .int .i64 o1, .string s2, .int .i64 o3, .slice A4 n4 k4, .slice A5 n5 k5, .slice sA x.states.length sc] 55)).heap[w.heap.size + 1]? = some (.cells #[.slice A0 x.eq.names.length k0, .int .i64 o1, .string s2, .int .i64 o3, .slice A4 n4 k4, .slice A5 n5 k5, .slice sA x.states.length sc] 55 (0, 0)) from alloc_at (by simp))
  have BP0 := Lib.hid (show ((w.alloc (.cells #[.slice E en ek, .slice (some a) p.nodes.length ck] 25)).alloc (.cells #[.slice A0 x.eq.names.length k0, .int .i64 o1, .string s2, .int .i64 o3, .slice A4 n4 k4, .slice A5 n5 k5, .slice sA x.states.length sc] 55)).heap[w.heap.size]? = some (.cells #[.slice E en ek, .slice (some a) p.nodes.length ck] 25 (0, 0)) from alloc_below (heap_alloc_new w _))
  clear hEx hnc0 hnm0 hxe0 hsc hsm hse hx
  clear hb he hcc hmc hce hEn hnn hfc hfm hfe hic him hie hoc hom hoe hxc hxm hxe
  by_cases h0 : x.states = []
  · have HN := Lib.hid (show usesItem sn x = usesX sn x.eq.names.length false x.eq.e by rw [HUI.out, if_pos h0])
    have hz : x.states.length = 0 := by rw [h0]; rfl
    have HUSE := Lib.hid (HUSES.out _ _ HXE0.out (HR1.out h0))
    have hd0 : ((x.states.length : Int) == 0) = true := by rw [hz]; rfl
    clear h0 hz
    go_enter Tryz.func52, Tryz.ntmps52
    go_wp2_with (go_at_call 80
                 (with_reducible refine (HUSE.out false _ _ (HB.out.trans (HW2.out.mono hsz))).mono ?_)
                 rintro e' w8 ⟨rfl, hb8⟩
                 have G8 := Lib.hid (HW2.out.trans (hb8.mono HW2.out.size))
                 clear hb8)
    go_ret
    exact ⟨ret_bool HN.out.symm, G8.out⟩
  · have HN := Lib.hid (show usesItem sn x = x.states.all fun q => (q.eqs.all fun e => usesX sn 1 true e.e) && q.ways.all fun y => usesX sn 1 true y.cond by rw [HUI.out, if_neg h0])
    have hd0 : ((x.states.length : Int) == 0) = false := by rw [beq_eq_false_iff_ne]; have := List.length_pos_iff.2 h0; omega
    clear h0
    go_enter Tryz.func52, Tryz.ntmps52
    go_wp2_with fail
    clear d0 d1 d2 d3 d4 f0 f1 f2 f3 f4 f5 f6
    generalize ((w.alloc (.cells #[.slice E en ek, .slice (some a) p.nodes.length ck] 25)).alloc (.cells #[.slice A0 x.eq.names.length k0, .int .i64 o1, .string s2, .int .i64 o3, .slice A4 n4 k4, .slice A5 n5 k5, .slice sA x.states.length sc] 55)) = V at *
    have HBV := Lib.hid (HB.out.trans (HW2.out.mono hsz))
    have hszV := HBV.out.size
    go_loopg [9] x.states.length (fun g v wr => ∃ i : Nat, i + g = x.states.length ∧ v = .int .i64 i ∧ (x.states.all fun q => (q.eqs.all fun e => usesX sn 1 true e.e) && q.ways.all fun y => usesX sn 1 true y.cond) = ((x.states.drop i).all fun q => (q.eqs.all fun e => usesX sn 1 true e.e) && q.ways.all fun y => usesX sn 1 true y.cond) ∧ Below V.heap.size V wr)
    case atStart => exact ⟨0, by omega, rfl, rfl, Below.refl _ _⟩
    case round =>
      obtain ⟨wi, rfl⟩ : ∃ W, W = wr := ⟨_, rfl⟩
      obtain ⟨i, hig, rfl, hr2, hbi⟩ := hrel
      have HI := Lib.hid hig
      have HR := Lib.hid hr2
      have HWI := Lib.hid hbi
      have HBI := Lib.hid (HBV.out.trans (hbi.mono hszV))
      obtain ⟨_, _, _, _, _, _, y6⟩ := row7 (box_next hbi BX0.out)
      have hil : i ≤ x.states.length := by omega
      clear hig hr2 hbi
      by_cases hlti : i < x.states.length
      · obtain ⟨q, hq⟩ : ∃ q, x.states[i]? = some q := ⟨_, List.getElem?_eq_getElem hlti⟩
        have HDR := Lib.hid (drop_consS hq)
        have HSQ := Lib.hid (show ((x.states.drop i).all fun q => (q.eqs.all fun e => usesX sn 1 true e.e) && q.ways.all fun y => usesX sn 1 true y.cond) = (((q.eqs.all fun e => usesX sn 1 true e.e) && q.ways.all fun y => usesX sn 1 true y.cond) && ((x.states.drop (i + 1)).all fun q => (q.eqs.all fun e => usesX sn 1 true e.e) && q.ways.all fun y => usesX sn 1 true y.cond)) by rw [HDR.out, List.all_cons])
        have HX := Lib.hid (show usesItem sn x = ((x.states.drop i).all fun q => (q.eqs.all fun e => usesX sn 1 true e.e) && q.ways.all fun y => usesX sn 1 true y.cond) by rw [HN.out, HR.out])
        obtain ⟨hre, hrw⟩ := HR2.out q (List.mem_of_getElem? hq)
        have HRE := Lib.hid hre
        have HRW := Lib.hid hrw
        obtain ⟨N3, hEN3, ev3, wv3, rfl, _, hev3, hwv3⟩ := HSE.out i q hq
        obtain ⟨qA, qc, rfl, hqc, hqm, hqq⟩ := hev3
        obtain ⟨yA, yc, rfl, hyc, hym, hyy⟩ := hwv3
        have hql : q.eqs.length ≤ 9223372036854775807 := by have h : q.eqs.length ≤ qc := hqc; unfold maxLen at hqm; omega
        have hyl : q.ways.length ≤ 9223372036854775807 := by have h : q.ways.length ≤ yc := hyc; unfold maxLen at hym; omega
        have HQQ := Lib.hid hqq
        have HYY := Lib.hid hyy
        obtain ⟨s, es, _, hsb, g0, g1, g2⟩ := elem3 (hEN3.under HBI.out)
        subst es
        clear hEN3 hqc hqm hqq hyc hym hyy hq hre hrw
        go_wp2_with fail
        clear y6 g0 g1 g2
        have AM := Lib.hid ((Below.refl wi.heap.size wi).alloc (Nat.le_refl _) (.cells #[.string (str q.name), .slice qA q.eqs.length qc, .slice yA q.ways.length yc] 71))
        have BSM := Lib.hid (heap_alloc_new wi (.cells #[.string (str q.name), .slice qA q.eqs.length qc, .slice yA q.ways.length yc] 71))
        have BPM := Lib.hid (box_next AM.out (box_next HWI.out BP0.out))
        have HVI := Lib.hid (HWI.out.trans (AM.out.mono HWI.out.size))
        have HVM := Lib.hid (HW2.out.trans (HVI.out.mono HW2.out.size))
        have HBM := Lib.hid (HBI.out.trans (AM.out.mono HBI.out.size))
        obtain ⟨B, hB⟩ : ∃ B, wi.heap.size = B := ⟨_, rfl⟩
        clear AM
        generalize wi.alloc (.cells #[.string (str q.name), .slice qA q.eqs.length qc, .slice yA q.ways.length yc] 71) = M at *
        rw [hB] at *
        have hszM := HBM.out.size
        go_loopg [11] q.eqs.length (fun g v wr => ∃ j : Nat, j + g = q.eqs.length ∧ v = .int .i64 j ∧ (q.eqs.all (fun e => usesX sn 1 true e.e)) = ((q.eqs.drop j).all (fun e => usesX sn 1 true e.e)) ∧ Below M.heap.size M wr)
        case atStart => exact ⟨0, by omega, rfl, rfl, Below.refl _ _⟩
        case round =>
          obtain ⟨wj, rfl⟩ : ∃ W, W = wr := ⟨_, rfl⟩
          obtain ⟨j, hjg, rfl, hr3, hbj⟩ := hrel
          have HJ := Lib.hid hjg
          have HR3 := Lib.hid hr3
          have HWJ := Lib.hid hbj
          have HBJ := Lib.hid (HBM.out.trans (hbj.mono hszM))
          obtain ⟨b0, b1, b2⟩ := row3 (box_next hbj BSM.out)
          have hjl : j ≤ q.eqs.length := by omega
          clear hjg hr3 hbj
          by_cases hltj : j < q.eqs.length
          · obtain ⟨y, hy⟩ : ∃ y, q.eqs[j]? = some y := ⟨_, List.getElem?_eq_getElem hltj⟩
            have HDJ := Lib.hid (drop_consS hy)
            have HRY := Lib.hid (HRE.out y (List.mem_of_getElem? hy))
            obtain ⟨Ly, hEy, nv, L2, rfl, hnv, hx2⟩ := HQQ.out j y hy
            have HX2 := Lib.hid hx2
            obtain ⟨nA, nn, nk, rfl⟩ := SliceAt.shape hnv
            obtain ⟨o1, s1, n1, A1, m1, k1, A2, m2, k2, rfl⟩ := hx2.shape
            have HEY := Lib.hid hEy
            obtain ⟨d, ed, _, _, _, _, _, _, _, _⟩ := elem6 (hEy.under HBJ.out)
            subst ed
            clear hnv hx2
            have HUSE := Lib.hid (HUSES.out _ _ HX2.out HRY.out)
            have HX3 := Lib.hid (show (q.eqs.all (fun e => usesX sn 1 true e.e)) = (usesX sn 1 true y.e && (q.eqs.drop (j + 1)).all (fun e => usesX sn 1 true e.e)) by rw [HR3.out, HDJ.out, List.all_cons])
            obtain ⟨u, hu⟩ : ∃ u, usesX sn 1 true y.e = u := ⟨_, rfl⟩
            have HU := Lib.hid hu
            have KEEP := Lib.hid (show ∀ W, Below wj.heap.size wj W → (fun W => W.cell? ⟨w.heap.size, 0, none⟩ = some (.slice E en ek) ∧ W.cell? ⟨w.heap.size, 1, none⟩ = some (.slice (some a) p.nodes.length ck) ∧ W.cell? ⟨B, 1, none⟩ = some (.slice (some d) q.eqs.length qc) ∧ W.cell? { block := (d.add (j * 6)).block, off := (d.add (j * 6)).off + 1 } = some (.int .i64 o1) ∧ W.cell? { block := (d.add (j * 6)).block, off := (d.add (j * 6)).off + 1 + 1 } = some (.string s1) ∧ W.cell? { block := (d.add (j * 6)).block, off := (d.add (j * 6)).off + 1 + 2 } = some (.int .i64 n1) ∧ W.cell? { block := (d.add (j * 6)).block, off := (d.add (j * 6)).off + 1 + 3 } = some (.slice A1 m1 k1) ∧ W.cell? { block := (d.add (j * 6)).block, off := (d.add (j * 6)).off + 1 + 4 } = some (.slice A2 m2 k2)) W from
              fun W hW => by
                have hMW := HWJ.out.trans (hW.mono HWJ.out.size)
                have hBW := HBM.out.trans (hMW.mono hszM)
                obtain ⟨p0, p1⟩ := row2 (box_next hMW BPM.out)
                obtain ⟨_, b1, b2⟩ := row3 (box_next hMW BSM.out)
                obtain ⟨d', ed', _, _, v0, v1, v2, v3, v4, v5⟩ := elem6 (HEY.out.under hBW)
                cases ed'
                exact ⟨p0, p1, b1, v1, v2, v3, v4, v5⟩)
            clear hy hEy hu
            cases u
            · go_wp2_with fail
              clear b0 b1 b2
              refine wp_region_held_drew (S := (fun W => W.cell? ⟨w.heap.size, 0, none⟩ = some (.slice E en ek) ∧ W.cell? ⟨w.heap.size, 1, none⟩ = some (.slice (some a) p.nodes.length ck) ∧ W.cell? ⟨B, 1, none⟩ = some (.slice (some d) q.eqs.length qc) ∧ W.cell? { block := (d.add (j * 6)).block, off := (d.add (j * 6)).off + 1 } = some (.int .i64 o1) ∧ W.cell? { block := (d.add (j * 6)).block, off := (d.add (j * 6)).off + 1 + 1 } = some (.string s1) ∧ W.cell? { block := (d.add (j * 6)).block, off := (d.add (j * 6)).off + 1 + 2 } = some (.int .i64 n1) ∧ W.cell? { block := (d.add (j * 6)).block, off := (d.add (j * 6)).off + 1 + 3 } = some (.slice A1 m1 k1) ∧ W.cell? { block := (d.add (j * 6)).block, off := (d.add (j * 6)).off + 1 + 4 } = some (.slice A2 m2 k2))) (by kernel_rfl) ?_ (fun hHeld => ?_)
              · exact KEEP.out _ (Below.refl _ _).drew
              refine take_now 0 rfl ?_
              try simp only [Act.put, setA, setZ, setS]
              refine take_now 1 rfl ?_
              try simp only [Act.put, setA, setZ, setS]
              refine take_now 2 rfl ?_
              try simp only [Act.put, setA, setZ, setS]
              refine take_now 3 rfl ?_
              try simp only [Act.put, setA, setZ, setS]
              refine take_now 4 rfl ?_
              try simp only [Act.put, setA, setZ, setS]
              refine take_now 5 rfl ?_
              try simp only [Act.put, setA, setZ, setS]
              refine take_now 6 rfl ?_
              try simp only [Act.put, setA, setZ, setS]
              refine take_now 7 rfl ?_
              try simp only [Act.put, setA, setZ, setS]
              refine only_at 8 (by kernel_rfl) rfl (fun K hK => ?_)
              go_simp
              (go_at_call 80
               (with_reducible refine (HUSE.out true 1 _ HBJ.out.drew).mono ?_)
               rintro e' w8 ⟨he, hb8⟩
               rw [HU.out] at he
               subst he
               obtain ⟨Y, rfl⟩ : ∃ W, W = w8 := ⟨_, rfl⟩
               have GY := Lib.hid ((Below.refl wj.heap.size wj).drew.trans hb8)
               clear hb8)
              refine hK.out _ _ (KEEP.out _ ?_) (fun hHeld => ?_)
              · (repeat (first | exact Below.refl _ _ | exact GY.out | refine Below.drew ?_ | refine Below.alloc ?_ (by simp) _ | refine Below.setCell ?_ (by simp) _))
              clear hK K
              try simp only [Act.put, setA, setZ, setS]
              refine take_now 9 rfl ?_
              try simp only [Act.put, setA, setZ, setS]
              refine wpAnyH_done (by kernel_rfl) ?_ _
              go_wp2_with fail
              go_ret
              exact ⟨ret_bool (by rw [HX.out, HSQ.out, HX3.out, HU.out]; simp), HVM.out.trans ((HWJ.out.trans (GY.out.mono HWJ.out.size)).mono HVM.out.size)⟩
            · go_wp2_with fail
              clear b0 b1 b2
              refine wp_region_held_drew (S := (fun W => W.cell? ⟨w.heap.size, 0, none⟩ = some (.slice E en ek) ∧ W.cell? ⟨w.heap.size, 1, none⟩ = some (.slice (some a) p.nodes.length ck) ∧ W.cell? ⟨B, 1, none⟩ = some (.slice (some d) q.eqs.length qc) ∧ W.cell? { block := (d.add (j * 6)).block, off := (d.add (j * 6)).off + 1 } = some (.int .i64 o1) ∧ W.cell? { block := (d.add (j * 6)).block, off := (d.add (j * 6)).off + 1 + 1 } = some (.string s1) ∧ W.cell? { block := (d.add (j * 6)).block, off := (d.add (j * 6)).off + 1 + 2 } = some (.int .i64 n1) ∧ W.cell? { block := (d.add (j * 6)).block, off := (d.add (j * 6)).off + 1 + 3 } = some (.slice A1 m1 k1) ∧ W.cell? { block := (d.add (j * 6)).block, off := (d.add (j * 6)).off + 1 + 4 } = some (.slice A2 m2 k2))) (by kernel_rfl) ?_ (fun hHeld => ?_)
              · exact KEEP.out _ (Below.refl _ _).drew
              refine take_now 0 rfl ?_
              try simp only [Act.put, setA, setZ, setS]
              refine take_now 1 rfl ?_
              try simp only [Act.put, setA, setZ, setS]
              refine take_now 2 rfl ?_
              try simp only [Act.put, setA, setZ, setS]
              refine take_now 3 rfl ?_
              try simp only [Act.put, setA, setZ, setS]
              refine take_now 4 rfl ?_
              try simp only [Act.put, setA, setZ, setS]
              refine take_now 5 rfl ?_
              try simp only [Act.put, setA, setZ, setS]
              refine take_now 6 rfl ?_
              try simp only [Act.put, setA, setZ, setS]
              refine take_now 7 rfl ?_
              try simp only [Act.put, setA, setZ, setS]
              refine only_at 8 (by kernel_rfl) rfl (fun K hK => ?_)
              go_simp
              (go_at_call 80
               (with_reducible refine (HUSE.out true 1 _ HBJ.out.drew).mono ?_)
               rintro e' w8 ⟨he, hb8⟩
               rw [HU.out] at he
               subst he
               obtain ⟨Y, rfl⟩ : ∃ W, W = w8 := ⟨_, rfl⟩
               have GY := Lib.hid ((Below.refl wj.heap.size wj).drew.trans hb8)
               clear hb8)
              refine hK.out _ _ (KEEP.out _ ?_) (fun hHeld => ?_)
              · (repeat (first | exact Below.refl _ _ | exact GY.out | refine Below.drew ?_ | refine Below.alloc ?_ (by simp) _ | refine Below.setCell ?_ (by simp) _))
              clear hK K
              try simp only [Act.put, setA, setZ, setS]
              refine take_now 9 rfl ?_
              try simp only [Act.put, setA, setZ, setS]
              refine wpAnyH_done (by kernel_rfl) ?_ _
              go_wp2_with fail
              go_roundg (q.eqs.length - (j + 1))
              case measure => have := HJ.out; omega
              case rel => exact ⟨j + 1, by omega, by go_num, by rw [HX3.out, HU.out]; rfl, HWJ.out.trans (GY.out.mono HWJ.out.size)⟩
          · have hje : j = q.eqs.length := by omega
            have HEQS := Lib.hid (show (q.eqs.all (fun e => usesX sn 1 true e.e)) = true by rw [HR3.out, hje, List.drop_length]; rfl)
            clear hje
            go_wp2_with fail
            clear b0 b1 b2
            go_loopg [12] q.ways.length (fun g v wr => ∃ j : Nat, j + g = q.ways.length ∧ v = .int .i64 j ∧ (q.ways.all (fun y => usesX sn 1 true y.cond)) = ((q.ways.drop j).all (fun y => usesX sn 1 true y.cond)) ∧ Below M.heap.size M wr)
            case atStart => exact ⟨0, by omega, rfl, rfl, HWJ.out⟩
            case round =>
              obtain ⟨wj, rfl⟩ : ∃ W, W = wr := ⟨_, rfl⟩
              obtain ⟨j, hjg, rfl, hr3, hbj⟩ := hrel
              have HJ := Lib.hid hjg
              have HR3 := Lib.hid hr3
              have HWJ := Lib.hid hbj
              have HBJ := Lib.hid (HBM.out.trans (hbj.mono hszM))
              obtain ⟨b0, b1, b2⟩ := row3 (box_next hbj BSM.out)
              have hjl : j ≤ q.ways.length := by omega
              clear hjg hr3 hbj
              by_cases hltj : j < q.ways.length
              · obtain ⟨y, hy⟩ : ∃ y, q.ways[j]? = some y := ⟨_, List.getElem?_eq_getElem hltj⟩
                have HDJ := Lib.hid (drop_consS hy)
                have HRY := Lib.hid (HRW.out y (List.mem_of_getElem? hy))
                obtain ⟨Ly, hEy, L2, rfl, hx2, hto⟩ := HYY.out j y hy
                have HX2 := Lib.hid hx2
                obtain ⟨o1, s1, n1, A1, m1, k1, A2, m2, k2, rfl⟩ := hx2.shape
                simp only [List.cons_append, List.nil_append] at hEy
                have HEY := Lib.hid hEy
                obtain ⟨d, ed, _, _, _, _, _, _, _, _⟩ := elem6 (hEy.under HBJ.out)
                subst ed
                clear hto hx2
                have HUSE := Lib.hid (HUSES.out _ _ HX2.out HRY.out)
                have HX3 := Lib.hid (show (q.ways.all (fun y => usesX sn 1 true y.cond)) = (usesX sn 1 true y.cond && (q.ways.drop (j + 1)).all (fun y => usesX sn 1 true y.cond)) by rw [HR3.out, HDJ.out, List.all_cons])
                obtain ⟨u, hu⟩ : ∃ u, usesX sn 1 true y.cond = u := ⟨_, rfl⟩
                have HU := Lib.hid hu
                have KEEP := Lib.hid (show ∀ W, Below wj.heap.size wj W → (fun W => W.cell? ⟨w.heap.size, 0, none⟩ = some (.slice E en ek) ∧ W.cell? ⟨w.heap.size, 1, none⟩ = some (.slice (some a) p.nodes.length ck) ∧ W.cell? ⟨B, 2, none⟩ = some (.slice (some d) q.ways.length yc) ∧ W.cell? (d.add (j * 6)) = some (.int .i64 o1) ∧ W.cell? { block := (d.add (j * 6)).block, off := (d.add (j * 6)).off + 1 } = some (.string s1) ∧ W.cell? { block := (d.add (j * 6)).block, off := (d.add (j * 6)).off + 2 } = some (.int .i64 n1) ∧ W.cell? { block := (d.add (j * 6)).block, off := (d.add (j * 6)).off + 3 } = some (.slice A1 m1 k1) ∧ W.cell? { block := (d.add (j * 6)).block, off := (d.add (j * 6)).off + 4 } = some (.slice A2 m2 k2)) W from
                  fun W hW => by
                    have hMW := HWJ.out.trans (hW.mono HWJ.out.size)
                    have hBW := HBM.out.trans (hMW.mono hszM)
                    obtain ⟨p0, p1⟩ := row2 (box_next hMW BPM.out)
                    obtain ⟨_, b1, b2⟩ := row3 (box_next hMW BSM.out)
                    obtain ⟨d', ed', _, _, v0, v1, v2, v3, v4, v5⟩ := elem6 (HEY.out.under hBW)
                    cases ed'
                    exact ⟨p0, p1, b2, v0, v1, v2, v3, v4⟩)
                clear hy hEy hu
                cases u
                · go_wp2_with fail
                  clear b0 b1 b2
                  refine wp_region_held_drew (S := (fun W => W.cell? ⟨w.heap.size, 0, none⟩ = some (.slice E en ek) ∧ W.cell? ⟨w.heap.size, 1, none⟩ = some (.slice (some a) p.nodes.length ck) ∧ W.cell? ⟨B, 2, none⟩ = some (.slice (some d) q.ways.length yc) ∧ W.cell? (d.add (j * 6)) = some (.int .i64 o1) ∧ W.cell? { block := (d.add (j * 6)).block, off := (d.add (j * 6)).off + 1 } = some (.string s1) ∧ W.cell? { block := (d.add (j * 6)).block, off := (d.add (j * 6)).off + 2 } = some (.int .i64 n1) ∧ W.cell? { block := (d.add (j * 6)).block, off := (d.add (j * 6)).off + 3 } = some (.slice A1 m1 k1) ∧ W.cell? { block := (d.add (j * 6)).block, off := (d.add (j * 6)).off + 4 } = some (.slice A2 m2 k2))) (by kernel_rfl) ?_ (fun hHeld => ?_)
                  · exact KEEP.out _ (Below.refl _ _).drew
                  refine take_now 0 rfl ?_
                  try simp only [Act.put, setA, setZ, setS]
                  refine take_now 1 rfl ?_
                  try simp only [Act.put, setA, setZ, setS]
                  refine take_now 2 rfl ?_
                  try simp only [Act.put, setA, setZ, setS]
                  refine take_now 3 rfl ?_
                  try simp only [Act.put, setA, setZ, setS]
                  refine take_now 4 rfl ?_
                  try simp only [Act.put, setA, setZ, setS]
                  refine take_now 5 rfl ?_
                  try simp only [Act.put, setA, setZ, setS]
                  refine take_now 6 rfl ?_
                  try simp only [Act.put, setA, setZ, setS]
                  refine take_now 7 rfl ?_
                  try simp only [Act.put, setA, setZ, setS]
                  refine only_at 8 (by kernel_rfl) rfl (fun K hK => ?_)
                  go_simp
                  (go_at_call 80
                   (with_reducible refine (HUSE.out true 1 _ HBJ.out.drew).mono ?_)
                   rintro e' w8 ⟨he, hb8⟩
                   rw [HU.out] at he
                   subst he
                   obtain ⟨Y, rfl⟩ : ∃ W, W = w8 := ⟨_, rfl⟩
                   have GY := Lib.hid ((Below.refl wj.heap.size wj).drew.trans hb8)
                   clear hb8)
                  refine hK.out _ _ (KEEP.out _ ?_) (fun hHeld => ?_)
                  · (repeat (first | exact Below.refl _ _ | exact GY.out | refine Below.drew ?_ | refine Below.alloc ?_ (by simp) _ | refine Below.setCell ?_ (by simp) _))
                  clear hK K
                  try simp only [Act.put, setA, setZ, setS]
                  refine take_now 9 rfl ?_
                  try simp only [Act.put, setA, setZ, setS]
                  refine wpAnyH_done (by kernel_rfl) ?_ _
                  go_wp2_with fail
                  go_ret
                  exact ⟨ret_bool (by rw [HX.out, HSQ.out, HEQS.out, HX3.out, HU.out]; simp), HVM.out.trans ((HWJ.out.trans (GY.out.mono HWJ.out.size)).mono HVM.out.size)⟩
                · go_wp2_with fail
                  clear b0 b1 b2
                  refine wp_region_held_drew (S := (fun W => W.cell? ⟨w.heap.size, 0, none⟩ = some (.slice E en ek) ∧ W.cell? ⟨w.heap.size, 1, none⟩ = some (.slice (some a) p.nodes.length ck) ∧ W.cell? ⟨B, 2, none⟩ = some (.slice (some d) q.ways.length yc) ∧ W.cell? (d.add (j * 6)) = some (.int .i64 o1) ∧ W.cell? { block := (d.add (j * 6)).block, off := (d.add (j * 6)).off + 1 } = some (.string s1) ∧ W.cell? { block := (d.add (j * 6)).block, off := (d.add (j * 6)).off + 2 } = some (.int .i64 n1) ∧ W.cell? { block := (d.add (j * 6)).block, off := (d.add (j * 6)).off + 3 } = some (.slice A1 m1 k1) ∧ W.cell? { block := (d.add (j * 6)).block, off := (d.add (j * 6)).off + 4 } = some (.slice A2 m2 k2))) (by kernel_rfl) ?_ (fun hHeld => ?_)
                  · exact KEEP.out _ (Below.refl _ _).drew
                  refine take_now 0 rfl ?_
                  try simp only [Act.put, setA, setZ, setS]
                  refine take_now 1 rfl ?_
                  try simp only [Act.put, setA, setZ, setS]
                  refine take_now 2 rfl ?_
                  try simp only [Act.put, setA, setZ, setS]
                  refine take_now 3 rfl ?_
                  try simp only [Act.put, setA, setZ, setS]
                  refine take_now 4 rfl ?_
                  try simp only [Act.put, setA, setZ, setS]
                  refine take_now 5 rfl ?_
                  try simp only [Act.put, setA, setZ, setS]
                  refine take_now 6 rfl ?_
                  try simp only [Act.put, setA, setZ, setS]
                  refine take_now 7 rfl ?_
                  try simp only [Act.put, setA, setZ, setS]
                  refine only_at 8 (by kernel_rfl) rfl (fun K hK => ?_)
                  go_simp
                  (go_at_call 80
                   (with_reducible refine (HUSE.out true 1 _ HBJ.out.drew).mono ?_)
                   rintro e' w8 ⟨he, hb8⟩
                   rw [HU.out] at he
                   subst he
                   obtain ⟨Y, rfl⟩ : ∃ W, W = w8 := ⟨_, rfl⟩
                   have GY := Lib.hid ((Below.refl wj.heap.size wj).drew.trans hb8)
                   clear hb8)
                  refine hK.out _ _ (KEEP.out _ ?_) (fun hHeld => ?_)
                  · (repeat (first | exact Below.refl _ _ | exact GY.out | refine Below.drew ?_ | refine Below.alloc ?_ (by simp) _ | refine Below.setCell ?_ (by simp) _))
                  clear hK K
                  try simp only [Act.put, setA, setZ, setS]
                  refine take_now 9 rfl ?_
                  try simp only [Act.put, setA, setZ, setS]
                  refine wpAnyH_done (by kernel_rfl) ?_ _
                  go_wp2_with fail
                  go_roundg (q.ways.length - (j + 1))
                  case measure => have := HJ.out; omega
                  case rel => exact ⟨j + 1, by omega, by go_num, by rw [HX3.out, HU.out]; rfl, HWJ.out.trans (GY.out.mono HWJ.out.size)⟩
              · have hje : j = q.ways.length := by omega
                have HWAYS := Lib.hid (show (q.ways.all (fun y => usesX sn 1 true y.cond)) = true by rw [HR3.out, hje, List.drop_length]; rfl)
                clear hje
                have HNX := Lib.hid (show (x.states.all fun q => (q.eqs.all fun e => usesX sn 1 true e.e) && q.ways.all fun y => usesX sn 1 true y.cond) = ((x.states.drop (i + 1)).all fun q => (q.eqs.all fun e => usesX sn 1 true e.e) && q.ways.all fun y => usesX sn 1 true y.cond) by rw [HR.out, HSQ.out, HEQS.out, HWAYS.out]; rfl)
                go_wp2_with fail
                go_roundg (x.states.length - (i + 1))
                case measure => have := HI.out; omega
                case rel => exact ⟨i + 1, by omega, by go_num, HNX.out, HVI.out.trans (HWJ.out.mono HVI.out.size)⟩
      · have hie : i = x.states.length := by omega
        have HNN := Lib.hid (show usesItem sn x = true by rw [HN.out, HR.out, hie, List.drop_length]; rfl)
        clear hie
        go_wp2_with fail
        go_ret
        exact ⟨ret_bool HNN.out.symm, HW2.out.trans (HWI.out.mono HW2.out.size)⟩
end Go.Proofs.YtbpbnebcbjacdaaGreat
namespace Go.Proofs.YtbpbnebcbjacdaaGreat
open Go.RowKit

theorem item_small {made : Bool} {x : QItem} (h : rightItem made x = true) : ItemSmall x := by
  obtain ⟨h1, h2⟩ := item_fit h
  refine ⟨by omega, by omega, fun q hq => ?_⟩
  obtain ⟨⟨nm, e⟩, sts⟩ := x
  have hq' : q ∈ sts := hq
  unfold rightItem at h
  have h0 : sts ≠ [] := fun e => by rw [e] at hq'; cases hq'
  rw [if_neg h0, Bool.and_eq_true, Bool.and_eq_true] at h
  have h5 := (allM_len h.2.2).2.2 q hq'
  unfold rightState at h5
  rw [Bool.and_eq_true, Bool.and_eq_true] at h5
  have h6 : q.eqs.length ≤ 24 := (allM_len h5.2.1).2.1
  omega
theorem sts_few {p : QProg} (hp : wProg p ≤ 1048576) : (stBefore p.nodes []).length ≤ 2097152 := by
  have h0 : ∀ n ∈ p.nodes, (n.items.flatMap stNames).length ≤ wNode n := fun n _ => by
    have h1 := len_flat (f := stNames) (g := wItem) (l := n.items) (fun i _ => by
      have h2 : i.states.length ≤ wL wState i.states := by
        induction i.states with
        | nil => simp [wL]
        | cons s r ih => simp only [wL, List.length_cons, wState]; omega
      unfold stNames
      rw [List.length_map]
      simp only [wItem]
      omega)
    simp only [wNode]
    omega
  have h1 := len_flat (f := fun n : QNode => n.items.flatMap stNames) (g := wNode) (l := p.nodes) h0
  unfold wProg at hp
  unfold stBefore
  rw [List.length_append, List.flatMap_nil, List.length_nil]
  omega
/-- what the items before define -/
def varsTo (n : QNode) (b : Nat) : List Tx := n.ins ++ (n.items.take b).flatMap definedQ
theorem itemsF_no {b : Int} {s : SProg} {vars : List Tx} {i : QItem} {r : List QItem} (h : itemOk s vars i = false) : itemsF b s vars (i :: r) = .inr b := by rw [itemsF, if_neg (by rw [h]; simp)]
theorem itemsF_yes {b : Int} {s : SProg} {vars : List Tx} {i : QItem} {r : List QItem} (h : itemOk s vars i = true) : itemsF b s vars (i :: r) = itemsF (b + 1) (s.addItem i) (vars ++ definedQ i) r := by rw [itemsF, if_pos h]
theorem usesF_no {b : Int} {s : SNode} {i : QItem} {r : List QItem} (h : usesItem s i = false) : usesF s b (i :: r) = some b := by rw [usesF, if_neg (by rw [h]; simp)]
theorem usesF_yes {b : Int} {s : SNode} {i : QItem} {r : List QItem} (h : usesItem s i = true) : usesF s b (i :: r) = usesF s (b + 1) r := by rw [usesF, if_pos h]
theorem EqAt.ops {w : World} {L : List Value} {q : QEq} (h : EqAt w L q) : ∃ A0 n0 k0 s2 o3 A4 n4 k4 A5 n5 k5, L = [.slice A0 n0 k0, .int .i64 q.e.op, .string s2, .int .i64 o3, .slice A4 n4 k4, .slice A5 n5 k5] := by
  obtain ⟨nv, L', rfl, h1, h2⟩ := h
  obtain ⟨_, _, _, rfl⟩ := SliceAt.shape h1
  generalize q.e = x at h2 ⊢
  cases h2 with
  | mk hop hnm hn hcs hl hc hk hx =>
    obtain ⟨A1, c1, rfl, _⟩ := hcs
    exact ⟨_, _, _, _, _, _, _, _, _, _, _, rfl⟩
set_option maxHeartbeats 16000000 in
set_option maxRecDepth 100000 in
theorem rDefs_any {made : Bool} {w0 : World} {L : List Value} {p : QProg} (hL : ProgAt w0 L p) {k : Nat} {n : QNode} (hk : p.nodes[k]? = some n) (hrn : rightNode made n = true) (hvl : (varsQ n).length ≤ 2097152) (hst : (stBefore p.nodes []).length ≤ 2097152) {b : Nat} {x : QItem} (hx : n.items[b]? = some x) : ∀ w, Below w0.heap.size w0 w →
    Calls Tryz.prog 51 #[.agg L.toArray, .int .i64 k, .int .i64 b] w (BoolPost (itemOk (envS p.enums (p.nodes.take k) (n.items.take b)) (varsTo n b) x) w) := by
  have hri := ((node_fit hrn).2.2 x (List.mem_of_getElem? hx)).1
  have hsm := item_small hri
  have HAU := Lib.hid (fun (z : QState) (r : List QState) (hz : x.states = z :: r) => rAuto_any hL hk hx hz hst hsm)
  have HENV := Lib.hid (item_env p.enums (p.nodes.take k) (n.items.take b) (varsTo n b) x)
  have HFD := Lib.hid hsm.1
  have hvt : (varsQ ⟨[], [], n.ins, [], n.items.take b⟩).length ≤ 2097152 := vars_part b hvl
  have HVT := Lib.hid hvt
  generalize itemOk (envS p.enums (p.nodes.take k) (n.items.take b)) (varsTo n b) x = ans at *
  clear hri hsm hrn hst hvt hvl
  intro w hb
  have HB := Lib.hid hb
  have hsz := hb.size
  have hkl : k < p.nodes.length := (List.getElem?_eq_some_iff.1 hk).1
  have HPROG := Lib.hid hL
  obtain ⟨ev, nv, rfl, he, hn⟩ := hL
  have HEV := Lib.hid he
  have HNV := Lib.hid hn
  obtain ⟨E, en, ek, rfl⟩ := SliceAt.shape he
  obtain ⟨C, ck, rfl, hcc, hmc, hce⟩ := hn
  have hccap : p.nodes.length ≤ ck := hcc
  have hnl : p.nodes.length ≤ 9223372036854775807 := by unfold maxLen at hmc; omega
  have HNE := Lib.hid hce
  obtain ⟨Ln, hEn, hNn⟩ := hce k n hk
  have HEN := Lib.hid hEn
  have HNA := Lib.hid hNn
  obtain ⟨fv, iv, ov, xv, rfl, hnn, hfu, hin, hou, hit⟩ := hNn
  have HFU := Lib.hid hfu
  have HIN := Lib.hid hin
  have HOU := Lib.hid hou
  have HIT := Lib.hid hit
  obtain ⟨fA, fk, rfl, hfc, hfm, hfe⟩ := hfu
  obtain ⟨iA, ik, rfl, hic, him, hie⟩ := hin
  obtain ⟨oA, ok, rfl, hoc, hom, hoe⟩ := hou
  obtain ⟨xA, xk, rfl, hxc, hxm, hxe⟩ := hit
  have hfl : n.funs.length ≤ 9223372036854775807 := by have h : n.funs.length ≤ fk := hfc; unfold maxLen at hfm; omega
  have hol : n.outs.length ≤ 9223372036854775807 := by have h : n.outs.length ≤ ok := hoc; unfold maxLen at hom; omega
  have hxcap : n.items.length ≤ xk := hxc
  have hxl : n.items.length ≤ 9223372036854775807 := by unfold maxLen at hxm; omega
  have HFE := Lib.hid hfe
  have HOE := Lib.hid hoe
  have HXE := Lib.hid hxe
  obtain ⟨a, ea, ha, haa, d0, d1, d2, d3, d4⟩ := elem5 (hEn.under HB.out)
  subst ea
  obtain ⟨Lx, hEx, hIx⟩ := HXE.out b x hx
  have HITM := Lib.hid hIx
  have hbl : b < n.items.length := (List.getElem?_eq_some_iff.1 hx).1
  obtain ⟨L', sv, rfl, hxq, hst⟩ := hIx
  obtain ⟨A0, n0, k0, s2, o3, A4, n4, k4, A5, n5, k5, rfl⟩ := hxq.ops
  obtain ⟨sA, sc, rfl, hsc, hsm, hse⟩ := hst
  have hscap : x.states.length ≤ sc := hsc
  have hsl : x.states.length ≤ 9223372036854775807 := by unfold maxLen at hsm; omega
  have HSE := Lib.hid hse
  simp only [List.cons_append, List.nil_append] at hEx HITM
  obtain ⟨c, ec, hcb, hcbb, f0, f1, f2, f3, f4, f5, f6⟩ := elem7 (hEx.under HB.out)
  subst ec
  have hxb : b ≤ xk := by omega
  have HDEF := Lib.hid (rdefined_any HITM.out HFD.out)
  generalize x.eq.e.op = o at *
  have HEARLY := Lib.hid (show ∀ w, Below w0.heap.size w0 w → Calls Tryz.prog 18 #[.agg #[.string ⟨#[]⟩, .slice none 0 0, .slice iA n.ins.length ik, .slice none 0 0, .slice (some c) b xk]] w (OwnPost (varsQ ⟨[], [], n.ins, [], n.items.take b⟩) w) from rvars_any (show NodeAt w0 [.string (str []), .slice none 0 0, .slice iA n.ins.length ik, .slice none 0 0, .slice (some c) b xk] ⟨[], [], n.ins, [], n.items.take b⟩ from ⟨_, _, _, _, rfl, by simp, ⟨none, 0, rfl, Nat.le_refl _, by unfold maxLen; omega, fun i x h => by simp at h⟩, HIN.out, ⟨none, 0, rfl, Nat.le_refl _, by unfold maxLen; omega, fun i x h => by simp at h⟩, SliceAt.take HIT.out (Nat.le_of_lt hbl)⟩) HVT.out)
  have HVE := Lib.hid (show varsQ ⟨[], [], n.ins, [], n.items.take b⟩ = varsTo n b from rfl)
  rw [HVE.out] at HEARLY
  generalize varsTo n b = early at *
  have HW3 := Lib.hid (show Below w.heap.size w (((w.alloc (.cells #[.slice E en ek, .slice (some a) p.nodes.length ck] 25)).alloc (.cells #[.string (str n.name), .slice fA n.funs.length fk, .slice iA n.ins.length ik, .slice oA n.outs.length ok, .slice (some c) n.items.length xk] 41)).alloc (.cells #[.slice A0 n0 k0, .int .i64 o, .string s2, .int .i64 o3, .slice A4 n4 k4, .slice A5 n5 k5, .slice sA x.states.length sc] 55)) from ((((Below.refl w.heap.size w).alloc (by simp) _).alloc (by simp <;> omega) _).alloc (by simp <;> omega) _))
  clear hEx hxq hsc hsm hse hx HVE
  clear hb he hcc hmc hce hEn hnn hfc hfm hfe hic him hie hoc hom hoe hxc hxm hxe
  go_enter Tryz.func51, Tryz.ntmps51
  go_wp2_with (go_at_call 19
               (with_reducible refine (HDEF.out _ (HB.out.trans (HW3.out.mono hsz))).mono ?_)
               rintro e w7 ⟨v8, rfl, hs8, hb8⟩
               have HS8 := Lib.hid hs8
               obtain ⟨A8, k8, rfl, hc8, hm8, he8⟩ := hs8
               have hl8 : (definedQ x).length ≤ 9223372036854775807 := by have h : (definedQ x).length ≤ k8 := hc8; unfold maxLen at hm8; omega
               have HE8 := Lib.hid he8
               obtain ⟨V, rfl⟩ : ∃ W, W = w7 := ⟨_, rfl⟩
               have HV := Lib.hid (HW3.out.trans (hb8.mono HW3.out.size))
               have BP := Lib.hid (show V.heap[w.heap.size]? = some (.cells #[.slice E en ek, .slice (some a) p.nodes.length ck] 25 (0, 0)) from box_next hb8 (alloc_below (alloc_below (heap_alloc_new w _))))
               have BN := Lib.hid (show V.heap[w.heap.size + 1]? = some (.cells #[.string (str n.name), .slice fA n.funs.length fk, .slice iA n.ins.length ik, .slice oA n.outs.length ok, .slice (some c) n.items.length xk] 41 (0, 0)) from box_next hb8 (alloc_below (alloc_at (by simp))))
               have BX := Lib.hid (show V.heap[w.heap.size + 1 + 1]? = some (.cells #[.slice A0 n0 k0, .int .i64 o, .string s2, .int .i64 o3, .slice A4 n4 k4, .slice A5 n5 k5, .slice sA x.states.length sc] 55 (0, 0)) from box_next hb8 (alloc_at (by simp)))
               clear hb8 hc8 hm8 he8)
  clear d0 d1 d2 d3 d4 f0 f1 f2 f3 f4 f5 f6
  have HBV := Lib.hid (HB.out.trans (HV.out.mono hsz))
  have hszV := HBV.out.size
  have KEEP := Lib.hid (show ∀ W, Below V.heap.size V W → (fun W => W.cell? ⟨w.heap.size + 1, 2, none⟩ = some (.slice iA n.ins.length ik) ∧ W.cell? ⟨w.heap.size + 1, 4, none⟩ = some (.slice (some c) n.items.length xk)) W from
    fun W hW => by
      obtain ⟨_, _, q2, _, q4⟩ := row5 (box_next hW BN.out)
      exact ⟨q2, q4⟩)
  refine wp_region_held_drew (S := (fun W => W.cell? ⟨w.heap.size + 1, 2, none⟩ = some (.slice iA n.ins.length ik) ∧ W.cell? ⟨w.heap.size + 1, 4, none⟩ = some (.slice (some c) n.items.length xk))) (by kernel_rfl) ?_ (fun hHeld => ?_)
  · exact KEEP.out _ (Below.refl _ _).drew
  refine take_now 0 rfl ?_
  try simp only [Act.put, setA, setZ, setS]
  refine take_now 1 rfl ?_
  try simp only [Act.put, setA, setZ, setS]
  refine take_now 2 rfl ?_
  try simp only [Act.put, setA, setZ, setS]
  refine take_now 3 rfl ?_
  try simp only [Act.put, setA, setZ, setS]
  refine take_now 4 rfl ?_
  try simp only [Act.put, setA, setZ, setS]
  refine take_now 5 rfl ?_
  try simp only [Act.put, setA, setZ, setS]
  refine take_now 6 rfl ?_
  try simp only [Act.put, setA, setZ, setS]
  refine only_at 7 (by kernel_rfl) rfl (fun K hK => ?_)
  go_simp
  (go_at_call 18
   (with_reducible refine (HEARLY.out _ HBV.out.drew).mono ?_)
   rintro e w7 ⟨v9, rfl, ho9, hb9⟩
   obtain ⟨M, rfl⟩ : ∃ W, W = w7 := ⟨_, rfl⟩
   have HS9 := Lib.hid ho9.strs
   obtain ⟨A9, n9, k9, rfl, hn9⟩ := ho9.shape
   have GM := Lib.hid ((Below.refl V.heap.size V).drew.trans hb9)
   clear ho9 hn9 hb9)
  refine hK.out _ _ (KEEP.out _ ?_) (fun hHeld => ?_)
  · (repeat (first | exact Below.refl _ _ | exact GM.out | refine Below.drew ?_ | refine Below.alloc ?_ (by simp) _ | refine Below.setCell ?_ (by simp) _))
  clear hK K
  try simp only [Act.put, setA, setZ, setS]
  refine take_now 8 rfl ?_
  try simp only [Act.put, setA, setZ, setS]
  refine wpAnyH_done (by kernel_rfl) ?_ _
  clear KEEP
  have HVM := Lib.hid (HV.out.trans (GM.out.mono HV.out.size))
  have HBM := Lib.hid (HBV.out.trans (GM.out.mono hszV))
  have hszM := HBM.out.size
  have HS8M := Lib.hid (HS8.out.under GM.out)
  have BPM := Lib.hid (box_next GM.out BP.out)
  have BXM := Lib.hid (box_next GM.out BX.out)
  generalize hdq : definedQ x = l at *
  go_wp2_with fail
  go_loopg [11] l.length (fun g v wr => ∃ j : Nat, j + g = l.length ∧ v = .int .i64 j ∧ (l.all fun x => !early.contains x) = ((l.drop j).all fun x => !early.contains x) ∧ Below M.heap.size M wr)
  case atStart => exact ⟨0, by omega, rfl, rfl, Below.refl _ _⟩
  case round =>
    obtain ⟨wz, rfl⟩ : ∃ W, W = wr := ⟨_, rfl⟩
    obtain ⟨j, hjg, rfl, hr2, hbz⟩ := hrel
    have HJ := Lib.hid hjg
    have HR2 := Lib.hid hr2
    have HWZ := Lib.hid hbz
    have hjl : j ≤ l.length := by omega
    clear hjg hr2 hbz
    by_cases hltj : j < l.length
    · obtain ⟨y, hy⟩ : ∃ y, l[j]? = some y := ⟨_, List.getElem?_eq_getElem hltj⟩
      have HDY := Lib.hid (drop_consS hy)
      obtain ⟨Ly, hEy, rfl, _⟩ := HE8.out j y hy
      obtain ⟨d, ed, _, hdb, c0⟩ := elem1 ((hEy.under GM.out).under HWZ.out)
      subst ed
      rw [Nat.mul_one] at c0 hdb
      obtain ⟨u, hu⟩ : ∃ u, early.contains y = u := ⟨_, rfl⟩
      have HU := Lib.hid hu
      have HX := Lib.hid (show (l.all fun x => !early.contains x) = (!early.contains y && (l.drop (j + 1)).all fun x => !early.contains x) by rw [HR2.out, HDY.out, List.all_cons])
      clear hy hEy hu
      cases u
      · go_wp2_with (go_at_call 21
                     (with_reducible refine (has_any (HS9.out.under HWZ.out) y).mono ?_)
                     rintro e' w8 ⟨he, rfl⟩
                     rw [HU.out] at he
                     subst he)
        go_roundg (l.length - (j + 1))
        case measure => have := HJ.out; omega
        case rel => exact ⟨j + 1, by omega, by go_num, by rw [HX.out, HU.out]; rfl, HWZ.out⟩
      · have HN := Lib.hid (show ans = false by rw [HENV.out, HX.out, HU.out]; rfl)
        go_wp2_with (go_at_call 21
                     (with_reducible refine (has_any (HS9.out.under HWZ.out) y).mono ?_)
                     rintro e' w8 ⟨he, rfl⟩
                     rw [HU.out] at he
                     subst he)
        go_ret
        exact ⟨ret_bool HN.out.symm, HVM.out.trans (HWZ.out.mono HVM.out.size)⟩
    · have hje : j = l.length := by omega
      have HE1 := Lib.hid (show ans = (recOk [] l && (if x.states = [] then x.eq.names.length == 1 || (o == 14 || o == 15) else statesOk (envS p.enums (p.nodes.take k) (n.items.take b)) x.states)) by rw [HENV.out, HR2.out, hje, List.drop_length]; rfl)
      have HUN := Lib.hid (rUnlike_any (HS8M.out.under HWZ.out))
      obtain ⟨u, hu⟩ : ∃ u, recOk [] l = u := ⟨_, rfl⟩
      have HUE := Lib.hid hu
      rw [hu] at HE1
      clear hje hu
      cases u
      · have HN := Lib.hid (show ans = false by rw [HE1.out]; rfl)
        go_wp2_with (go_at_call 49
                     (with_reducible refine (HUN.out _ (Below.refl _ _)).mono ?_)
                     rintro e' w8 ⟨he, hb8⟩
                     rw [HUE.out] at he
                     subst he
                     obtain ⟨Y, rfl⟩ : ∃ W, W = w8 := ⟨_, rfl⟩
                     have GY := Lib.hid (HWZ.out.trans (hb8.mono HWZ.out.size))
                     have HYB := Lib.hid (HBM.out.trans (GY.out.mono hszM))
                     obtain ⟨p0, p1⟩ := row2 (box_next GY.out BPM.out)
                     obtain ⟨x0, x1, x2, x3, x4, x5, x6⟩ := row7 (box_next GY.out BXM.out)
                     clear hb8)
        go_ret
        exact ⟨ret_bool HN.out.symm, HVM.out.trans (GY.out.mono HVM.out.size)⟩
      · by_cases h0 : x.states = []
        · have HE2 := Lib.hid (show ans = (x.eq.names.length == 1 || (o == 14 || o == 15)) by rw [HE1.out, if_pos h0]; rfl)
          have hz : x.states.length = 0 := by rw [h0]; rfl
          have hdl : l.length = x.eq.names.length := by rw [← hdq]; unfold definedQ; rw [h0]
          have hd0 : ((x.states.length : Int) == 0) = true := by rw [hz]; rfl
          clear hz
          rw [← hdl] at HE2
          clear h0 hdl
          by_cases c1 : l.length = 1
          · have e1 : ((l.length : Int) == 1) = true := by rw [c1]; rfl
            have HN := Lib.hid (show ans = true by rw [HE2.out, show (l.length == 1) = true by rw [c1]; rfl]; rfl)
            clear c1
            go_wp2_with (go_at_call 49
                         (with_reducible refine (HUN.out _ (Below.refl _ _)).mono ?_)
                         rintro e' w8 ⟨he, hb8⟩
                         rw [HUE.out] at he
                         subst he
                         obtain ⟨Y, rfl⟩ : ∃ W, W = w8 := ⟨_, rfl⟩
                         have GY := Lib.hid (HWZ.out.trans (hb8.mono HWZ.out.size))
                         have HYB := Lib.hid (HBM.out.trans (GY.out.mono hszM))
                         obtain ⟨p0, p1⟩ := row2 (box_next GY.out BPM.out)
                         obtain ⟨x0, x1, x2, x3, x4, x5, x6⟩ := row7 (box_next GY.out BXM.out)
                         clear hb8)
            go_ret
            exact ⟨ret_bool HN.out.symm, HVM.out.trans (GY.out.mono HVM.out.size)⟩
          · have e1 : ((l.length : Int) == 1) = false := by rw [beq_eq_false_iff_ne]; omega
            have HE3 := Lib.hid (show ans = (o == 14 || o == 15) by rw [HE2.out, show (l.length == 1) = false by simpa using c1]; rfl)
            clear c1
            by_cases c14 : o = 14
            · have e14 : (o == 14) = true := by rw [c14]; rfl
              have HN := Lib.hid (show ans = true by rw [HE3.out, e14]; rfl)
              clear c14
              go_wp2_with (go_at_call 49
                           (with_reducible refine (HUN.out _ (Below.refl _ _)).mono ?_)
                           rintro e' w8 ⟨he, hb8⟩
                           rw [HUE.out] at he
                           subst he
                           obtain ⟨Y, rfl⟩ : ∃ W, W = w8 := ⟨_, rfl⟩
                           have GY := Lib.hid (HWZ.out.trans (hb8.mono HWZ.out.size))
                           have HYB := Lib.hid (HBM.out.trans (GY.out.mono hszM))
                           obtain ⟨p0, p1⟩ := row2 (box_next GY.out BPM.out)
                           obtain ⟨x0, x1, x2, x3, x4, x5, x6⟩ := row7 (box_next GY.out BXM.out)
                           clear hb8)
              go_ret
              exact ⟨ret_bool HN.out.symm, HVM.out.trans (GY.out.mono HVM.out.size)⟩
            · have e14 : (o == 14) = false := by simpa using c14
              have HN := Lib.hid (show ans = (o == 15) by rw [HE3.out, e14]; rfl)
              clear c14
              go_wp2_with (go_at_call 49
                           (with_reducible refine (HUN.out _ (Below.refl _ _)).mono ?_)
                           rintro e' w8 ⟨he, hb8⟩
                           rw [HUE.out] at he
                           subst he
                           obtain ⟨Y, rfl⟩ : ∃ W, W = w8 := ⟨_, rfl⟩
                           have GY := Lib.hid (HWZ.out.trans (hb8.mono HWZ.out.size))
                           have HYB := Lib.hid (HBM.out.trans (GY.out.mono hszM))
                           obtain ⟨p0, p1⟩ := row2 (box_next GY.out BPM.out)
                           obtain ⟨x0, x1, x2, x3, x4, x5, x6⟩ := row7 (box_next GY.out BXM.out)
                           clear hb8)
              go_ret
              exact ⟨ret_bool HN.out.symm, HVM.out.trans (GY.out.mono HVM.out.size)⟩
        · have hd0 : ((x.states.length : Int) == 0) = false := by rw [beq_eq_false_iff_ne]; have := List.length_pos_iff.2 h0; omega
          have HE2 := Lib.hid (show ans = statesOk (envS p.enums (p.nodes.take k) (n.items.take b)) x.states by rw [HE1.out, if_neg h0]; rfl)
          have HAUTO := Lib.hid (show ∀ w, Below w0.heap.size w0 w → Calls Tryz.prog 79 #[.agg [.slice E en ek, .slice (some a) p.nodes.length ck].toArray, .int .i64 k, .int .i64 b] w (BoolPost (statesOk (envS p.enums (p.nodes.take k) (n.items.take b)) x.states) w) by
            obtain ⟨z, r, hzr⟩ := List.exists_cons_of_ne_nil h0
            exact HAU.out _ _ hzr)
          clear h0
          go_wp2_with (first
            | (go_at_call 49
               (with_reducible refine (HUN.out _ (Below.refl _ _)).mono ?_)
               rintro e' w8 ⟨he, hb8⟩
               rw [HUE.out] at he
               subst he
               obtain ⟨Y, rfl⟩ : ∃ W, W = w8 := ⟨_, rfl⟩
               have GY := Lib.hid (HWZ.out.trans (hb8.mono HWZ.out.size))
               have HYB := Lib.hid (HBM.out.trans (GY.out.mono hszM))
               obtain ⟨p0, p1⟩ := row2 (box_next GY.out BPM.out)
               obtain ⟨x0, x1, x2, x3, x4, x5, x6⟩ := row7 (box_next GY.out BXM.out)
               clear hb8)
            | (go_at_call 79
               (with_reducible refine (HAUTO.out _ HYB.out).mono ?_)
               rintro e' w8 ⟨rfl, hb8⟩
               have G8 := Lib.hid (GY.out.trans (hb8.mono GY.out.size))
               clear hb8))
          go_ret
          exact ⟨ret_bool HE2.out.symm, HVM.out.trans (G8.out.mono HVM.out.size)⟩
end Go.Proofs.YtbpbnebcbjacdaaGreat
namespace Go.Proofs.YtbpbnebcbjacdaaGreat
open Go.RowKit

/-- a node's fault -/
def stepFault (k : Int) : SProg ⊕ Int → Int × Int × Int
  | .inr b => (4, k, b)
  | .inl _ => (0, 0, 0)
set_option maxRecDepth 100000 in
theorem rnode_results {tmps : Array Value} {w : World} {N : Nat} {x0 x1 x2 : Value} (hp : tmps.getD 4 undef = .pointer (some ⟨N, 0, none⟩)) (hg : w.heap[N]? = some (.cells #[x0, x1, x2] 29 (0, 0))) :
    (results Tryz.f29 tmps).run Tryz.prog w = .ok (.agg #[x0, x1, x2]) w :=
  results_cell_row Tryz.results29 tmps w N 29 _ (0, 0) _ hp hg Tryz.underlying29 rfl fault_size
set_option maxRecDepth 100000 in
theorem rcheck_results {tmps : Array Value} {w : World} {N : Nat} {x0 x1 x2 : Value} (hp : tmps.getD 4 undef = .pointer (some ⟨N, 0, none⟩)) (hg : w.heap[N]? = some (.cells #[x0, x1, x2] 29 (0, 0))) :
    (results Tryz.f11 tmps).run Tryz.prog w = .ok (.agg #[x0, x1, x2]) w :=
  results_cell_row Tryz.results11 tmps w N 29 _ (0, 0) _ hp hg Tryz.underlying29 rfl fault_size
set_option maxHeartbeats 16000000 in
set_option maxRecDepth 100000 in
theorem s5Node_any {made : Bool} {w0 : World} {L : List Value} {p : QProg} (hL : ProgAt w0 L p) {k : Nat} {n : QNode} (hk : p.nodes[k]? = some n) (hrn : rightNode made n = true) (hnd : (boolsL ++ p.enums.flatMap QEnum.cons).Nodup) (hvl : (varsQ n).length ≤ 2097152) (hst : (stBefore p.nodes []).length ≤ 2097152) : ∀ w, Below w0.heap.size w0 w →
    Calls Tryz.prog 29 #[.agg L.toArray, .int .i64 k] w (FaultPost (stepFault k (nodeStep (envS p.enums (p.nodes.take k) []) n)) w) := by
  have hfit := node_fit hrn
  have HHEAD := Lib.hid (rHead_any hL hk hfit.1)
  have HDEFS := Lib.hid (fun (b : Nat) (x : QItem) (hx : n.items[b]? = some x) => rDefs_any hL hk hrn hvl hst hx)
  have HITEMS := Lib.hid (fun (b : Nat) (x : QItem) (hx : n.items[b]? = some x) => s5Item_any hL hk hnd hvl n.items hx (hfit.2.2 x (List.mem_of_getElem? hx)).1)
  have hil2 : (varsQ ⟨[], [], [], [], n.items⟩).length ≤ 2097152 := by
    have h : (varsQ ⟨[], [], [], [], n.items⟩).length ≤ (varsQ n).length := by
      unfold varsQ
      rw [List.length_append, List.length_append]
      simp
    omega
  have HIL2 := Lib.hid hil2
  obtain ⟨s0, hs0⟩ : ∃ s0, envS p.enums (p.nodes.take k) [] = s0 := ⟨_, rfl⟩
  have HS0 := Lib.hid hs0
  have HSB := Lib.hid (fun (b : Nat) (x : QItem) (hx : n.items[b]? = some x) => show (envS p.enums (p.nodes.take k) (n.items.take b)).addItem x = envS p.enums (p.nodes.take k) (n.items.take (b + 1)) by rw [env_item, ← take_snoc hx])
  have HVB := Lib.hid (fun (b : Nat) (x : QItem) (hx : n.items[b]? = some x) => show varsTo n b ++ definedQ x = varsTo n (b + 1) by unfold varsTo; rw [flat_snoc hx, List.append_assoc])
  clear hrn hnd hvl hst hfit hil2
  intro w hb
  have HB := Lib.hid hb
  have hsz := hb.size
  have hkl : k < p.nodes.length := (List.getElem?_eq_some_iff.1 hk).1
  have HPROG := Lib.hid hL
  obtain ⟨ev, nv, rfl, he, hn⟩ := hL
  have HEV := Lib.hid he
  have HNV := Lib.hid hn
  obtain ⟨E, en, ek, rfl⟩ := SliceAt.shape he
  obtain ⟨C, ck, rfl, hcc, hmc, hce⟩ := hn
  have hccap : p.nodes.length ≤ ck := hcc
  have hnl : p.nodes.length ≤ 9223372036854775807 := by unfold maxLen at hmc; omega
  have HNE := Lib.hid hce
  obtain ⟨Ln, hEn, hNn⟩ := hce k n hk
  have HEN := Lib.hid hEn
  have HNA := Lib.hid hNn
  obtain ⟨fv, iv, ov, xv, rfl, hnn, hfu, hin, hou, hit⟩ := hNn
  have HFU := Lib.hid hfu
  have HIN := Lib.hid hin
  have HOU := Lib.hid hou
  have HIT := Lib.hid hit
  obtain ⟨fA, fk, rfl, hfc, hfm, hfe⟩ := hfu
  obtain ⟨iA, ik, rfl, hic, him, hie⟩ := hin
  obtain ⟨oA, ok, rfl, hoc, hom, hoe⟩ := hou
  obtain ⟨xA, xk, rfl, hxc, hxm, hxe⟩ := hit
  have hfl : n.funs.length ≤ 9223372036854775807 := by have h : n.funs.length ≤ fk := hfc; unfold maxLen at hfm; omega
  have hol : n.outs.length ≤ 9223372036854775807 := by have h : n.outs.length ≤ ok := hoc; unfold maxLen at hom; omega
  have hxcap : n.items.length ≤ xk := hxc
  have hxl : n.items.length ≤ 9223372036854775807 := by unfold maxLen at hxm; omega
  have HFE := Lib.hid hfe
  have HOE := Lib.hid hoe
  have HXE := Lib.hid hxe
  obtain ⟨a, ea, ha, haa, d0, d1, d2, d3, d4⟩ := elem5 (hEn.under HB.out)
  subst ea
  have HMADE := Lib.hid (show ∀ w, Below w0.heap.size w0 w → Calls Tryz.prog 18 #[.agg #[.string ⟨#[]⟩, .slice none 0 0, .slice none 0 0, .slice none 0 0, .slice xA n.items.length xk]] w (OwnPost (n.items.flatMap definedQ) w) from rvars_any (show NodeAt w0 [.string (str []), .slice none 0 0, .slice none 0 0, .slice none 0 0, .slice xA n.items.length xk] ⟨[], [], [], [], n.items⟩ from ⟨_, _, _, _, rfl, by simp, ⟨none, 0, rfl, Nat.le_refl _, by unfold maxLen; omega, fun i x h => by simp at h⟩, ⟨none, 0, rfl, Nat.le_refl _, by unfold maxLen; omega, fun i x h => by simp at h⟩, ⟨none, 0, rfl, Nat.le_refl _, by unfold maxLen; omega, fun i x h => by simp at h⟩, HIT.out⟩) HIL2.out)
  have HW3 := Lib.hid (show Below w.heap.size w (((w.alloc (.cells #[.slice E en ek, .slice (some a) p.nodes.length ck] 25)).alloc (.cells #[.int .i64 0, .int .i64 0, .int .i64 0] 29)).alloc (.cells #[.string (str n.name), .slice fA n.funs.length fk, .slice iA n.ins.length ik, .slice oA n.outs.length ok, .slice xA n.items.length xk] 41)) from ((((Below.refl w.heap.size w).alloc (by simp) _).alloc (by simp <;> omega) _).alloc (by simp <;> omega) _))
  clear hb he hcc hmc hce hEn hnn hfc hfm hfe hic him hie hoc hom hoe hxc hxm hxe
  obtain ⟨hh, hhe⟩ : ∃ t, headOk (envS p.enums (p.nodes.take k) []) n = t := ⟨_, rfl⟩
  have HH := Lib.hid hhe
  rw [hs0] at hhe ⊢
  cases hh
  · have HN := Lib.hid (show stepFault k (nodeStep s0 n) = (4, (k : Int), -1) by rw [step_head hhe]; rfl)
    clear hhe hs0
    go_enter Tryz.func29, Tryz.ntmps29
    go_wp2_with (go_at_call 50
                 (with_reducible refine (HHEAD.out _ (HB.out.trans (HW3.out.mono hsz))).mono ?_)
                 rintro e' w7 ⟨he, hb7⟩
                 rw [HH.out] at he
                 subst he
                 obtain ⟨V, rfl⟩ : ∃ W, W = w7 := ⟨_, rfl⟩
                 have HV := Lib.hid (HW3.out.trans (hb7.mono HW3.out.size))
                 have BP := Lib.hid (show V.heap[w.heap.size]? = some (.cells #[.slice E en ek, .slice (some a) p.nodes.length ck] 25 (0, 0)) from box_next hb7 (alloc_below (alloc_below (heap_alloc_new w _))))
                 have BF := Lib.hid (show V.heap[w.heap.size + 1]? = some (.cells #[.int .i64 0, .int .i64 0, .int .i64 0] 29 (0, 0)) from box_next hb7 (alloc_below (alloc_at (by simp))))
                 have BN := Lib.hid (show V.heap[w.heap.size + 1 + 1]? = some (.cells #[.string (str n.name), .slice fA n.funs.length fk, .slice iA n.ins.length ik, .slice oA n.outs.length ok, .slice xA n.items.length xk] 41 (0, 0)) from box_next hb7 (alloc_at (by simp)))
                 have HV0 := Lib.hid (Below.refl V.heap.size V)
                 obtain ⟨p0, p1⟩ := row2 (box_next HV0.out BP.out)
                 obtain ⟨q0, q1, q2⟩ := row3 (box_next HV0.out BF.out)
                 have g0 := row_frozen (box_next HV0.out BF.out) 0
                 have g1 := row_frozen (box_next HV0.out BF.out) 1
                 have g2 := row_frozen (box_next HV0.out BF.out) 2
                 obtain ⟨n0, n1, n2, n3, n4⟩ := row5 (box_next HV0.out BN.out)
                 clear hb7)
    exact bodyPost_ret (rnode_results rfl (set_row3 _ _ _ (box_next HV0.out BF.out))) rfl ⟨by rw [HN.out], below_set3 (HV.out.trans (HV0.out.mono HV.out.size)) (by omega) _ _ _⟩
  · have HHE := Lib.hid hhe
    clear hhe hs0
    go_enter Tryz.func29, Tryz.ntmps29
    go_wp2_with (go_at_call 50
                 (with_reducible refine (HHEAD.out _ (HB.out.trans (HW3.out.mono hsz))).mono ?_)
                 rintro e' w7 ⟨he, hb7⟩
                 rw [HH.out] at he
                 subst he
                 obtain ⟨V, rfl⟩ : ∃ W, W = w7 := ⟨_, rfl⟩
                 have HV := Lib.hid (HW3.out.trans (hb7.mono HW3.out.size))
                 have BP := Lib.hid (show V.heap[w.heap.size]? = some (.cells #[.slice E en ek, .slice (some a) p.nodes.length ck] 25 (0, 0)) from box_next hb7 (alloc_below (alloc_below (heap_alloc_new w _))))
                 have BF := Lib.hid (show V.heap[w.heap.size + 1]? = some (.cells #[.int .i64 0, .int .i64 0, .int .i64 0] 29 (0, 0)) from box_next hb7 (alloc_below (alloc_at (by simp))))
                 have BN := Lib.hid (show V.heap[w.heap.size + 1 + 1]? = some (.cells #[.string (str n.name), .slice fA n.funs.length fk, .slice iA n.ins.length ik, .slice oA n.outs.length ok, .slice xA n.items.length xk] 41 (0, 0)) from box_next hb7 (alloc_at (by simp)))
                 have HV0 := Lib.hid (Below.refl V.heap.size V)
                 obtain ⟨p0, p1⟩ := row2 (box_next HV0.out BP.out)
                 obtain ⟨q0, q1, q2⟩ := row3 (box_next HV0.out BF.out)
                 have g0 := row_frozen (box_next HV0.out BF.out) 0
                 have g1 := row_frozen (box_next HV0.out BF.out) 1
                 have g2 := row_frozen (box_next HV0.out BF.out) 2
                 obtain ⟨n0, n1, n2, n3, n4⟩ := row5 (box_next HV0.out BN.out)
                 clear hb7)
    have HBV := Lib.hid (HB.out.trans (HV.out.mono hsz))
    have hszV := HBV.out.size
    have hFl : w.heap.size + 1 < V.heap.size := lt_of_heap BF.out
    clear p0 p1 q0 q1 q2 g0 g1 g2 n0 n1 n2 n3 n4 d0 d1 d2 d3 d4
    go_loopg [6] n.items.length (fun g v wr => ∃ b : Nat, b + g = n.items.length ∧ v = .int .i64 b ∧ itemsF 0 s0 n.ins n.items = itemsF b (envS p.enums (p.nodes.take k) (n.items.take b)) (varsTo n b) (n.items.drop b) ∧ Below V.heap.size V wr)
    case atStart => exact ⟨0, by omega, rfl, by unfold varsTo; rw [List.take_zero, List.drop_zero, HS0.out, List.flatMap_nil, List.append_nil]; rfl, Below.refl _ _⟩
    case round =>
      obtain ⟨wb, rfl⟩ : ∃ W, W = wr := ⟨_, rfl⟩
      obtain ⟨b, hbg, rfl, hr, hbb⟩ := hrel
      have HBG := Lib.hid hbg
      have HR := Lib.hid hr
      have HWB := Lib.hid hbb
      have HBB := Lib.hid (HBV.out.trans (hbb.mono hszV))
      obtain ⟨p0, p1⟩ := row2 (box_next hbb BP.out)
      obtain ⟨q0, q1, q2⟩ := row3 (box_next hbb BF.out)
      have g0 := row_frozen (box_next hbb BF.out) 0
      have g1 := row_frozen (box_next hbb BF.out) 1
      have g2 := row_frozen (box_next hbb BF.out) 2
      obtain ⟨n0, n1, n2, n3, n4⟩ := row5 (box_next hbb BN.out)
      have hbl : b ≤ n.items.length := by omega
      clear hbg hr hbb
      by_cases hltb : b < n.items.length
      · obtain ⟨x, hx⟩ : ∃ x, n.items[b]? = some x := ⟨_, List.getElem?_eq_getElem hltb⟩
        have HDR := Lib.hid (drop_consS hx)
        have HDEF := Lib.hid (HDEFS.out b x hx)
        have HSBX := Lib.hid (HSB.out b x hx)
        have HVBX := Lib.hid (HVB.out b x hx)
        obtain ⟨u, hu⟩ : ∃ u, itemOk (envS p.enums (p.nodes.take k) (n.items.take b)) (varsTo n b) x = u := ⟨_, rfl⟩
        rw [hu] at HDEF
        have HU := Lib.hid hu
        clear hx hu
        cases u
        · have HN := Lib.hid (show stepFault k (nodeStep s0 n) = (4, (k : Int), (b : Int)) by rw [step_items HHE.out (by rw [HR.out, HDR.out, itemsF_no HU.out])]; rfl)
          go_wp2_with (go_at_call 51
                       (with_reducible refine (HDEF.out _ HBB.out).mono ?_)
                       rintro e' w8 ⟨rfl, hb8⟩
                       have G8 := Lib.hid (HWB.out.trans (hb8.mono HWB.out.size))
                       obtain ⟨p0, p1⟩ := row2 (box_next G8.out BP.out)
                       obtain ⟨q0, q1, q2⟩ := row3 (box_next G8.out BF.out)
                       have g0 := row_frozen (box_next G8.out BF.out) 0
                       have g1 := row_frozen (box_next G8.out BF.out) 1
                       have g2 := row_frozen (box_next G8.out BF.out) 2
                       obtain ⟨n0, n1, n2, n3, n4⟩ := row5 (box_next G8.out BN.out)
                       clear hb8)
          exact bodyPost_ret (rnode_results rfl (set_row3 _ _ _ (box_next G8.out BF.out))) rfl ⟨by rw [HN.out], below_set3 (HV.out.trans (G8.out.mono HV.out.size)) (by omega) _ _ _⟩
        · have HNX := Lib.hid (show itemsF 0 s0 n.ins n.items = itemsF (b + 1 : Nat) (envS p.enums (p.nodes.take k) (n.items.take (b + 1))) (varsTo n (b + 1)) (n.items.drop (b + 1)) by rw [HR.out, HDR.out, itemsF_yes HU.out, HSBX.out, HVBX.out]; rfl)
          go_wp2_with (go_at_call 51
                       (with_reducible refine (HDEF.out _ HBB.out).mono ?_)
                       rintro e' w8 ⟨rfl, hb8⟩
                       have G8 := Lib.hid (HWB.out.trans (hb8.mono HWB.out.size))
                       clear hb8)
          go_roundg (n.items.length - (b + 1))
          case measure => have := HBG.out; omega
          case rel => exact ⟨b + 1, by omega, by go_num, HNX.out, G8.out⟩
      · have hbe : b = n.items.length := by omega
        have HIF := Lib.hid (show itemsF 0 s0 n.ins n.items = .inl (envS p.enums (p.nodes.take k) n.items, varsQ n) by rw [HR.out, hbe, List.drop_length, List.take_length]; unfold varsTo; rw [List.take_length]; rfl)
        clear hbe
        go_wp2_with (go_at_call 18
                     (with_reducible refine (HMADE.out _ HBB.out).mono ?_)
                     rintro e' w7 ⟨v8, rfl, ho8, hb8⟩
                     obtain ⟨vA, vn, vk, rfl, hvn⟩ := ho8.shape
                     obtain ⟨M, rfl⟩ : ∃ W, W = w7 := ⟨_, rfl⟩
                     have HMS := Lib.hid ho8.strs
                     have GM := Lib.hid (HWB.out.trans (hb8.mono HWB.out.size))
                     clear ho8 hb8 hvn)
        clear p0 p1 q0 q1 q2 g0 g1 g2 n0 n1 n2 n3 n4
        have HBM := Lib.hid (HBV.out.trans (GM.out.mono hszV))
        have hszM := HBM.out.size
        have hszVM := GM.out.size
        go_loopg [8] n.outs.length (fun g v wr => ∃ j : Nat, j + g = n.outs.length ∧ v = .int .i64 j ∧ n.outs.all (n.items.flatMap definedQ).contains = (n.outs.drop j).all (n.items.flatMap definedQ).contains ∧ Below M.heap.size M wr)
        case atStart => exact ⟨0, by omega, rfl, rfl, Below.refl _ _⟩
        case round =>
          obtain ⟨wj, rfl⟩ : ∃ W, W = wr := ⟨_, rfl⟩
          obtain ⟨j, hjg, rfl, hr2, hbj⟩ := hrel
          have HJ := Lib.hid hjg
          have HR2 := Lib.hid hr2
          have HWJ := Lib.hid hbj
          have HBJ := Lib.hid (HBM.out.trans (hbj.mono hszM))
          have GJ := Lib.hid (GM.out.trans (hbj.mono hszVM))
          obtain ⟨p0, p1⟩ := row2 (box_next GJ.out BP.out)
          obtain ⟨q0, q1, q2⟩ := row3 (box_next GJ.out BF.out)
          have g0 := row_frozen (box_next GJ.out BF.out) 0
          have g1 := row_frozen (box_next GJ.out BF.out) 1
          have g2 := row_frozen (box_next GJ.out BF.out) 2
          obtain ⟨n0, n1, n2, n3, n4⟩ := row5 (box_next GJ.out BN.out)
          have hjl : j ≤ n.outs.length := by omega
          clear hjg hr2 hbj
          by_cases hltj : j < n.outs.length
          · obtain ⟨y, hy⟩ : ∃ y, n.outs[j]? = some y := ⟨_, List.getElem?_eq_getElem hltj⟩
            have HDY := Lib.hid (drop_consS hy)
            obtain ⟨Ly, hEy, rfl, _⟩ := HOE.out j y hy
            obtain ⟨d, ed, _, hdb, c0⟩ := elem1 (hEy.under HBJ.out)
            subst ed
            rw [Nat.mul_one] at c0 hdb
            obtain ⟨u, hu⟩ : ∃ u, (n.items.flatMap definedQ).contains y = u := ⟨_, rfl⟩
            have HU := Lib.hid hu
            have HX := Lib.hid (show n.outs.all (n.items.flatMap definedQ).contains = ((n.items.flatMap definedQ).contains y && (n.outs.drop (j + 1)).all (n.items.flatMap definedQ).contains) by rw [HR2.out, HDY.out, List.all_cons])
            clear hy hEy hu
            cases u
            · have HN := Lib.hid (show stepFault k (nodeStep s0 n) = (4, (k : Int), -1) by rw [step_outs HHE.out HIF.out (by rw [HX.out, HU.out]; rfl)]; rfl)
              go_wp2_with (go_at_call 21
                           (with_reducible refine (has_any (HMS.out.under HWJ.out) y).mono ?_)
                           rintro e' w8 ⟨he, rfl⟩
                           rw [HU.out] at he
                           subst he)
              exact bodyPost_ret (rnode_results rfl (set_row3 _ _ _ (box_next GJ.out BF.out))) rfl ⟨by rw [HN.out], below_set3 (HV.out.trans (GJ.out.mono HV.out.size)) (by omega) _ _ _⟩
            · go_wp2_with (go_at_call 21
                           (with_reducible refine (has_any (HMS.out.under HWJ.out) y).mono ?_)
                           rintro e' w8 ⟨he, rfl⟩
                           rw [HU.out] at he
                           subst he)
              go_roundg (n.outs.length - (j + 1))
              case measure => have := HJ.out; omega
              case rel => exact ⟨j + 1, by omega, by go_num, by rw [HX.out, HU.out]; rfl, HWJ.out⟩
          · have hje : j = n.outs.length := by omega
            have HOK := Lib.hid (show n.outs.all (n.items.flatMap definedQ).contains = true by rw [HR2.out, hje, List.drop_length]; rfl)
            clear hje
            go_wp2_with fail
            clear p0 p1 q0 q1 q2 g0 g1 g2 n0 n1 n2 n3 n4
            go_loopg [9] n.items.length (fun g v wr => ∃ b : Nat, b + g = n.items.length ∧ v = .int .i64 b ∧ usesF ⟨envS p.enums (p.nodes.take k) n.items, n.funs, varsQ n⟩ 0 n.items = usesF ⟨envS p.enums (p.nodes.take k) n.items, n.funs, varsQ n⟩ b (n.items.drop b) ∧ Below V.heap.size V wr)
            case atStart => exact ⟨0, by omega, rfl, rfl, GJ.out⟩
            case round =>
              obtain ⟨wc, rfl⟩ : ∃ W, W = wr := ⟨_, rfl⟩
              obtain ⟨b, hbg, rfl, hr, hbb⟩ := hrel
              have HBG := Lib.hid hbg
              have HR := Lib.hid hr
              have HWB := Lib.hid hbb
              have HBB := Lib.hid (HBV.out.trans (hbb.mono hszV))
              obtain ⟨p0, p1⟩ := row2 (box_next hbb BP.out)
              obtain ⟨q0, q1, q2⟩ := row3 (box_next hbb BF.out)
              have g0 := row_frozen (box_next hbb BF.out) 0
              have g1 := row_frozen (box_next hbb BF.out) 1
              have g2 := row_frozen (box_next hbb BF.out) 2
              obtain ⟨n0, n1, n2, n3, n4⟩ := row5 (box_next hbb BN.out)
              have hbl : b ≤ n.items.length := by omega
              clear hbg hr hbb
              by_cases hltb : b < n.items.length
              · obtain ⟨x, hx⟩ : ∃ x, n.items[b]? = some x := ⟨_, List.getElem?_eq_getElem hltb⟩
                have HDR := Lib.hid (drop_consS hx)
                have HIU := Lib.hid (HITEMS.out b x hx)
                obtain ⟨u, hu⟩ : ∃ u, usesItem ⟨envS p.enums (p.nodes.take k) n.items, n.funs, varsQ n⟩ x = u := ⟨_, rfl⟩
                rw [hu] at HIU
                have HU := Lib.hid hu
                clear hx hu
                cases u
                · have HN := Lib.hid (show stepFault k (nodeStep s0 n) = (4, (k : Int), (b : Int)) by rw [step_uses HHE.out HIF.out HOK.out (by rw [HR.out, HDR.out, usesF_no HU.out])]; rfl)
                  go_wp2_with (go_at_call 52
                               (with_reducible refine (HIU.out _ HBB.out).mono ?_)
                               rintro e' w8 ⟨rfl, hb8⟩
                               have G8 := Lib.hid (HWB.out.trans (hb8.mono HWB.out.size))
                               obtain ⟨p0, p1⟩ := row2 (box_next G8.out BP.out)
                               obtain ⟨q0, q1, q2⟩ := row3 (box_next G8.out BF.out)
                               have g0 := row_frozen (box_next G8.out BF.out) 0
                               have g1 := row_frozen (box_next G8.out BF.out) 1
                               have g2 := row_frozen (box_next G8.out BF.out) 2
                               obtain ⟨n0, n1, n2, n3, n4⟩ := row5 (box_next G8.out BN.out)
                               clear hb8)
                  exact bodyPost_ret (rnode_results rfl (set_row3 _ _ _ (box_next G8.out BF.out))) rfl ⟨by rw [HN.out], below_set3 (HV.out.trans (G8.out.mono HV.out.size)) (by omega) _ _ _⟩
                · have HNX := Lib.hid (show usesF ⟨envS p.enums (p.nodes.take k) n.items, n.funs, varsQ n⟩ 0 n.items = usesF ⟨envS p.enums (p.nodes.take k) n.items, n.funs, varsQ n⟩ (b + 1 : Nat) (n.items.drop (b + 1)) by rw [HR.out, HDR.out, usesF_yes HU.out]; rfl)
                  go_wp2_with (go_at_call 52
                               (with_reducible refine (HIU.out _ HBB.out).mono ?_)
                               rintro e' w8 ⟨rfl, hb8⟩
                               have G8 := Lib.hid (HWB.out.trans (hb8.mono HWB.out.size))
                               clear hb8)
                  go_roundg (n.items.length - (b + 1))
                  case measure => have := HBG.out; omega
                  case rel => exact ⟨b + 1, by omega, by go_num, HNX.out, G8.out⟩
              · have hbe : b = n.items.length := by omega
                have HN := Lib.hid (show stepFault k (nodeStep s0 n) = (0, 0, 0) by rw [step_ok HHE.out HIF.out HOK.out (by rw [HR.out, hbe, List.drop_length]; rfl)]; rfl)
                clear hbe
                go_wp2_with fail
                exact bodyPost_ret (rnode_results rfl (set_row3 _ _ _ (box_next HWB.out BF.out))) rfl ⟨by rw [HN.out], below_set3 (HV.out.trans (HWB.out.mono HV.out.size)) (by omega) _ _ _⟩
theorem nodesF_env {es : List QEnum} {ns : List QNode} {n : QNode} {s : SProg} (h : nodeStep (envS es ns []) n = .inl s) : s = envS es (ns ++ [n]) [] := by
  obtain ⟨_, s1, vars, hi, _, _, rfl⟩ := step_parts h
  have h1 : ∀ (l is : List QItem) (b : Int) (v v' : List Tx) (s1 : SProg), itemsF b (envS es ns is) v l = .inl (s1, v') → s1 = envS es ns (is ++ l) := by
    intro l
    induction l with
    | nil => intro is b v v' s1 h; rw [itemsF] at h; injection h with h; injection h with h _; rw [List.append_nil, h]
    | cons i t ih =>
      intro is b v v' s1 h
      by_cases ho : itemOk (envS es ns is) v i = true
      · rw [itemsF_yes ho, env_item] at h
        have := ih _ _ _ _ _ h
        rwa [List.append_assoc] at this
      · rw [itemsF_no (by simpa using ho)] at h; cases h
  have h2 := h1 _ _ _ _ _ _ hi
  rw [h2]
  simp only [List.nil_append]
  exact env_node es ns n
set_option maxHeartbeats 16000000 in
set_option maxRecDepth 100000 in
theorem s5Check_any {w0 : World} {L : List Value} {p : QProg} (made : Bool) (hL : ProgAt w0 L p) (hp : wProg p ≤ 1048576) : ∀ w, Below w0.heap.size w0 w → Calls Tryz.prog 11 #[.agg L.toArray, .bool made] w (FaultPost (checkQ made p) w) := by
  intro w hb
  have HB := Lib.hid hb
  have hsz := hb.size
  have HRI := Lib.hid (rRight_any made hL (prog_few hp))
  have HENUM := Lib.hid (fun (i : Nat) (e : QEnum) (hi : p.enums[i]? = some e) => rEnum_any hL hi)
  have HNODE := Lib.hid (fun (hr : rightL made p = 0) (hnd : (boolsL ++ p.enums.flatMap QEnum.cons).Nodup) (k : Nat) (n : QNode) (hk : p.nodes[k]? = some n) => s5Node_any hL hk (right_nodes hr n (List.mem_of_getElem? hk)) hnd (vars_few hp (List.mem_of_getElem? hk)) (sts_few hp))
  obtain ⟨ev, nv, rfl, he, hn⟩ := hL
  obtain ⟨E, ek, rfl, hec, hem, _⟩ := he
  obtain ⟨C, ck, rfl, hcc, hmc, _⟩ := hn
  have hel : p.enums.length ≤ 9223372036854775807 := by have h : p.enums.length ≤ ek := hec; unfold maxLen at hem; omega
  have hnl : p.nodes.length ≤ 9223372036854775807 := by have h : p.nodes.length ≤ ck := hcc; unfold maxLen at hmc; omega
  have HW2 := Lib.hid (show Below w.heap.size w ((w.alloc (.cells #[.slice E p.enums.length ek, .slice C p.nodes.length ck] 25)).alloc (.cells #[.int .i64 0, .int .i64 0, .int .i64 0] 29)) from (((Below.refl w.heap.size w).alloc (by simp) _).alloc (by simp <;> omega) _))
  clear hb hec hem hcc hmc hp
  by_cases h0 : rightL made p = 0
  · have H0 := Lib.hid h0
    rw [h0] at HRI
    clear h0
    go_enter Tryz.func11, Tryz.ntmps11
    go_wp2_with (go_at_call 20
                 (with_reducible refine (HRI.out _ (HB.out.trans (HW2.out.mono hsz))).mono ?_)
                 rintro e' w7 ⟨rfl, hb7⟩
                 obtain ⟨V, rfl⟩ : ∃ W, W = w7 := ⟨_, rfl⟩
                 have HV := Lib.hid (HW2.out.trans (hb7.mono HW2.out.size))
                 have BP := Lib.hid (show V.heap[w.heap.size]? = some (.cells #[.slice E p.enums.length ek, .slice C p.nodes.length ck] 25 (0, 0)) from box_next hb7 (alloc_below (heap_alloc_new w _)))
                 have BF := Lib.hid (show V.heap[w.heap.size + 1]? = some (.cells #[.int .i64 0, .int .i64 0, .int .i64 0] 29 (0, 0)) from box_next hb7 (alloc_at (by simp)))
                 have HV0 := Lib.hid (Below.refl V.heap.size V)
                 obtain ⟨p0, p1⟩ := row2 (box_next HV0.out BP.out)
                 obtain ⟨q0, q1, q2⟩ := row3 (box_next HV0.out BF.out)
                 have g0 := row_frozen (box_next HV0.out BF.out) 0
                 have g1 := row_frozen (box_next HV0.out BF.out) 1
                 have g2 := row_frozen (box_next HV0.out BF.out) 2
                 clear hb7)
    have HBV := Lib.hid (HB.out.trans (HV.out.mono hsz))
    have hszV := HBV.out.size
    have hFl : w.heap.size + 1 < V.heap.size := lt_of_heap BF.out
    clear p0 p1 q0 q1 q2 g0 g1 g2
    go_loopg [6] p.enums.length (fun g v wr => ∃ i : Nat, i + g = p.enums.length ∧ v = .int .i64 i ∧ enumsF 0 .new p.enums = enumsF i (envS (p.enums.take i) [] []) (p.enums.drop i) ∧ Below V.heap.size V wr)
    case atStart => exact ⟨0, by omega, rfl, rfl, Below.refl _ _⟩
    case round =>
      obtain ⟨wi, rfl⟩ : ∃ W, W = wr := ⟨_, rfl⟩
      obtain ⟨i, hig, rfl, hr, hbi⟩ := hrel
      have HI := Lib.hid hig
      have HR := Lib.hid hr
      have HWI := Lib.hid hbi
      have HBI := Lib.hid (HBV.out.trans (hbi.mono hszV))
      obtain ⟨p0, p1⟩ := row2 (box_next hbi BP.out)
      obtain ⟨q0, q1, q2⟩ := row3 (box_next hbi BF.out)
      have g0 := row_frozen (box_next hbi BF.out) 0
      have g1 := row_frozen (box_next hbi BF.out) 1
      have g2 := row_frozen (box_next hbi BF.out) 2
      have hil : i ≤ p.enums.length := by omega
      clear hig hr hbi
      by_cases hlti : i < p.enums.length
      · obtain ⟨e, he⟩ : ∃ e, p.enums[i]? = some e := ⟨_, List.getElem?_eq_getElem hlti⟩
        have HDR := Lib.hid (drop_consS he)
        have HTS := Lib.hid (take_snoc he)
        have HEN := Lib.hid (HENUM.out i e he)
        obtain ⟨u, hu⟩ : ∃ u, enumOk (envS (p.enums.take i) [] []) e = u := ⟨_, rfl⟩
        rw [hu] at HEN
        have HU := Lib.hid hu
        clear he hu
        cases u
        · have HN := Lib.hid (show checkQ made p = (4, -1, (i : Int)) from check_enum H0.out (by rw [HR.out, HDR.out, enumsF_cons, if_neg (by rw [HU.out]; simp)]))
          go_wp2_with (go_at_call 28
                       (with_reducible refine (HEN.out _ HBI.out).mono ?_)
                       rintro e' w8 ⟨rfl, hb8⟩
                       have G8 := Lib.hid (HWI.out.trans (hb8.mono HWI.out.size))
                       obtain ⟨p0, p1⟩ := row2 (box_next G8.out BP.out)
                       obtain ⟨q0, q1, q2⟩ := row3 (box_next G8.out BF.out)
                       have g0 := row_frozen (box_next G8.out BF.out) 0
                       have g1 := row_frozen (box_next G8.out BF.out) 1
                       have g2 := row_frozen (box_next G8.out BF.out) 2
                       clear hb8)
          exact bodyPost_ret (rcheck_results rfl (set_row3 _ _ _ (box_next G8.out BF.out))) rfl ⟨by rw [HN.out], below_set3 (HV.out.trans (G8.out.mono HV.out.size)) (by omega) _ _ _⟩
        · have HNX := Lib.hid (show enumsF 0 .new p.enums = enumsF (i + 1 : Nat) (envS (p.enums.take (i + 1)) [] []) (p.enums.drop (i + 1)) by rw [HR.out, HDR.out, enumsF_cons, if_pos HU.out, env_enum, HTS.out]; rfl)
          go_wp2_with (go_at_call 28
                       (with_reducible refine (HEN.out _ HBI.out).mono ?_)
                       rintro e' w8 ⟨rfl, hb8⟩
                       have G8 := Lib.hid (HWI.out.trans (hb8.mono HWI.out.size))
                       clear hb8)
          go_roundg (p.enums.length - (i + 1))
          case measure => have := HI.out; omega
          case rel => exact ⟨i + 1, by omega, by go_num, HNX.out, G8.out⟩
      · have hie : i = p.enums.length := by omega
        have HEF := Lib.hid (show enumsF 0 .new p.enums = .inl (envS p.enums [] []) by rw [HR.out, hie, List.drop_length, List.take_length]; rfl)
        have HCN := Lib.hid (check_nodes H0.out HEF.out)
        have HND := Lib.hid (keys_nodup HEF.out)
        have HNO := Lib.hid (HNODE.out H0.out HND.out)
        clear hie
        go_wp2_with fail
        clear p0 p1 q0 q1 q2 g0 g1 g2
        go_loopg [7] p.nodes.length (fun g v wr => ∃ k : Nat, k + g = p.nodes.length ∧ v = .int .i64 k ∧ checkQ made p = nodesF k (envS p.enums (p.nodes.take k) []) (p.nodes.drop k) ∧ Below V.heap.size V wr)
        case atStart => exact ⟨0, by omega, rfl, HCN.out, HWI.out⟩
        case round =>
          obtain ⟨wk, rfl⟩ : ∃ W, W = wr := ⟨_, rfl⟩
          obtain ⟨k, hkg, rfl, hr2, hbk⟩ := hrel
          have HK := Lib.hid hkg
          have HR2 := Lib.hid hr2
          have HWK := Lib.hid hbk
          have HBK := Lib.hid (HBV.out.trans (hbk.mono hszV))
          obtain ⟨p0, p1⟩ := row2 (box_next hbk BP.out)
          obtain ⟨q0, q1, q2⟩ := row3 (box_next hbk BF.out)
          have g0 := row_frozen (box_next hbk BF.out) 0
          have g1 := row_frozen (box_next hbk BF.out) 1
          have g2 := row_frozen (box_next hbk BF.out) 2
          have hkl : k ≤ p.nodes.length := by omega
          clear hkg hr2 hbk
          by_cases hltk : k < p.nodes.length
          · obtain ⟨n, hn⟩ : ∃ n, p.nodes[k]? = some n := ⟨_, List.getElem?_eq_getElem hltk⟩
            have HDR := Lib.hid (drop_consS hn)
            have HTS := Lib.hid (take_snoc hn)
            have HNN := Lib.hid (HNO.out k n hn)
            clear hn
            cases hs : nodeStep (envS p.enums (p.nodes.take k) []) n with
            | inr b =>
              rw [hs] at HNN
              have HN := Lib.hid (show checkQ made p = (4, (k : Int), b) by rw [HR2.out, HDR.out, nodesF_no hs])
              clear hs
              go_wp2_with (go_at_call 29
                           (with_reducible refine (HNN.out _ HBK.out).mono ?_)
                           rintro e' w8 ⟨he, hb8⟩
                           replace he : e' = .returned (.agg #[.int .i64 4, .int .i64 k, .int .i64 b]) := he
                           subst he
                           obtain ⟨Y, rfl⟩ : ∃ W, W = w8 := ⟨_, rfl⟩
                           have GY := Lib.hid (HWK.out.trans (hb8.mono HWK.out.size))
                           have G8 := Lib.hid (GY.out.alloc GY.out.size (.cells #[.int .i64 4, .int .i64 k, .int .i64 b] 29))
                           have hFY := lt_of_heap (box_next GY.out BF.out)
                           obtain ⟨p0, p1⟩ := row2 (box_next GY.out BP.out)
                           obtain ⟨q0, q1, q2⟩ := row3 (box_next GY.out BF.out)
                           have g0 := row_frozen (box_next GY.out BF.out) 0
                           have g1 := row_frozen (box_next GY.out BF.out) 1
                           have g2 := row_frozen (box_next GY.out BF.out) 2
                           clear hb8)
              have HS3 := Lib.hid (below_set3 (HV.out.trans (GY.out.mono HV.out.size)) (show w.heap.size ≤ w.heap.size + 1 by omega) (.int .i64 4) (.int .i64 k) (.int .i64 b))
              exact bodyPost_ret (rcheck_results rfl (alloc_below (set_row3 _ _ _ (box_next GY.out BF.out)))) rfl ⟨by rw [HN.out], HS3.out.alloc HS3.out.size _⟩
            | inl s2 =>
              rw [hs] at HNN
              have HNX := Lib.hid (show checkQ made p = nodesF (k + 1 : Nat) (envS p.enums (p.nodes.take (k + 1)) []) (p.nodes.drop (k + 1)) by rw [HR2.out, HDR.out, nodesF_yes hs, nodesF_env hs, HTS.out]; rfl)
              clear hs
              go_wp2_with (go_at_call 29
                           (with_reducible refine (HNN.out _ HBK.out).mono ?_)
                           rintro e' w8 ⟨he, hb8⟩
                           replace he : e' = .returned (.agg #[.int .i64 0, .int .i64 0, .int .i64 0]) := he
                           subst he
                           obtain ⟨Y, rfl⟩ : ∃ W, W = w8 := ⟨_, rfl⟩
                           have GY := Lib.hid (HWK.out.trans (hb8.mono HWK.out.size))
                           have G8 := Lib.hid (GY.out.alloc GY.out.size (.cells #[.int .i64 0, .int .i64 0, .int .i64 0] 29))
                           clear hb8)
              go_roundg (p.nodes.length - (k + 1))
              case measure => have := HK.out; omega
              case rel => exact ⟨k + 1, by omega, by go_num, HNX.out, G8.out⟩
          · have hke : k = p.nodes.length := by omega
            have HN := Lib.hid (show checkQ made p = (0, 0, 0) by rw [HR2.out, hke, List.drop_length]; rfl)
            clear hke
            go_wp2_with fail
            exact bodyPost_ret (rcheck_results rfl (set_row3 _ _ _ (box_next HWK.out BF.out))) rfl ⟨by rw [HN.out], below_set3 (HV.out.trans (HWK.out.mono HV.out.size)) (by omega) _ _ _⟩
  · have H0 := Lib.hid (check_bad h0)
    have hd : (rightL made p != 0) = true := by simp [h0]
    generalize rightL made p = r at *
    clear h0
    go_enter Tryz.func11, Tryz.ntmps11
    go_wp2_with (go_at_call 20
                 (with_reducible refine (HRI.out _ (HB.out.trans (HW2.out.mono hsz))).mono ?_)
                 rintro e' w7 ⟨rfl, hb7⟩
                 obtain ⟨V, rfl⟩ : ∃ W, W = w7 := ⟨_, rfl⟩
                 have HV := Lib.hid (HW2.out.trans (hb7.mono HW2.out.size))
                 have BP := Lib.hid (show V.heap[w.heap.size]? = some (.cells #[.slice E p.enums.length ek, .slice C p.nodes.length ck] 25 (0, 0)) from box_next hb7 (alloc_below (heap_alloc_new w _)))
                 have BF := Lib.hid (show V.heap[w.heap.size + 1]? = some (.cells #[.int .i64 0, .int .i64 0, .int .i64 0] 29 (0, 0)) from box_next hb7 (alloc_at (by simp)))
                 have HV0 := Lib.hid (Below.refl V.heap.size V)
                 obtain ⟨p0, p1⟩ := row2 (box_next HV0.out BP.out)
                 obtain ⟨q0, q1, q2⟩ := row3 (box_next HV0.out BF.out)
                 have g0 := row_frozen (box_next HV0.out BF.out) 0
                 have g1 := row_frozen (box_next HV0.out BF.out) 1
                 have g2 := row_frozen (box_next HV0.out BF.out) 2
                 clear hb7)
    exact bodyPost_ret (rcheck_results rfl (set_row3 _ _ _ (box_next HV0.out BF.out))) rfl ⟨by rw [H0.out], below_set3 (HV.out.trans (HV0.out.mono HV.out.size)) (by omega) _ _ _⟩
set_option maxHeartbeats 16000000 in
set_option maxRecDepth 100000 in
theorem faults_walk {w : World} {p : QProg} {A1 A2 : Option Addr} {n1 k1 n2 k2 : Nat} (hL : ProgAt w [.slice A1 n1 k1, .slice A2 n2 k2] p) (hp : wProg p ≤ 1048576) :
    Calls Tryz.prog 3 #[.agg #[.slice A1 n1 k1, .slice A2 n2 k2]] w (Lived w) := by
  have HC1 := Lib.hid (fun made => check_any made hL (prog_few hp))
  have HC2 := Lib.hid (fun made => s5Check_any made hL hp)
  obtain ⟨⟨a1, a2, a3⟩, ha⟩ : ∃ r, checkQ false p = r := ⟨_, rfl⟩
  obtain ⟨⟨b1, b2, b3⟩, hb⟩ : ∃ r, checkQ true p = r := ⟨_, rfl⟩
  have HF1 := Lib.hid (HC1.out false)
  have HF2 := Lib.hid (HC2.out false)
  have HT1 := Lib.hid (HC1.out true)
  have HT2 := Lib.hid (HC2.out true)
  rw [ha] at HF1 HF2
  rw [hb] at HT1 HT2
  have hal := Lib.hid ((Below.refl w.heap.size w).alloc (Nat.le_refl _) (.cells #[.slice A1 n1 k1, .slice A2 n2 k2] 25))
  have BP := Lib.hid (heap_alloc_new w (.cells #[.slice A1 n1 k1, .slice A2 n2 k2] 25))
  clear hL hp ha hb HC1 HC2
  go_enter Tryz.func3, Tryz.ntmps3
  go_wp2_with fail
  generalize w.alloc (.cells #[.slice A1 n1 k1, .slice A2 n2 k2] 25) = V at *
  have KEEP := Lib.hid (show ∀ W, Below V.heap.size V W → (fun W => W.cell? ⟨w.heap.size, 0, none⟩ = some (.slice A1 n1 k1) ∧ W.cell? ⟨w.heap.size, 1, none⟩ = some (.slice A2 n2 k2)) W from
    fun W hW => by
      obtain ⟨p0, p1⟩ := row2 (box_next hW BP.out)
      exact ⟨p0, p1⟩)
  refine wp_region_held_drew (S := (fun W => W.cell? ⟨w.heap.size, 0, none⟩ = some (.slice A1 n1 k1) ∧ W.cell? ⟨w.heap.size, 1, none⟩ = some (.slice A2 n2 k2))) (by kernel_rfl) ?_ (fun hHeld => ?_)
  · exact KEEP.out _ (Below.refl _ _).drew
  refine only_at 0 (by kernel_rfl) rfl (fun K hK => ?_)
  go_simp
  (go_at_call 9
   (with_reducible refine (lives_any _).mono ?_)
   rintro e w7 ⟨rfl, hb7⟩
   obtain ⟨V1, rfl⟩ : ∃ W, W = w7 := ⟨_, rfl⟩
   have G1 := Lib.hid ((Below.refl V.heap.size V).drew.trans hb7)
   have HB1 := Lib.hid (hal.out.trans (G1.out.mono hal.out.size))
   clear hb7)
  refine hK.out _ _ (KEEP.out _ ?_) (fun hHeld => ?_)
  · (repeat (first | exact Below.refl _ _ | exact G1.out | refine Below.drew ?_ | refine Below.alloc ?_ (by simp) _ | refine Below.setCell ?_ (by simp) _))
  clear hK K
  try simp only [Act.put, setA, setZ, setS]
  refine take_now 1 rfl ?_
  try simp only [Act.put, setA, setZ, setS]
  refine take_now 2 rfl ?_
  try simp only [Act.put, setA, setZ, setS]
  refine take_now 4 rfl ?_
  try simp only [Act.put, setA, setZ, setS]
  refine only_at 3 (by kernel_rfl) rfl (fun K hK => ?_)
  go_simp
  (go_at_call 10
   (with_reducible refine (HF1.out _ HB1.out).mono ?_)
   rintro e w7 ⟨rfl, hb7⟩
   obtain ⟨V2, rfl⟩ : ∃ W, W = w7 := ⟨_, rfl⟩
   have G2 := Lib.hid (G1.out.trans (hb7.mono G1.out.size))
   have HB2 := Lib.hid (hal.out.trans (G2.out.mono hal.out.size))
   clear hb7)
  refine hK.out _ _ (KEEP.out _ ?_) (fun hHeld => ?_)
  · (repeat (first | exact Below.refl _ _ | exact G2.out | refine Below.drew ?_ | refine Below.alloc ?_ (by simp) _ | refine Below.setCell ?_ (by simp) _))
  clear hK K
  refine only_at 5 (by kernel_rfl) rfl (fun K hK => ?_)
  go_simp
  (go_at_call 11
   (with_reducible refine (HF2.out _ HB2.out).mono ?_)
   rintro e w7 ⟨rfl, hb7⟩
   obtain ⟨V3, rfl⟩ : ∃ W, W = w7 := ⟨_, rfl⟩
   have G3 := Lib.hid (G2.out.trans (hb7.mono G2.out.size))
   have HB3 := Lib.hid (hal.out.trans (G3.out.mono hal.out.size))
   have heqa := eq_fault a1 a2 a3
   clear hb7)
  refine hK.out _ _ (KEEP.out _ ?_) (fun hHeld => ?_)
  · (repeat (first | exact Below.refl _ _ | exact G3.out | refine Below.drew ?_ | refine Below.alloc ?_ (by simp) _ | refine Below.setCell ?_ (by simp) _))
  clear hK K
  refine take_now 6 rfl ?_
  try simp only [Act.put, setA, setZ, setS]
  refine take_now 7 rfl ?_
  try simp only [Act.put, setA, setZ, setS]
  refine take_now 8 rfl ?_
  try simp only [Act.put, setA, setZ, setS]
  refine take_now 9 rfl ?_
  try simp only [Act.put, setA, setZ, setS]
  refine take_now 11 rfl ?_
  try simp only [Act.put, setA, setZ, setS]
  refine only_at 10 (by kernel_rfl) rfl (fun K hK => ?_)
  go_simp
  (go_at_call 10
   (with_reducible refine (HT1.out _ HB3.out).mono ?_)
   rintro e w7 ⟨rfl, hb7⟩
   obtain ⟨V4, rfl⟩ : ∃ W, W = w7 := ⟨_, rfl⟩
   have G4 := Lib.hid (G3.out.trans (hb7.mono G3.out.size))
   have HB4 := Lib.hid (hal.out.trans (G4.out.mono hal.out.size))
   clear hb7)
  refine hK.out _ _ (KEEP.out _ ?_) (fun hHeld => ?_)
  · (repeat (first | exact Below.refl _ _ | exact G4.out | refine Below.drew ?_ | refine Below.alloc ?_ (by simp) _ | refine Below.setCell ?_ (by simp) _))
  clear hK K
  refine only_at 12 (by kernel_rfl) rfl (fun K hK => ?_)
  go_simp
  (go_at_call 11
   (with_reducible refine (HT2.out _ HB4.out).mono ?_)
   rintro e w7 ⟨rfl, hb7⟩
   obtain ⟨V5, rfl⟩ : ∃ W, W = w7 := ⟨_, rfl⟩
   have G5 := Lib.hid (G4.out.trans (hb7.mono G4.out.size))
   have HB5 := Lib.hid (hal.out.trans (G5.out.mono hal.out.size))
   have heqb := eq_fault b1 b2 b3
   clear hb7)
  refine hK.out _ _ (KEEP.out _ ?_) (fun hHeld => ?_)
  · (repeat (first | exact Below.refl _ _ | exact G5.out | refine Below.drew ?_ | refine Below.alloc ?_ (by simp) _ | refine Below.setCell ?_ (by simp) _))
  clear hK K
  refine take_now 13 rfl ?_
  try simp only [Act.put, setA, setZ, setS]
  refine take_now 14 rfl ?_
  try simp only [Act.put, setA, setZ, setS]
  refine take_now 15 rfl ?_
  try simp only [Act.put, setA, setZ, setS]
  refine wpAnyH_done (by kernel_rfl) ?_ _
  go_wp2_with fail
  go_ret
  exact ⟨rfl, HB5.out⟩
theorem faults_law (L : List Value) (p : QProg) (w : World) (hL : ProgAt w L p) (hp : wProg p ≤ 1048576) : Calls Tryz.prog 3 #[.agg L.toArray] w (Lived w) := by
  obtain ⟨A1, n1, k1, A2, n2, k2, rfl⟩ := prog_shape hL
  exact faults_walk hL hp
end Go.Proofs.YtbpbnebcbjacdaaGreat
