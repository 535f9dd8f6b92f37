/-
  The reference's Check: uses.
-/
import Derived.Test.YtbpbnebcbjacdaaGreatScopeRef1
namespace Go.Proofs.YtbpbnebcbjacdaaGreat
open Go.RowKit

theorem right_none {made : Bool} {op n : Int} {nm : Tx} {cs : List Tx} {ks : List Ex} (h : rightX made (.mk op nm n cs ks) = true) (ho : op = 3 ∨ op = 4) : ks = [] := by
  rw [rightX, Bool.and_eq_true] at h
  have h1 := h.1
  rcases ho with rfl | rfl <;> simp [shapeM] at h1 <;> exact h1.2
theorem usesName_x {s : SNode} {op : Int} {nm : Tx} {cs : List Tx} {k : Nat} {r : Int} {u : Bool} (h4 : (op == 4) = false) (h3 : (op == 3) = false) (h11 : (op == 11) = false) (h12 : (op == 12) = false) (h13 : (op == 13) = false) (h14 : (op == 14) = false) : usesName s op nm cs k r u = true := by
  have h : ∀ {a : Int}, (op == a) = false → op ≠ a := fun h => by simpa using h
  unfold usesName
  rw [if_neg (h h4), if_neg (h h3), if_neg (h h11), if_neg (h h12), if_neg (h h13), if_neg (h h14)]
theorem usesName_4 {s : SNode} {nm : Tx} {cs : List Tx} {k : Nat} {r : Int} {u : Bool} : usesName s 4 nm cs k r u = s.vars.contains nm := rfl
theorem usesName_3 {s : SNode} {nm : Tx} {cs : List Tx} {k : Nat} {r : Int} {u : Bool} : usesName s 3 nm cs k r u = s.prog.conKeys.contains nm := rfl
theorem usesName_11 {s : SNode} {nm : Tx} {cs : List Tx} {k : Nat} {r : Int} {u : Bool} : usesName s 11 nm cs k r u = (!u && (s.vars.contains nm && s.prog.conKeys.contains (cs.headD []))) := rfl
theorem usesName_12 {s : SNode} {nm : Tx} {cs : List Tx} {k : Nat} {r : Int} {u : Bool} : usesName s 12 nm cs k r u = (!u && (s.vars.contains nm && completeQ s cs)) := rfl
theorem usesName_13 {s : SNode} {nm : Tx} {cs : List Tx} {k : Nat} {r : Int} {u : Bool} : usesName s 13 nm cs k r u = (!u && (s.vars.contains nm && completeQ s cs)) := rfl
theorem usesName_14 {s : SNode} {nm : Tx} {cs : List Tx} {k : Nat} {r : Int} {u : Bool} : usesName s 14 nm cs k r u = callQ s nm cs k r := rfl
set_option maxHeartbeats 40000000 in
set_option maxRecDepth 100000 in
theorem rUses_any {made : Bool} {w0 : World} {L : List Value} {p : QProg} (hL : ProgAt w0 L p) {k : Nat} {n : QNode} (hk : p.nodes[k]? = some n) (hnd : (boolsL ++ p.enums.flatMap QEnum.cons).Nodup) (hvl : (varsQ n).length ≤ 2097152) (is : List QItem) {Le : List Value} {x : Ex} (h : ExAt w0 Le x) :
    rightX made x = true → ∀ (u : Bool) (r : Int) (w : World), Below w0.heap.size w0 w →
    Calls Tryz.prog 80 #[.agg L.toArray, .int .i64 k, .agg Le.toArray, .bool u, .int .i64 r] w (BoolPost (usesX ⟨envS p.enums (p.nodes.take k) is, n.funs, varsQ n⟩ r u x) w) := by
  induction h with
  | @mk op nm m cs ks cv A c Ck hop hnm hm hcs hl hc hkk hx ih =>
    intro hr u r w hb
    have HCALL := Lib.hid (rCall_any hL hk (ExAt.mk hop hnm hm hcs hl hc hkk hx) r is (varsQ n))
    obtain ⟨hne, hrk⟩ := right_ne hr
    have HNE1 := Lib.hid hne
    have HRK := Lib.hid hrk
    have HNONE := Lib.hid (right_none hr)
    have hksl : ks.length ≤ 9223372036854775807 := by unfold maxLen at hc; omega
    have HCS := Lib.hid hcs
    obtain ⟨cA, cc, rfl, hcc', hcm', hce'⟩ := hcs
    have hcl : cs.length ≤ 9223372036854775807 := by have h : cs.length ≤ cc := hcc'; unfold maxLen at hcm'; omega
    have HCE := Lib.hid hce'
    have HNDP := Lib.hid hnd
    have HVL := Lib.hid hvl
    clear hne hrk hr hcc' hcm' hce' hop hm hnm hnd hvl
    have HB := Lib.hid hb
    have hsz := hb.size
    have hkl : k < p.nodes.length := (List.getElem?_eq_some_iff.1 hk).1
    have HPROG := Lib.hid hL
    obtain ⟨ev, nv, rfl, he, hn⟩ := hL
    have HEV := Lib.hid he
    have HNV := Lib.hid hn
    obtain ⟨E, en, ek, rfl⟩ := SliceAt.shape he
    obtain ⟨C, ck, rfl, hcc, hmc, hce⟩ := hn
    have hccap : p.nodes.length ≤ ck := hcc
    have hnl : p.nodes.length ≤ 9223372036854775807 := by unfold maxLen at hmc; omega
    have HNE := Lib.hid hce
    obtain ⟨Ln, hEn, hNn⟩ := hce k n hk
    have HEN := Lib.hid hEn
    have HNA := Lib.hid hNn
    obtain ⟨fv, iv, ov, xv, rfl, hnn, hfu, hin, hou, hit⟩ := hNn
    have HFU := Lib.hid hfu
    have HIN := Lib.hid hin
    have HOU := Lib.hid hou
    have HIT := Lib.hid hit
    obtain ⟨fA, fk, rfl, hfc, hfm, hfe⟩ := hfu
    obtain ⟨iA, ik, rfl, hic, him, hie⟩ := hin
    obtain ⟨oA, ok, rfl, hoc, hom, hoe⟩ := hou
    obtain ⟨xA, xk, rfl, hxc, hxm, hxe⟩ := hit
    have hfl : n.funs.length ≤ 9223372036854775807 := by have h : n.funs.length ≤ fk := hfc; unfold maxLen at hfm; omega
    have hol : n.outs.length ≤ 9223372036854775807 := by have h : n.outs.length ≤ ok := hoc; unfold maxLen at hom; omega
    have hxcap : n.items.length ≤ xk := hxc
    have hxl : n.items.length ≤ 9223372036854775807 := by unfold maxLen at hxm; omega
    have HFE := Lib.hid hfe
    have HOE := Lib.hid hoe
    have HXE := Lib.hid hxe
    obtain ⟨a, ea, ha, haa, d0, d1, d2, d3, d4⟩ := elem5 (hEn.under HB.out)
    subst ea
    have HVARS := Lib.hid (rvars_any HNA.out HVL.out)
    have HRCON := Lib.hid (fun s => rcon_any HPROG.out s)
    have HCONK := Lib.hid (fun s => show (conQ p s).2.2 = (⟨envS p.enums (p.nodes.take k) is, n.funs, varsQ n⟩ : SNode).prog.conKeys.contains s from conQ_env p.enums (p.nodes.take k) is p.nodes s)
    have HALL := Lib.hid (rAll_any HPROG.out HCS.out)
    have HCOMP := Lib.hid (fun (h : cs ≠ []) => complete_env HNDP.out (p.nodes.take k) is n.funs (varsQ n) h)
    have HSV := Lib.hid (show (⟨envS p.enums (p.nodes.take k) is, n.funs, varsQ n⟩ : SNode).vars = varsQ n from rfl)
    have HQ := Lib.hid (uses_mk (s := ⟨envS p.enums (p.nodes.take k) is, n.funs, varsQ n⟩) op m nm cs ks r u)
    generalize (⟨envS p.enums (p.nodes.take k) is, n.funs, varsQ n⟩ : SNode) = sn at *
    clear hb he hcc hmc hce hEn hnn hfc hfm hfe hic him hie hoc hom hoe hxc hxm hxe HFU HIN HOU HIT HFE HOE HXE
    by_cases h4 : op = 4
    · subst h4
      have HUN := Lib.hid (usesName_4 (s := sn) (nm := nm) (cs := cs) (k := ks.length) (r := r) (u := u))
      have HK0 := Lib.hid (show usesXs sn 4 r (u || (4 : Int) == 13) true ks = true by rw [HNONE.out (.inr rfl)]; rfl)
      obtain ⟨f, hf⟩ : ∃ f, (varsQ n).contains nm = f := ⟨_, rfl⟩
      have HF := Lib.hid hf
      rw [HSV.out, hf] at HUN
      clear hf
      have HW2 := Lib.hid (show Below w.heap.size w ((w.alloc (.cells #[.slice E en ek, .slice (some a) p.nodes.length ck] 25)).alloc (.cells #[.int .i64 4, .string (str nm), .int .i64 m, .slice cA cs.length cc, .slice A ks.length c] 50)) from (((Below.refl w.heap.size w).alloc (by simp) _).alloc (by simp <;> omega) _))
      go_enter Tryz.func80, Tryz.ntmps80
      go_wp2_with (first
        | (go_at_call 18
           (with_reducible refine (HVARS.out _ (HB.out.trans (HW2.out.mono hsz))).mono ?_)
           rintro e' w7 ⟨v8, rfl, ho8, hb8⟩
           obtain ⟨vA, vn, vk, rfl, hvn⟩ := ho8.shape
           obtain ⟨V, rfl⟩ : ∃ W, W = w7 := ⟨_, rfl⟩
           have HVS := Lib.hid ho8.strs
           have HV := Lib.hid (HW2.out.trans (hb8.mono HW2.out.size))
           have BP := Lib.hid (show V.heap[w.heap.size]? = some (.cells #[.slice E en ek, .slice (some a) p.nodes.length ck] 25 (0, 0)) from box_next hb8 (alloc_below (heap_alloc_new w _)))
           have BX := Lib.hid (show V.heap[w.heap.size + 1]? = some (.cells #[.int .i64 4, .string (str nm), .int .i64 m, .slice cA cs.length cc, .slice A ks.length c] 50 (0, 0)) from box_next hb8 (alloc_at (by simp)))
           have HBV := Lib.hid (HB.out.trans (HV.out.mono hsz))
           have hszV := HBV.out.size
           obtain ⟨p0, p1⟩ := row2 BP.out
           obtain ⟨x0, x1, x2, x3, x4⟩ := row5 BX.out
           clear ho8 hb8 hvn)
        | (go_at_call 21
           (with_reducible refine (has_post HVS.out nm).mono ?_)
           rintro e' w8 ⟨he, hb8⟩
           rw [HF.out] at he
           subst he
           obtain ⟨U1, rfl⟩ : ∃ W, W = w8 := ⟨_, rfl⟩
           have GU1 := Lib.hid hb8
           obtain ⟨p0, p1⟩ := row2 (box_next GU1.out BP.out)
           obtain ⟨x0, x1, x2, x3, x4⟩ := row5 (box_next GU1.out BX.out)
           clear hb8))
      go_ret
      exact ⟨ret_bool (by rw [HQ.out, HUN.out, HK0.out, Bool.and_true]), HV.out.trans (GU1.out.mono HV.out.size)⟩
    have d4 : (op == 4) = false := by simpa using h4
    clear h4
    by_cases h3 : op = 3
    · subst h3
      have HUN := Lib.hid (usesName_3 (s := sn) (nm := nm) (cs := cs) (k := ks.length) (r := r) (u := u))
      have HK0 := Lib.hid (show usesXs sn 3 r (u || (3 : Int) == 13) true ks = true by rw [HNONE.out (.inl rfl)]; rfl)
      have HCON := Lib.hid (HRCON.out nm)
      have HCK := Lib.hid (HCONK.out nm)
      obtain ⟨⟨r1, r2, r3⟩, hr⟩ : ∃ r, conQ p nm = r := ⟨_, rfl⟩
      rw [hr] at HCON HCK
      clear hr
      have HW2 := Lib.hid (show Below w.heap.size w ((w.alloc (.cells #[.slice E en ek, .slice (some a) p.nodes.length ck] 25)).alloc (.cells #[.int .i64 3, .string (str nm), .int .i64 m, .slice cA cs.length cc, .slice A ks.length c] 50)) from (((Below.refl w.heap.size w).alloc (by simp) _).alloc (by simp <;> omega) _))
      go_enter Tryz.func80, Tryz.ntmps80
      go_wp2_with (first
        | (go_at_call 18
           (with_reducible refine (HVARS.out _ (HB.out.trans (HW2.out.mono hsz))).mono ?_)
           rintro e' w7 ⟨v8, rfl, ho8, hb8⟩
           obtain ⟨vA, vn, vk, rfl, hvn⟩ := ho8.shape
           obtain ⟨V, rfl⟩ : ∃ W, W = w7 := ⟨_, rfl⟩
           have HVS := Lib.hid ho8.strs
           have HV := Lib.hid (HW2.out.trans (hb8.mono HW2.out.size))
           have BP := Lib.hid (show V.heap[w.heap.size]? = some (.cells #[.slice E en ek, .slice (some a) p.nodes.length ck] 25 (0, 0)) from box_next hb8 (alloc_below (heap_alloc_new w _)))
           have BX := Lib.hid (show V.heap[w.heap.size + 1]? = some (.cells #[.int .i64 3, .string (str nm), .int .i64 m, .slice cA cs.length cc, .slice A ks.length c] 50 (0, 0)) from box_next hb8 (alloc_at (by simp)))
           have HBV := Lib.hid (HB.out.trans (HV.out.mono hsz))
           have hszV := HBV.out.size
           obtain ⟨p0, p1⟩ := row2 BP.out
           obtain ⟨x0, x1, x2, x3, x4⟩ := row5 BX.out
           clear ho8 hb8 hvn)
        | (go_at_call 13
           (with_reducible refine (HCON.out _ HBV.out).mono ?_)
           rintro e' w8 ⟨rfl, hb8⟩
           have GU1 := Lib.hid hb8
           clear hb8))
      go_ret
      exact ⟨ret_bool (by rw [HQ.out, HUN.out, HK0.out, Bool.and_true, ← HCK.out]), HV.out.trans (GU1.out.mono HV.out.size)⟩
    have d3 : (op == 3) = false := by simpa using h3
    clear h3
    by_cases h11 : op = 11
    · subst h11
      have HUN := Lib.hid (usesName_11 (s := sn) (nm := nm) (cs := cs) (k := ks.length) (r := r) (u := u))
      obtain ⟨c0, cr, hcc⟩ := List.exists_cons_of_ne_nil (HNE1.out (.inl rfl))
      obtain ⟨L0, hE0, rfl, _⟩ := HCE.out 0 c0 (by rw [hcc]; rfl)
      have HE0 := Lib.hid hE0
      obtain ⟨g, eg, hgb, _, _⟩ := elem1 (hE0.under HB.out)
      subst eg
      have hpos : 0 < cs.length := by rw [hcc]; simp
      rw [show cs.headD [] = c0 by rw [hcc]; rfl] at HUN
      have HCON := Lib.hid (HRCON.out c0)
      have HCK := Lib.hid (HCONK.out c0)
      obtain ⟨⟨r1, r2, r3⟩, hr⟩ : ∃ r, conQ p c0 = r := ⟨_, rfl⟩
      rw [hr] at HCON HCK
      rw [← HCK.out] at HUN
      replace HUN := Lib.hid (show usesName sn 11 nm cs ks.length r u = (!u && (sn.vars.contains nm && r3)) from HUN.out)
      clear hcc hE0 hr
      obtain ⟨f, hf⟩ : ∃ f, (varsQ n).contains nm = f := ⟨_, rfl⟩
      have HF := Lib.hid hf
      rw [HSV.out, hf] at HUN
      clear hf
      have HW2 := Lib.hid (show Below w.heap.size w ((w.alloc (.cells #[.slice E en ek, .slice (some a) p.nodes.length ck] 25)).alloc (.cells #[.int .i64 11, .string (str nm), .int .i64 m, .slice (some g) cs.length cc, .slice A ks.length c] 50)) from (((Below.refl w.heap.size w).alloc (by simp) _).alloc (by simp <;> omega) _))
      go_enter Tryz.func80, Tryz.ntmps80
      go_wp2_with (go_at_call 18
                   (with_reducible refine (HVARS.out _ (HB.out.trans (HW2.out.mono hsz))).mono ?_)
                   rintro e' w7 ⟨v8, rfl, ho8, hb8⟩
                   obtain ⟨vA, vn, vk, rfl, hvn⟩ := ho8.shape
                   obtain ⟨V, rfl⟩ : ∃ W, W = w7 := ⟨_, rfl⟩
                   have HVS := Lib.hid ho8.strs
                   have HV := Lib.hid (HW2.out.trans (hb8.mono HW2.out.size))
                   have BP := Lib.hid (show V.heap[w.heap.size]? = some (.cells #[.slice E en ek, .slice (some a) p.nodes.length ck] 25 (0, 0)) from box_next hb8 (alloc_below (heap_alloc_new w _)))
                   have BX := Lib.hid (show V.heap[w.heap.size + 1]? = some (.cells #[.int .i64 11, .string (str nm), .int .i64 m, .slice (some g) cs.length cc, .slice A ks.length c] 50 (0, 0)) from box_next hb8 (alloc_at (by simp)))
                   have HBV := Lib.hid (HB.out.trans (HV.out.mono hsz))
                   have hszV := HBV.out.size
                   obtain ⟨p0, p1⟩ := row2 BP.out
                   obtain ⟨x0, x1, x2, x3, x4⟩ := row5 BX.out
                   clear ho8 hb8 hvn)
      clear p0 p1 x0 x1 x2 x3 x4
      have KEEP := Lib.hid (show ∀ W, Below V.heap.size V W → (fun W => W.cell? ⟨w.heap.size, 0, none⟩ = some (.slice E en ek) ∧ W.cell? ⟨w.heap.size, 1, none⟩ = some (.slice (some a) p.nodes.length ck) ∧ W.cell? ⟨w.heap.size + 1, 3, none⟩ = some (.slice (some g) cs.length cc) ∧ W.cell? g = some (.string (str c0))) W from
        fun W hW => by
          obtain ⟨a', ea', _, _, c0⟩ := elem1 (HE0.out.under (HBV.out.trans (hW.mono hszV)))
          cases ea'
          rw [Nat.zero_mul, add_zero] at c0
          obtain ⟨p0, p1⟩ := row2 (box_next hW BP.out)
          obtain ⟨_, _, _, x3, _⟩ := row5 (box_next hW BX.out)
          exact ⟨p0, p1, x3, c0⟩)
      refine wp_region_held_drew (S := (fun W => W.cell? ⟨w.heap.size, 0, none⟩ = some (.slice E en ek) ∧ W.cell? ⟨w.heap.size, 1, none⟩ = some (.slice (some a) p.nodes.length ck) ∧ W.cell? ⟨w.heap.size + 1, 3, none⟩ = some (.slice (some g) cs.length cc) ∧ W.cell? g = some (.string (str c0)))) (by kernel_rfl) ?_ (fun hHeld => ?_)
      · exact KEEP.out _ (Below.refl _ _).drew
      refine take_now 0 rfl ?_
      try simp only [Act.put, setA, setZ, setS]
      refine take_now 1 rfl ?_
      try simp only [Act.put, setA, setZ, setS]
      refine take_now 2 rfl ?_
      try simp only [Act.put, setA, setZ, setS]
      refine take_now 3 rfl ?_
      try simp only [Act.put, setA, setZ, setS]
      refine take_now 4 rfl ?_
      try simp only [Act.put, setA, setZ, setS]
      refine only_at 5 (by kernel_rfl) rfl (fun K hK => ?_)
      go_simp
      (go_at_call 13
       (with_reducible refine (HCON.out _ HBV.out.drew).mono ?_)
       rintro e' w8 ⟨rfl, hb8⟩
       obtain ⟨U, rfl⟩ : ∃ W, W = w8 := ⟨_, rfl⟩
       have GU := Lib.hid ((Below.refl V.heap.size V).drew.trans hb8)
       obtain ⟨p0, p1⟩ := row2 (box_next GU.out BP.out)
       obtain ⟨x0, x1, x2, x3, x4⟩ := row5 (box_next GU.out BX.out)
       clear hb8)
      refine hK.out _ _ (KEEP.out _ ?_) (fun hHeld => ?_)
      · (repeat (first | exact Below.refl _ _ | exact GU.out | refine Below.drew ?_ | refine Below.alloc ?_ (by simp) _ | refine Below.setCell ?_ (by simp) _))
      clear hK K
      refine take_now 6 rfl ?_
      try simp only [Act.put, setA, setZ, setS]
      refine take_now 7 rfl ?_
      try simp only [Act.put, setA, setZ, setS]
      refine take_now 8 rfl ?_
      try simp only [Act.put, setA, setZ, setS]
      refine take_now 9 rfl ?_
      try simp only [Act.put, setA, setZ, setS]
      refine take_now 10 rfl ?_
      try simp only [Act.put, setA, setZ, setS]
      refine take_now 11 rfl ?_
      try simp only [Act.put, setA, setZ, setS]
      refine take_now 12 rfl ?_
      try simp only [Act.put, setA, setZ, setS]
      refine wpAnyH_done (by kernel_rfl) ?_ _
      clear KEEP
      cases u
      · cases f
        · go_wp2_with (go_at_call 21
                       (with_reducible refine (has_post (HVS.out.under GU.out) nm).mono ?_)
                       rintro e' w8 ⟨he, hb8⟩
                       rw [HF.out] at he
                       subst he
                       obtain ⟨U1, rfl⟩ : ∃ W, W = w8 := ⟨_, rfl⟩
                       have GU1 := Lib.hid (GU.out.trans (hb8.mono GU.out.size))
                       obtain ⟨p0, p1⟩ := row2 (box_next GU1.out BP.out)
                       obtain ⟨x0, x1, x2, x3, x4⟩ := row5 (box_next GU1.out BX.out)
                       clear hb8)
          go_ret
          exact ⟨ret_bool (by rw [HQ.out, HUN.out]; rfl), HV.out.trans (GU1.out.mono HV.out.size)⟩
        · cases r3
          · go_wp2_with (go_at_call 21
                         (with_reducible refine (has_post (HVS.out.under GU.out) nm).mono ?_)
                         rintro e' w8 ⟨he, hb8⟩
                         rw [HF.out] at he
                         subst he
                         obtain ⟨U1, rfl⟩ : ∃ W, W = w8 := ⟨_, rfl⟩
                         have GU1 := Lib.hid (GU.out.trans (hb8.mono GU.out.size))
                         obtain ⟨p0, p1⟩ := row2 (box_next GU1.out BP.out)
                         obtain ⟨x0, x1, x2, x3, x4⟩ := row5 (box_next GU1.out BX.out)
                         clear hb8)
            go_ret
            exact ⟨ret_bool (by rw [HQ.out, HUN.out]; rfl), HV.out.trans (GU1.out.mono HV.out.size)⟩
          · have HLU := Lib.hid (show usesX sn r false (.mk 11 nm m cs ks) = usesXs sn 11 r false true ks by rw [HQ.out, HUN.out]; rfl)
            go_wp2_with (go_at_call 21
                         (with_reducible refine (has_post (HVS.out.under GU.out) nm).mono ?_)
                         rintro e' w8 ⟨he, hb8⟩
                         rw [HF.out] at he
                         subst he
                         obtain ⟨U1, rfl⟩ : ∃ W, W = w8 := ⟨_, rfl⟩
                         have GU1 := Lib.hid (GU.out.trans (hb8.mono GU.out.size))
                         obtain ⟨p0, p1⟩ := row2 (box_next GU1.out BP.out)
                         obtain ⟨x0, x1, x2, x3, x4⟩ := row5 (box_next GU1.out BX.out)
                         clear hb8)
            have BPU := Lib.hid (box_next GU1.out BP.out)
            have BXU := Lib.hid (box_next GU1.out BX.out)
            have HVU := Lib.hid (HV.out.trans (GU1.out.mono HV.out.size))
            have HBU := Lib.hid (HB.out.trans (HVU.out.mono hsz))
            have hszU := HBU.out.size
            clear p0 p1 x0 x1 x2 x3 x4
            go_loopg [18] ks.length (fun g v wr => ∃ j : Nat, j + g = ks.length ∧ v = .int .i64 j ∧ usesXs sn 11 r false true ks = usesXs sn 11 r false (decide (j = 0)) (ks.drop j) ∧ Below U1.heap.size U1 wr)
            case atStart => exact ⟨0, by omega, rfl, by simp, Below.refl _ _⟩
            case round =>
              obtain ⟨wq, rfl⟩ : ∃ W, W = wr := ⟨_, rfl⟩
              obtain ⟨j, hjg, rfl, hu, hbw⟩ := hrel
              have HJ := Lib.hid hjg
              have HUX := Lib.hid hu
              have HW := Lib.hid hbw
              have HBQ := Lib.hid (HBU.out.trans (hbw.mono hszU))
              obtain ⟨x0, x1, x2, x3, x4⟩ := row5 (box_next hbw BXU.out)
              have hjl : j ≤ ks.length := by omega
              clear hjg hu hbw
              by_cases hlt : j < ks.length
              · obtain ⟨y, hy⟩ : ∃ y, ks[j]? = some y := ⟨_, List.getElem?_eq_getElem hlt⟩
                have hC := hkk j y hy
                have hih := Lib.hid (ih j y hy (HRK.out y (List.mem_of_getElem? hy)))
                have hxk := hx j y hy
                have HD := Lib.hid (drop_consS hy)
                obtain ⟨o1, s1, n1, A1, m1, k1, A2, m2, k2, hLL⟩ := hxk.shape
                generalize Ck j = LL at hC hih hxk hLL
                subst hLL
                have HEC := Lib.hid hC
                obtain ⟨e, rfl, _, _, _, _, _, _, _⟩ := elem5 (hC.under HBQ.out)
                have HNX := Lib.hid (show usesXs sn 11 r false true ks = (usesX sn (kidR 11 r j) false y && usesXs sn 11 r false false (ks.drop (j + 1))) by
                  rw [HUX.out, HD.out, usesXs_cons]
                  congr 2 <;> (unfold kidR; by_cases h0 : j = 0 <;> simp [h0]))
                have KEEP := Lib.hid (show ∀ W, Below wq.heap.size wq W → (fun W => W.cell? ⟨w.heap.size, 0, none⟩ = some (.slice E en ek) ∧ W.cell? ⟨w.heap.size, 1, none⟩ = some (.slice (some a) p.nodes.length ck) ∧ W.cell? ⟨w.heap.size + 1, 0, none⟩ = some (.int .i64 11) ∧ W.cell? ⟨w.heap.size + 1, 4, none⟩ = some (.slice (some e) ks.length c) ∧ W.cell? (e.add (j * 5)) = some (.int .i64 o1) ∧ W.cell? { block := (e.add (j * 5)).block, off := (e.add (j * 5)).off + 1 } = some (.string s1) ∧ W.cell? { block := (e.add (j * 5)).block, off := (e.add (j * 5)).off + 2 } = some (.int .i64 n1) ∧ W.cell? { block := (e.add (j * 5)).block, off := (e.add (j * 5)).off + 3 } = some (.slice A1 m1 k1) ∧ W.cell? { block := (e.add (j * 5)).block, off := (e.add (j * 5)).off + 4 } = some (.slice A2 m2 k2)) W from
                  fun W hW => by
                    obtain ⟨e2, ee2, _, _, d0, d1, d2, d3, d4⟩ := elem5 (HEC.out.under (HBQ.out.trans (hW.mono HBQ.out.size)))
                    cases ee2
                    obtain ⟨p0, p1⟩ := row2 (box_next hW (box_next HW.out BPU.out))
                    obtain ⟨x0, _, _, _, x4⟩ := row5 (box_next hW (box_next HW.out BXU.out))
                    exact ⟨p0, p1, x0, x4, d0, d1, d2, d3, d4⟩)
                clear hC hxk hy
                have HKR := Lib.hid (show kidR 11 r j = 1 by unfold kidR; rw [if_neg (fun h => absurd h.1 (by decide))])
                rw [HKR.out] at HNX
                cases hq : usesX sn 1 false y
                · have HQY := Lib.hid hq
                  clear hq
                  go_wp2_with fail
                  clear x0 x1 x2 x3 x4
                  refine wp_region_held_drew (S := (fun W => W.cell? ⟨w.heap.size, 0, none⟩ = some (.slice E en ek) ∧ W.cell? ⟨w.heap.size, 1, none⟩ = some (.slice (some a) p.nodes.length ck) ∧ W.cell? ⟨w.heap.size + 1, 0, none⟩ = some (.int .i64 11) ∧ W.cell? ⟨w.heap.size + 1, 4, none⟩ = some (.slice (some e) ks.length c) ∧ W.cell? (e.add (j * 5)) = some (.int .i64 o1) ∧ W.cell? { block := (e.add (j * 5)).block, off := (e.add (j * 5)).off + 1 } = some (.string s1) ∧ W.cell? { block := (e.add (j * 5)).block, off := (e.add (j * 5)).off + 2 } = some (.int .i64 n1) ∧ W.cell? { block := (e.add (j * 5)).block, off := (e.add (j * 5)).off + 3 } = some (.slice A1 m1 k1) ∧ W.cell? { block := (e.add (j * 5)).block, off := (e.add (j * 5)).off + 4 } = some (.slice A2 m2 k2))) (by kernel_rfl) ?_ (fun hHeld => ?_)
                  · exact KEEP.out _ (Below.refl _ _).drew
                  refine take_now 0 rfl ?_
                  try simp only [Act.put, setA, setZ, setS]
                  refine take_now 1 rfl ?_
                  try simp only [Act.put, setA, setZ, setS]
                  refine take_now 2 rfl ?_
                  try simp only [Act.put, setA, setZ, setS]
                  refine take_now 3 rfl ?_
                  try simp only [Act.put, setA, setZ, setS]
                  refine take_now 4 rfl ?_
                  try simp only [Act.put, setA, setZ, setS]
                  refine take_now 5 rfl ?_
                  try simp only [Act.put, setA, setZ, setS]
                  refine take_now 6 rfl ?_
                  try simp only [Act.put, setA, setZ, setS]
                  refine take_now 7 rfl ?_
                  try simp only [Act.put, setA, setZ, setS]
                  refine take_now 8 rfl ?_
                  try simp only [Act.put, setA, setZ, setS]
                  refine take_now 9 rfl ?_
                  try simp only [Act.put, setA, setZ, setS]
                  refine take_now 10 rfl ?_
                  try simp only [Act.put, setA, setZ, setS]
                  refine take_now 11 rfl ?_
                  try simp only [Act.put, setA, setZ, setS]
                  refine take_now 12 rfl ?_
                  try simp only [Act.put, setA, setZ, setS]
                  refine take_now 13 rfl ?_
                  try simp only [Act.put, setA, setZ, setS]
                  refine only_at 14 (by kernel_rfl) rfl (fun K hK => ?_)
                  go_simp
                  (go_at_call 80
                   (with_reducible refine (hih.out _ _ _ HBQ.out.drew).mono ?_)
                   rintro e' w7 ⟨he, hb7⟩
                   rw [HQY.out] at he
                   subst he
                   obtain ⟨Y, rfl⟩ : ∃ W, W = w7 := ⟨_, rfl⟩
                   have GY := Lib.hid ((Below.refl wq.heap.size wq).drew.trans hb7)
                   clear hb7)
                  refine hK.out _ _ (KEEP.out _ ?_) (fun hHeld => ?_)
                  · (repeat (first | exact Below.refl _ _ | exact GY.out | refine Below.drew ?_ | refine Below.alloc ?_ (by simp) _ | refine Below.setCell ?_ (by simp) _))
                  clear hK K
                  try simp only [Act.put, setA, setZ, setS]
                  refine take_now 15 rfl ?_
                  try simp only [Act.put, setA, setZ, setS]
                  refine wpAnyH_done (by kernel_rfl) ?_ _
                  go_wp2_with fail
                  go_ret
                  exact ⟨ret_bool (by rw [HLU.out, HNX.out, HQY.out]; rfl), HVU.out.trans ((HW.out.trans (GY.out.mono HW.out.size)).mono HVU.out.size)⟩
                · have HQY := Lib.hid hq
                  clear hq
                  go_wp2_with fail
                  clear x0 x1 x2 x3 x4
                  refine wp_region_held_drew (S := (fun W => W.cell? ⟨w.heap.size, 0, none⟩ = some (.slice E en ek) ∧ W.cell? ⟨w.heap.size, 1, none⟩ = some (.slice (some a) p.nodes.length ck) ∧ W.cell? ⟨w.heap.size + 1, 0, none⟩ = some (.int .i64 11) ∧ W.cell? ⟨w.heap.size + 1, 4, none⟩ = some (.slice (some e) ks.length c) ∧ W.cell? (e.add (j * 5)) = some (.int .i64 o1) ∧ W.cell? { block := (e.add (j * 5)).block, off := (e.add (j * 5)).off + 1 } = some (.string s1) ∧ W.cell? { block := (e.add (j * 5)).block, off := (e.add (j * 5)).off + 2 } = some (.int .i64 n1) ∧ W.cell? { block := (e.add (j * 5)).block, off := (e.add (j * 5)).off + 3 } = some (.slice A1 m1 k1) ∧ W.cell? { block := (e.add (j * 5)).block, off := (e.add (j * 5)).off + 4 } = some (.slice A2 m2 k2))) (by kernel_rfl) ?_ (fun hHeld => ?_)
                  · exact KEEP.out _ (Below.refl _ _).drew
                  refine take_now 0 rfl ?_
                  try simp only [Act.put, setA, setZ, setS]
                  refine take_now 1 rfl ?_
                  try simp only [Act.put, setA, setZ, setS]
                  refine take_now 2 rfl ?_
                  try simp only [Act.put, setA, setZ, setS]
                  refine take_now 3 rfl ?_
                  try simp only [Act.put, setA, setZ, setS]
                  refine take_now 4 rfl ?_
                  try simp only [Act.put, setA, setZ, setS]
                  refine take_now 5 rfl ?_
                  try simp only [Act.put, setA, setZ, setS]
                  refine take_now 6 rfl ?_
                  try simp only [Act.put, setA, setZ, setS]
                  refine take_now 7 rfl ?_
                  try simp only [Act.put, setA, setZ, setS]
                  refine take_now 8 rfl ?_
                  try simp only [Act.put, setA, setZ, setS]
                  refine take_now 9 rfl ?_
                  try simp only [Act.put, setA, setZ, setS]
                  refine take_now 10 rfl ?_
                  try simp only [Act.put, setA, setZ, setS]
                  refine take_now 11 rfl ?_
                  try simp only [Act.put, setA, setZ, setS]
                  refine take_now 12 rfl ?_
                  try simp only [Act.put, setA, setZ, setS]
                  refine take_now 13 rfl ?_
                  try simp only [Act.put, setA, setZ, setS]
                  refine only_at 14 (by kernel_rfl) rfl (fun K hK => ?_)
                  go_simp
                  (go_at_call 80
                   (with_reducible refine (hih.out _ _ _ HBQ.out.drew).mono ?_)
                   rintro e' w7 ⟨he, hb7⟩
                   rw [HQY.out] at he
                   subst he
                   obtain ⟨Y, rfl⟩ : ∃ W, W = w7 := ⟨_, rfl⟩
                   have GY := Lib.hid ((Below.refl wq.heap.size wq).drew.trans hb7)
                   clear hb7)
                  refine hK.out _ _ (KEEP.out _ ?_) (fun hHeld => ?_)
                  · (repeat (first | exact Below.refl _ _ | exact GY.out | refine Below.drew ?_ | refine Below.alloc ?_ (by simp) _ | refine Below.setCell ?_ (by simp) _))
                  clear hK K
                  try simp only [Act.put, setA, setZ, setS]
                  refine take_now 15 rfl ?_
                  try simp only [Act.put, setA, setZ, setS]
                  refine wpAnyH_done (by kernel_rfl) ?_ _
                  go_wp2_with fail
                  go_roundg (ks.length - (j + 1))
                  case measure => have := HJ.out; omega
                  case rel => exact ⟨j + 1, by omega, by go_num, by rw [HNX.out, HQY.out, Bool.true_and, decide_eq_false (Nat.succ_ne_zero j)], HW.out.trans (GY.out.mono HW.out.size)⟩
              · have hje : j = ks.length := by omega
                have HN := Lib.hid (show usesXs sn 11 r false true ks = true by rw [HUX.out, hje, List.drop_length]; rfl)
                clear hje
                go_wp2_with fail
                go_ret
                exact ⟨ret_bool (by rw [HLU.out, HN.out]), HVU.out.trans (HW.out.mono HVU.out.size)⟩
      · go_wp2_with fail
        go_ret
        exact ⟨ret_bool (by rw [HQ.out, HUN.out]; rfl), HV.out.trans (GU.out.mono HV.out.size)⟩
    have d11 : (op == 11) = false := by simpa using h11
    clear h11
    by_cases h12 : op = 12
    · subst h12
      have HUN := Lib.hid (usesName_12 (s := sn) (nm := nm) (cs := cs) (k := ks.length) (r := r) (u := u))
      obtain ⟨r3, hr3⟩ : ∃ t, allCons p.enums cs = t := ⟨_, rfl⟩
      have HA := Lib.hid hr3
      rw [HCOMP.out (HNE1.out (.inr (.inl rfl))), hr3] at HUN
      clear hr3
      obtain ⟨f, hf⟩ : ∃ f, (varsQ n).contains nm = f := ⟨_, rfl⟩
      have HF := Lib.hid hf
      rw [HSV.out, hf] at HUN
      clear hf
      have HW2 := Lib.hid (show Below w.heap.size w ((w.alloc (.cells #[.slice E en ek, .slice (some a) p.nodes.length ck] 25)).alloc (.cells #[.int .i64 12, .string (str nm), .int .i64 m, .slice cA cs.length cc, .slice A ks.length c] 50)) from (((Below.refl w.heap.size w).alloc (by simp) _).alloc (by simp <;> omega) _))
      go_enter Tryz.func80, Tryz.ntmps80
      cases u
      · cases f
        · go_wp2_with (first
            | (go_at_call 18
               (with_reducible refine (HVARS.out _ (HB.out.trans (HW2.out.mono hsz))).mono ?_)
               rintro e' w7 ⟨v8, rfl, ho8, hb8⟩
               obtain ⟨vA, vn, vk, rfl, hvn⟩ := ho8.shape
               obtain ⟨V, rfl⟩ : ∃ W, W = w7 := ⟨_, rfl⟩
               have HVS := Lib.hid ho8.strs
               have HV := Lib.hid (HW2.out.trans (hb8.mono HW2.out.size))
               have BP := Lib.hid (show V.heap[w.heap.size]? = some (.cells #[.slice E en ek, .slice (some a) p.nodes.length ck] 25 (0, 0)) from box_next hb8 (alloc_below (heap_alloc_new w _)))
               have BX := Lib.hid (show V.heap[w.heap.size + 1]? = some (.cells #[.int .i64 12, .string (str nm), .int .i64 m, .slice cA cs.length cc, .slice A ks.length c] 50 (0, 0)) from box_next hb8 (alloc_at (by simp)))
               have HBV := Lib.hid (HB.out.trans (HV.out.mono hsz))
               have hszV := HBV.out.size
               obtain ⟨p0, p1⟩ := row2 BP.out
               obtain ⟨x0, x1, x2, x3, x4⟩ := row5 BX.out
               clear ho8 hb8 hvn)
            | (go_at_call 21
               (with_reducible refine (has_post HVS.out nm).mono ?_)
               rintro e' w8 ⟨he, hb8⟩
               rw [HF.out] at he
               subst he
               obtain ⟨U1, rfl⟩ : ∃ W, W = w8 := ⟨_, rfl⟩
               have GU1 := Lib.hid hb8
               obtain ⟨p0, p1⟩ := row2 (box_next GU1.out BP.out)
               obtain ⟨x0, x1, x2, x3, x4⟩ := row5 (box_next GU1.out BX.out)
               clear hb8))
          go_ret
          exact ⟨ret_bool (by rw [HQ.out, HUN.out]; rfl), HV.out.trans (GU1.out.mono HV.out.size)⟩
        · cases r3
          · go_wp2_with (first
              | (go_at_call 18
                 (with_reducible refine (HVARS.out _ (HB.out.trans (HW2.out.mono hsz))).mono ?_)
                 rintro e' w7 ⟨v8, rfl, ho8, hb8⟩
                 obtain ⟨vA, vn, vk, rfl, hvn⟩ := ho8.shape
                 obtain ⟨V, rfl⟩ : ∃ W, W = w7 := ⟨_, rfl⟩
                 have HVS := Lib.hid ho8.strs
                 have HV := Lib.hid (HW2.out.trans (hb8.mono HW2.out.size))
                 have BP := Lib.hid (show V.heap[w.heap.size]? = some (.cells #[.slice E en ek, .slice (some a) p.nodes.length ck] 25 (0, 0)) from box_next hb8 (alloc_below (heap_alloc_new w _)))
                 have BX := Lib.hid (show V.heap[w.heap.size + 1]? = some (.cells #[.int .i64 12, .string (str nm), .int .i64 m, .slice cA cs.length cc, .slice A ks.length c] 50 (0, 0)) from box_next hb8 (alloc_at (by simp)))
                 have HBV := Lib.hid (HB.out.trans (HV.out.mono hsz))
                 have hszV := HBV.out.size
                 obtain ⟨p0, p1⟩ := row2 BP.out
                 obtain ⟨x0, x1, x2, x3, x4⟩ := row5 BX.out
                 clear ho8 hb8 hvn)
              | (go_at_call 21
                 (with_reducible refine (has_post HVS.out nm).mono ?_)
                 rintro e' w8 ⟨he, hb8⟩
                 rw [HF.out] at he
                 subst he
                 obtain ⟨U1, rfl⟩ : ∃ W, W = w8 := ⟨_, rfl⟩
                 have GU1 := Lib.hid hb8
                 obtain ⟨p0, p1⟩ := row2 (box_next GU1.out BP.out)
                 obtain ⟨x0, x1, x2, x3, x4⟩ := row5 (box_next GU1.out BX.out)
                 clear hb8)
              | (go_at_call 104
                 (with_reducible refine (HALL.out _ (HBV.out.trans (GU1.out.mono hszV))).mono ?_)
                 rintro e' w8 ⟨he, hb8⟩
                 rw [HA.out] at he
                 subst he
                 obtain ⟨U2, rfl⟩ : ∃ W, W = w8 := ⟨_, rfl⟩
                 have GU2 := Lib.hid (GU1.out.trans (hb8.mono GU1.out.size))
                 obtain ⟨p0, p1⟩ := row2 (box_next GU2.out BP.out)
                 obtain ⟨x0, x1, x2, x3, x4⟩ := row5 (box_next GU2.out BX.out)
                 clear hb8))
            go_ret
            exact ⟨ret_bool (by rw [HQ.out, HUN.out]; rfl), HV.out.trans (GU2.out.mono HV.out.size)⟩
          · have HLU := Lib.hid (show usesX sn r false (.mk 12 nm m cs ks) = usesXs sn 12 r false true ks by rw [HQ.out, HUN.out]; rfl)
            go_wp2_with (first
              | (go_at_call 18
                 (with_reducible refine (HVARS.out _ (HB.out.trans (HW2.out.mono hsz))).mono ?_)
                 rintro e' w7 ⟨v8, rfl, ho8, hb8⟩
                 obtain ⟨vA, vn, vk, rfl, hvn⟩ := ho8.shape
                 obtain ⟨V, rfl⟩ : ∃ W, W = w7 := ⟨_, rfl⟩
                 have HVS := Lib.hid ho8.strs
                 have HV := Lib.hid (HW2.out.trans (hb8.mono HW2.out.size))
                 have BP := Lib.hid (show V.heap[w.heap.size]? = some (.cells #[.slice E en ek, .slice (some a) p.nodes.length ck] 25 (0, 0)) from box_next hb8 (alloc_below (heap_alloc_new w _)))
                 have BX := Lib.hid (show V.heap[w.heap.size + 1]? = some (.cells #[.int .i64 12, .string (str nm), .int .i64 m, .slice cA cs.length cc, .slice A ks.length c] 50 (0, 0)) from box_next hb8 (alloc_at (by simp)))
                 have HBV := Lib.hid (HB.out.trans (HV.out.mono hsz))
                 have hszV := HBV.out.size
                 obtain ⟨p0, p1⟩ := row2 BP.out
                 obtain ⟨x0, x1, x2, x3, x4⟩ := row5 BX.out
                 clear ho8 hb8 hvn)
              | (go_at_call 21
                 (with_reducible refine (has_post HVS.out nm).mono ?_)
                 rintro e' w8 ⟨he, hb8⟩
                 rw [HF.out] at he
                 subst he
                 obtain ⟨U1, rfl⟩ : ∃ W, W = w8 := ⟨_, rfl⟩
                 have GU1 := Lib.hid hb8
                 obtain ⟨p0, p1⟩ := row2 (box_next GU1.out BP.out)
                 obtain ⟨x0, x1, x2, x3, x4⟩ := row5 (box_next GU1.out BX.out)
                 clear hb8)
              | (go_at_call 104
                 (with_reducible refine (HALL.out _ (HBV.out.trans (GU1.out.mono hszV))).mono ?_)
                 rintro e' w8 ⟨he, hb8⟩
                 rw [HA.out] at he
                 subst he
                 obtain ⟨U2, rfl⟩ : ∃ W, W = w8 := ⟨_, rfl⟩
                 have GU2 := Lib.hid (GU1.out.trans (hb8.mono GU1.out.size))
                 obtain ⟨p0, p1⟩ := row2 (box_next GU2.out BP.out)
                 obtain ⟨x0, x1, x2, x3, x4⟩ := row5 (box_next GU2.out BX.out)
                 clear hb8))
            have BPU := Lib.hid (box_next GU2.out BP.out)
            have BXU := Lib.hid (box_next GU2.out BX.out)
            have HVU := Lib.hid (HV.out.trans (GU2.out.mono HV.out.size))
            have HBU := Lib.hid (HB.out.trans (HVU.out.mono hsz))
            have hszU := HBU.out.size
            clear p0 p1 x0 x1 x2 x3 x4
            go_loopg [18] ks.length (fun g v wr => ∃ j : Nat, j + g = ks.length ∧ v = .int .i64 j ∧ usesXs sn 12 r false true ks = usesXs sn 12 r false (decide (j = 0)) (ks.drop j) ∧ Below U2.heap.size U2 wr)
            case atStart => exact ⟨0, by omega, rfl, by simp, Below.refl _ _⟩
            case round =>
              obtain ⟨wq, rfl⟩ : ∃ W, W = wr := ⟨_, rfl⟩
              obtain ⟨j, hjg, rfl, hu, hbw⟩ := hrel
              have HJ := Lib.hid hjg
              have HUX := Lib.hid hu
              have HW := Lib.hid hbw
              have HBQ := Lib.hid (HBU.out.trans (hbw.mono hszU))
              obtain ⟨x0, x1, x2, x3, x4⟩ := row5 (box_next hbw BXU.out)
              have hjl : j ≤ ks.length := by omega
              clear hjg hu hbw
              by_cases hlt : j < ks.length
              · obtain ⟨y, hy⟩ : ∃ y, ks[j]? = some y := ⟨_, List.getElem?_eq_getElem hlt⟩
                have hC := hkk j y hy
                have hih := Lib.hid (ih j y hy (HRK.out y (List.mem_of_getElem? hy)))
                have hxk := hx j y hy
                have HD := Lib.hid (drop_consS hy)
                obtain ⟨o1, s1, n1, A1, m1, k1, A2, m2, k2, hLL⟩ := hxk.shape
                generalize Ck j = LL at hC hih hxk hLL
                subst hLL
                have HEC := Lib.hid hC
                obtain ⟨e, rfl, _, _, _, _, _, _, _⟩ := elem5 (hC.under HBQ.out)
                have HNX := Lib.hid (show usesXs sn 12 r false true ks = (usesX sn (kidR 12 r j) false y && usesXs sn 12 r false false (ks.drop (j + 1))) by
                  rw [HUX.out, HD.out, usesXs_cons]
                  congr 2 <;> (unfold kidR; by_cases h0 : j = 0 <;> simp [h0]))
                have KEEP := Lib.hid (show ∀ W, Below wq.heap.size wq W → (fun W => W.cell? ⟨w.heap.size, 0, none⟩ = some (.slice E en ek) ∧ W.cell? ⟨w.heap.size, 1, none⟩ = some (.slice (some a) p.nodes.length ck) ∧ W.cell? ⟨w.heap.size + 1, 0, none⟩ = some (.int .i64 12) ∧ W.cell? ⟨w.heap.size + 1, 4, none⟩ = some (.slice (some e) ks.length c) ∧ W.cell? (e.add (j * 5)) = some (.int .i64 o1) ∧ W.cell? { block := (e.add (j * 5)).block, off := (e.add (j * 5)).off + 1 } = some (.string s1) ∧ W.cell? { block := (e.add (j * 5)).block, off := (e.add (j * 5)).off + 2 } = some (.int .i64 n1) ∧ W.cell? { block := (e.add (j * 5)).block, off := (e.add (j * 5)).off + 3 } = some (.slice A1 m1 k1) ∧ W.cell? { block := (e.add (j * 5)).block, off := (e.add (j * 5)).off + 4 } = some (.slice A2 m2 k2)) W from
                  fun W hW => by
                    obtain ⟨e2, ee2, _, _, d0, d1, d2, d3, d4⟩ := elem5 (HEC.out.under (HBQ.out.trans (hW.mono HBQ.out.size)))
                    cases ee2
                    obtain ⟨p0, p1⟩ := row2 (box_next hW (box_next HW.out BPU.out))
                    obtain ⟨x0, _, _, _, x4⟩ := row5 (box_next hW (box_next HW.out BXU.out))
                    exact ⟨p0, p1, x0, x4, d0, d1, d2, d3, d4⟩)
                clear hC hxk hy
                have HKR := Lib.hid (show kidR 12 r j = 1 by unfold kidR; rw [if_neg (fun h => absurd h.1 (by decide))])
                rw [HKR.out] at HNX
                cases hq : usesX sn 1 false y
                · have HQY := Lib.hid hq
                  clear hq
                  go_wp2_with fail
                  clear x0 x1 x2 x3 x4
                  refine wp_region_held_drew (S := (fun W => W.cell? ⟨w.heap.size, 0, none⟩ = some (.slice E en ek) ∧ W.cell? ⟨w.heap.size, 1, none⟩ = some (.slice (some a) p.nodes.length ck) ∧ W.cell? ⟨w.heap.size + 1, 0, none⟩ = some (.int .i64 12) ∧ W.cell? ⟨w.heap.size + 1, 4, none⟩ = some (.slice (some e) ks.length c) ∧ W.cell? (e.add (j * 5)) = some (.int .i64 o1) ∧ W.cell? { block := (e.add (j * 5)).block, off := (e.add (j * 5)).off + 1 } = some (.string s1) ∧ W.cell? { block := (e.add (j * 5)).block, off := (e.add (j * 5)).off + 2 } = some (.int .i64 n1) ∧ W.cell? { block := (e.add (j * 5)).block, off := (e.add (j * 5)).off + 3 } = some (.slice A1 m1 k1) ∧ W.cell? { block := (e.add (j * 5)).block, off := (e.add (j * 5)).off + 4 } = some (.slice A2 m2 k2))) (by kernel_rfl) ?_ (fun hHeld => ?_)
                  · exact KEEP.out _ (Below.refl _ _).drew
                  refine take_now 0 rfl ?_
                  try simp only [Act.put, setA, setZ, setS]
                  refine take_now 1 rfl ?_
                  try simp only [Act.put, setA, setZ, setS]
                  refine take_now 2 rfl ?_
                  try simp only [Act.put, setA, setZ, setS]
                  refine take_now 3 rfl ?_
                  try simp only [Act.put, setA, setZ, setS]
                  refine take_now 4 rfl ?_
                  try simp only [Act.put, setA, setZ, setS]
                  refine take_now 5 rfl ?_
                  try simp only [Act.put, setA, setZ, setS]
                  refine take_now 6 rfl ?_
                  try simp only [Act.put, setA, setZ, setS]
                  refine take_now 7 rfl ?_
                  try simp only [Act.put, setA, setZ, setS]
                  refine take_now 8 rfl ?_
                  try simp only [Act.put, setA, setZ, setS]
                  refine take_now 9 rfl ?_
                  try simp only [Act.put, setA, setZ, setS]
                  refine take_now 10 rfl ?_
                  try simp only [Act.put, setA, setZ, setS]
                  refine take_now 11 rfl ?_
                  try simp only [Act.put, setA, setZ, setS]
                  refine take_now 12 rfl ?_
                  try simp only [Act.put, setA, setZ, setS]
                  refine take_now 13 rfl ?_
                  try simp only [Act.put, setA, setZ, setS]
                  refine only_at 14 (by kernel_rfl) rfl (fun K hK => ?_)
                  go_simp
                  (go_at_call 80
                   (with_reducible refine (hih.out _ _ _ HBQ.out.drew).mono ?_)
                   rintro e' w7 ⟨he, hb7⟩
                   rw [HQY.out] at he
                   subst he
                   obtain ⟨Y, rfl⟩ : ∃ W, W = w7 := ⟨_, rfl⟩
                   have GY := Lib.hid ((Below.refl wq.heap.size wq).drew.trans hb7)
                   clear hb7)
                  refine hK.out _ _ (KEEP.out _ ?_) (fun hHeld => ?_)
                  · (repeat (first | exact Below.refl _ _ | exact GY.out | refine Below.drew ?_ | refine Below.alloc ?_ (by simp) _ | refine Below.setCell ?_ (by simp) _))
                  clear hK K
                  try simp only [Act.put, setA, setZ, setS]
                  refine take_now 15 rfl ?_
                  try simp only [Act.put, setA, setZ, setS]
                  refine wpAnyH_done (by kernel_rfl) ?_ _
                  go_wp2_with fail
                  go_ret
                  exact ⟨ret_bool (by rw [HLU.out, HNX.out, HQY.out]; rfl), HVU.out.trans ((HW.out.trans (GY.out.mono HW.out.size)).mono HVU.out.size)⟩
                · have HQY := Lib.hid hq
                  clear hq
                  go_wp2_with fail
                  clear x0 x1 x2 x3 x4
                  refine wp_region_held_drew (S := (fun W => W.cell? ⟨w.heap.size, 0, none⟩ = some (.slice E en ek) ∧ W.cell? ⟨w.heap.size, 1, none⟩ = some (.slice (some a) p.nodes.length ck) ∧ W.cell? ⟨w.heap.size + 1, 0, none⟩ = some (.int .i64 12) ∧ W.cell? ⟨w.heap.size + 1, 4, none⟩ = some (.slice (some e) ks.length c) ∧ W.cell? (e.add (j * 5)) = some (.int .i64 o1) ∧ W.cell? { block := (e.add (j * 5)).block, off := (e.add (j * 5)).off + 1 } = some (.string s1) ∧ W.cell? { block := (e.add (j * 5)).block, off := (e.add (j * 5)).off + 2 } = some (.int .i64 n1) ∧ W.cell? { block := (e.add (j * 5)).block, off := (e.add (j * 5)).off + 3 } = some (.slice A1 m1 k1) ∧ W.cell? { block := (e.add (j * 5)).block, off := (e.add (j * 5)).off + 4 } = some (.slice A2 m2 k2))) (by kernel_rfl) ?_ (fun hHeld => ?_)
                  · exact KEEP.out _ (Below.refl _ _).drew
                  refine take_now 0 rfl ?_
                  try simp only [Act.put, setA, setZ, setS]
                  refine take_now 1 rfl ?_
                  try simp only [Act.put, setA, setZ, setS]
                  refine take_now 2 rfl ?_
                  try simp only [Act.put, setA, setZ, setS]
                  refine take_now 3 rfl ?_
                  try simp only [Act.put, setA, setZ, setS]
                  refine take_now 4 rfl ?_
                  try simp only [Act.put, setA, setZ, setS]
                  refine take_now 5 rfl ?_
                  try simp only [Act.put, setA, setZ, setS]
                  refine take_now 6 rfl ?_
                  try simp only [Act.put, setA, setZ, setS]
                  refine take_now 7 rfl ?_
                  try simp only [Act.put, setA, setZ, setS]
                  refine take_now 8 rfl ?_
                  try simp only [Act.put, setA, setZ, setS]
                  refine take_now 9 rfl ?_
                  try simp only [Act.put, setA, setZ, setS]
                  refine take_now 10 rfl ?_
                  try simp only [Act.put, setA, setZ, setS]
                  refine take_now 11 rfl ?_
                  try simp only [Act.put, setA, setZ, setS]
                  refine take_now 12 rfl ?_
                  try simp only [Act.put, setA, setZ, setS]
                  refine take_now 13 rfl ?_
                  try simp only [Act.put, setA, setZ, setS]
                  refine only_at 14 (by kernel_rfl) rfl (fun K hK => ?_)
                  go_simp
                  (go_at_call 80
                   (with_reducible refine (hih.out _ _ _ HBQ.out.drew).mono ?_)
                   rintro e' w7 ⟨he, hb7⟩
                   rw [HQY.out] at he
                   subst he
                   obtain ⟨Y, rfl⟩ : ∃ W, W = w7 := ⟨_, rfl⟩
                   have GY := Lib.hid ((Below.refl wq.heap.size wq).drew.trans hb7)
                   clear hb7)
                  refine hK.out _ _ (KEEP.out _ ?_) (fun hHeld => ?_)
                  · (repeat (first | exact Below.refl _ _ | exact GY.out | refine Below.drew ?_ | refine Below.alloc ?_ (by simp) _ | refine Below.setCell ?_ (by simp) _))
                  clear hK K
                  try simp only [Act.put, setA, setZ, setS]
                  refine take_now 15 rfl ?_
                  try simp only [Act.put, setA, setZ, setS]
                  refine wpAnyH_done (by kernel_rfl) ?_ _
                  go_wp2_with fail
                  go_roundg (ks.length - (j + 1))
                  case measure => have := HJ.out; omega
                  case rel => exact ⟨j + 1, by omega, by go_num, by rw [HNX.out, HQY.out, Bool.true_and, decide_eq_false (Nat.succ_ne_zero j)], HW.out.trans (GY.out.mono HW.out.size)⟩
              · have hje : j = ks.length := by omega
                have HN := Lib.hid (show usesXs sn 12 r false true ks = true by rw [HUX.out, hje, List.drop_length]; rfl)
                clear hje
                go_wp2_with fail
                go_ret
                exact ⟨ret_bool (by rw [HLU.out, HN.out]), HVU.out.trans (HW.out.mono HVU.out.size)⟩
      · go_wp2_with (go_at_call 18
                     (with_reducible refine (HVARS.out _ (HB.out.trans (HW2.out.mono hsz))).mono ?_)
                     rintro e' w7 ⟨v8, rfl, ho8, hb8⟩
                     obtain ⟨vA, vn, vk, rfl, hvn⟩ := ho8.shape
                     obtain ⟨V, rfl⟩ : ∃ W, W = w7 := ⟨_, rfl⟩
                     have HVS := Lib.hid ho8.strs
                     have HV := Lib.hid (HW2.out.trans (hb8.mono HW2.out.size))
                     have BP := Lib.hid (show V.heap[w.heap.size]? = some (.cells #[.slice E en ek, .slice (some a) p.nodes.length ck] 25 (0, 0)) from box_next hb8 (alloc_below (heap_alloc_new w _)))
                     have BX := Lib.hid (show V.heap[w.heap.size + 1]? = some (.cells #[.int .i64 12, .string (str nm), .int .i64 m, .slice cA cs.length cc, .slice A ks.length c] 50 (0, 0)) from box_next hb8 (alloc_at (by simp)))
                     have HBV := Lib.hid (HB.out.trans (HV.out.mono hsz))
                     have hszV := HBV.out.size
                     obtain ⟨p0, p1⟩ := row2 BP.out
                     obtain ⟨x0, x1, x2, x3, x4⟩ := row5 BX.out
                     clear ho8 hb8 hvn)
        have GU0 := Lib.hid (Below.refl V.heap.size V)
        go_ret
        exact ⟨ret_bool (by rw [HQ.out, HUN.out]; rfl), HV.out.trans (GU0.out.mono HV.out.size)⟩
    have d12 : (op == 12) = false := by simpa using h12
    clear h12
    by_cases h13 : op = 13
    · subst h13
      have HUN := Lib.hid (usesName_13 (s := sn) (nm := nm) (cs := cs) (k := ks.length) (r := r) (u := u))
      obtain ⟨r3, hr3⟩ : ∃ t, allCons p.enums cs = t := ⟨_, rfl⟩
      have HA := Lib.hid hr3
      rw [HCOMP.out (HNE1.out (.inr (.inr rfl))), hr3] at HUN
      clear hr3
      obtain ⟨f, hf⟩ : ∃ f, (varsQ n).contains nm = f := ⟨_, rfl⟩
      have HF := Lib.hid hf
      rw [HSV.out, hf] at HUN
      clear hf
      have HW2 := Lib.hid (show Below w.heap.size w ((w.alloc (.cells #[.slice E en ek, .slice (some a) p.nodes.length ck] 25)).alloc (.cells #[.int .i64 13, .string (str nm), .int .i64 m, .slice cA cs.length cc, .slice A ks.length c] 50)) from (((Below.refl w.heap.size w).alloc (by simp) _).alloc (by simp <;> omega) _))
      go_enter Tryz.func80, Tryz.ntmps80
      cases u
      · cases f
        · go_wp2_with (first
            | (go_at_call 18
               (with_reducible refine (HVARS.out _ (HB.out.trans (HW2.out.mono hsz))).mono ?_)
               rintro e' w7 ⟨v8, rfl, ho8, hb8⟩
               obtain ⟨vA, vn, vk, rfl, hvn⟩ := ho8.shape
               obtain ⟨V, rfl⟩ : ∃ W, W = w7 := ⟨_, rfl⟩
               have HVS := Lib.hid ho8.strs
               have HV := Lib.hid (HW2.out.trans (hb8.mono HW2.out.size))
               have BP := Lib.hid (show V.heap[w.heap.size]? = some (.cells #[.slice E en ek, .slice (some a) p.nodes.length ck] 25 (0, 0)) from box_next hb8 (alloc_below (heap_alloc_new w _)))
               have BX := Lib.hid (show V.heap[w.heap.size + 1]? = some (.cells #[.int .i64 13, .string (str nm), .int .i64 m, .slice cA cs.length cc, .slice A ks.length c] 50 (0, 0)) from box_next hb8 (alloc_at (by simp)))
               have HBV := Lib.hid (HB.out.trans (HV.out.mono hsz))
               have hszV := HBV.out.size
               obtain ⟨p0, p1⟩ := row2 BP.out
               obtain ⟨x0, x1, x2, x3, x4⟩ := row5 BX.out
               clear ho8 hb8 hvn)
            | (go_at_call 21
               (with_reducible refine (has_post HVS.out nm).mono ?_)
               rintro e' w8 ⟨he, hb8⟩
               rw [HF.out] at he
               subst he
               obtain ⟨U1, rfl⟩ : ∃ W, W = w8 := ⟨_, rfl⟩
               have GU1 := Lib.hid hb8
               obtain ⟨p0, p1⟩ := row2 (box_next GU1.out BP.out)
               obtain ⟨x0, x1, x2, x3, x4⟩ := row5 (box_next GU1.out BX.out)
               clear hb8))
          go_ret
          exact ⟨ret_bool (by rw [HQ.out, HUN.out]; rfl), HV.out.trans (GU1.out.mono HV.out.size)⟩
        · cases r3
          · go_wp2_with (first
              | (go_at_call 18
                 (with_reducible refine (HVARS.out _ (HB.out.trans (HW2.out.mono hsz))).mono ?_)
                 rintro e' w7 ⟨v8, rfl, ho8, hb8⟩
                 obtain ⟨vA, vn, vk, rfl, hvn⟩ := ho8.shape
                 obtain ⟨V, rfl⟩ : ∃ W, W = w7 := ⟨_, rfl⟩
                 have HVS := Lib.hid ho8.strs
                 have HV := Lib.hid (HW2.out.trans (hb8.mono HW2.out.size))
                 have BP := Lib.hid (show V.heap[w.heap.size]? = some (.cells #[.slice E en ek, .slice (some a) p.nodes.length ck] 25 (0, 0)) from box_next hb8 (alloc_below (heap_alloc_new w _)))
                 have BX := Lib.hid (show V.heap[w.heap.size + 1]? = some (.cells #[.int .i64 13, .string (str nm), .int .i64 m, .slice cA cs.length cc, .slice A ks.length c] 50 (0, 0)) from box_next hb8 (alloc_at (by simp)))
                 have HBV := Lib.hid (HB.out.trans (HV.out.mono hsz))
                 have hszV := HBV.out.size
                 obtain ⟨p0, p1⟩ := row2 BP.out
                 obtain ⟨x0, x1, x2, x3, x4⟩ := row5 BX.out
                 clear ho8 hb8 hvn)
              | (go_at_call 21
                 (with_reducible refine (has_post HVS.out nm).mono ?_)
                 rintro e' w8 ⟨he, hb8⟩
                 rw [HF.out] at he
                 subst he
                 obtain ⟨U1, rfl⟩ : ∃ W, W = w8 := ⟨_, rfl⟩
                 have GU1 := Lib.hid hb8
                 obtain ⟨p0, p1⟩ := row2 (box_next GU1.out BP.out)
                 obtain ⟨x0, x1, x2, x3, x4⟩ := row5 (box_next GU1.out BX.out)
                 clear hb8)
              | (go_at_call 104
                 (with_reducible refine (HALL.out _ (HBV.out.trans (GU1.out.mono hszV))).mono ?_)
                 rintro e' w8 ⟨he, hb8⟩
                 rw [HA.out] at he
                 subst he
                 obtain ⟨U2, rfl⟩ : ∃ W, W = w8 := ⟨_, rfl⟩
                 have GU2 := Lib.hid (GU1.out.trans (hb8.mono GU1.out.size))
                 obtain ⟨p0, p1⟩ := row2 (box_next GU2.out BP.out)
                 obtain ⟨x0, x1, x2, x3, x4⟩ := row5 (box_next GU2.out BX.out)
                 clear hb8))
            go_ret
            exact ⟨ret_bool (by rw [HQ.out, HUN.out]; rfl), HV.out.trans (GU2.out.mono HV.out.size)⟩
          · have HLU := Lib.hid (show usesX sn r false (.mk 13 nm m cs ks) = usesXs sn 13 r true true ks by rw [HQ.out, HUN.out]; rfl)
            go_wp2_with (first
              | (go_at_call 18
                 (with_reducible refine (HVARS.out _ (HB.out.trans (HW2.out.mono hsz))).mono ?_)
                 rintro e' w7 ⟨v8, rfl, ho8, hb8⟩
                 obtain ⟨vA, vn, vk, rfl, hvn⟩ := ho8.shape
                 obtain ⟨V, rfl⟩ : ∃ W, W = w7 := ⟨_, rfl⟩
                 have HVS := Lib.hid ho8.strs
                 have HV := Lib.hid (HW2.out.trans (hb8.mono HW2.out.size))
                 have BP := Lib.hid (show V.heap[w.heap.size]? = some (.cells #[.slice E en ek, .slice (some a) p.nodes.length ck] 25 (0, 0)) from box_next hb8 (alloc_below (heap_alloc_new w _)))
                 have BX := Lib.hid (show V.heap[w.heap.size + 1]? = some (.cells #[.int .i64 13, .string (str nm), .int .i64 m, .slice cA cs.length cc, .slice A ks.length c] 50 (0, 0)) from box_next hb8 (alloc_at (by simp)))
                 have HBV := Lib.hid (HB.out.trans (HV.out.mono hsz))
                 have hszV := HBV.out.size
                 obtain ⟨p0, p1⟩ := row2 BP.out
                 obtain ⟨x0, x1, x2, x3, x4⟩ := row5 BX.out
                 clear ho8 hb8 hvn)
              | (go_at_call 21
                 (with_reducible refine (has_post HVS.out nm).mono ?_)
                 rintro e' w8 ⟨he, hb8⟩
                 rw [HF.out] at he
                 subst he
                 obtain ⟨U1, rfl⟩ : ∃ W, W = w8 := ⟨_, rfl⟩
                 have GU1 := Lib.hid hb8
                 obtain ⟨p0, p1⟩ := row2 (box_next GU1.out BP.out)
                 obtain ⟨x0, x1, x2, x3, x4⟩ := row5 (box_next GU1.out BX.out)
                 clear hb8)
              | (go_at_call 104
                 (with_reducible refine (HALL.out _ (HBV.out.trans (GU1.out.mono hszV))).mono ?_)
                 rintro e' w8 ⟨he, hb8⟩
                 rw [HA.out] at he
                 subst he
                 obtain ⟨U2, rfl⟩ : ∃ W, W = w8 := ⟨_, rfl⟩
                 have GU2 := Lib.hid (GU1.out.trans (hb8.mono GU1.out.size))
                 obtain ⟨p0, p1⟩ := row2 (box_next GU2.out BP.out)
                 obtain ⟨x0, x1, x2, x3, x4⟩ := row5 (box_next GU2.out BX.out)
                 clear hb8))
            have BPU := Lib.hid (box_next GU2.out BP.out)
            have BXU := Lib.hid (box_next GU2.out BX.out)
            have HVU := Lib.hid (HV.out.trans (GU2.out.mono HV.out.size))
            have HBU := Lib.hid (HB.out.trans (HVU.out.mono hsz))
            have hszU := HBU.out.size
            clear p0 p1 x0 x1 x2 x3 x4
            go_loopg [18] ks.length (fun g v wr => ∃ j : Nat, j + g = ks.length ∧ v = .int .i64 j ∧ usesXs sn 13 r true true ks = usesXs sn 13 r true (decide (j = 0)) (ks.drop j) ∧ Below U2.heap.size U2 wr)
            case atStart => exact ⟨0, by omega, rfl, by simp, Below.refl _ _⟩
            case round =>
              obtain ⟨wq, rfl⟩ : ∃ W, W = wr := ⟨_, rfl⟩
              obtain ⟨j, hjg, rfl, hu, hbw⟩ := hrel
              have HJ := Lib.hid hjg
              have HUX := Lib.hid hu
              have HW := Lib.hid hbw
              have HBQ := Lib.hid (HBU.out.trans (hbw.mono hszU))
              obtain ⟨x0, x1, x2, x3, x4⟩ := row5 (box_next hbw BXU.out)
              have hjl : j ≤ ks.length := by omega
              clear hjg hu hbw
              by_cases hlt : j < ks.length
              · obtain ⟨y, hy⟩ : ∃ y, ks[j]? = some y := ⟨_, List.getElem?_eq_getElem hlt⟩
                have hC := hkk j y hy
                have hih := Lib.hid (ih j y hy (HRK.out y (List.mem_of_getElem? hy)))
                have hxk := hx j y hy
                have HD := Lib.hid (drop_consS hy)
                obtain ⟨o1, s1, n1, A1, m1, k1, A2, m2, k2, hLL⟩ := hxk.shape
                generalize Ck j = LL at hC hih hxk hLL
                subst hLL
                have HEC := Lib.hid hC
                obtain ⟨e, rfl, _, _, _, _, _, _, _⟩ := elem5 (hC.under HBQ.out)
                have HNX := Lib.hid (show usesXs sn 13 r true true ks = (usesX sn (kidR 13 r j) true y && usesXs sn 13 r true false (ks.drop (j + 1))) by
                  rw [HUX.out, HD.out, usesXs_cons]
                  congr 2 <;> (unfold kidR; by_cases h0 : j = 0 <;> simp [h0]))
                have KEEP := Lib.hid (show ∀ W, Below wq.heap.size wq W → (fun W => W.cell? ⟨w.heap.size, 0, none⟩ = some (.slice E en ek) ∧ W.cell? ⟨w.heap.size, 1, none⟩ = some (.slice (some a) p.nodes.length ck) ∧ W.cell? ⟨w.heap.size + 1, 0, none⟩ = some (.int .i64 13) ∧ W.cell? ⟨w.heap.size + 1, 4, none⟩ = some (.slice (some e) ks.length c) ∧ W.cell? (e.add (j * 5)) = some (.int .i64 o1) ∧ W.cell? { block := (e.add (j * 5)).block, off := (e.add (j * 5)).off + 1 } = some (.string s1) ∧ W.cell? { block := (e.add (j * 5)).block, off := (e.add (j * 5)).off + 2 } = some (.int .i64 n1) ∧ W.cell? { block := (e.add (j * 5)).block, off := (e.add (j * 5)).off + 3 } = some (.slice A1 m1 k1) ∧ W.cell? { block := (e.add (j * 5)).block, off := (e.add (j * 5)).off + 4 } = some (.slice A2 m2 k2)) W from
                  fun W hW => by
                    obtain ⟨e2, ee2, _, _, d0, d1, d2, d3, d4⟩ := elem5 (HEC.out.under (HBQ.out.trans (hW.mono HBQ.out.size)))
                    cases ee2
                    obtain ⟨p0, p1⟩ := row2 (box_next hW (box_next HW.out BPU.out))
                    obtain ⟨x0, _, _, _, x4⟩ := row5 (box_next hW (box_next HW.out BXU.out))
                    exact ⟨p0, p1, x0, x4, d0, d1, d2, d3, d4⟩)
                clear hC hxk hy
                have HKR := Lib.hid (show kidR 13 r j = 1 by unfold kidR; rw [if_neg (fun h => absurd h.1 (by decide))])
                rw [HKR.out] at HNX
                cases hq : usesX sn 1 true y
                · have HQY := Lib.hid hq
                  clear hq
                  go_wp2_with fail
                  clear x0 x1 x2 x3 x4
                  refine wp_region_held_drew (S := (fun W => W.cell? ⟨w.heap.size, 0, none⟩ = some (.slice E en ek) ∧ W.cell? ⟨w.heap.size, 1, none⟩ = some (.slice (some a) p.nodes.length ck) ∧ W.cell? ⟨w.heap.size + 1, 0, none⟩ = some (.int .i64 13) ∧ W.cell? ⟨w.heap.size + 1, 4, none⟩ = some (.slice (some e) ks.length c) ∧ W.cell? (e.add (j * 5)) = some (.int .i64 o1) ∧ W.cell? { block := (e.add (j * 5)).block, off := (e.add (j * 5)).off + 1 } = some (.string s1) ∧ W.cell? { block := (e.add (j * 5)).block, off := (e.add (j * 5)).off + 2 } = some (.int .i64 n1) ∧ W.cell? { block := (e.add (j * 5)).block, off := (e.add (j * 5)).off + 3 } = some (.slice A1 m1 k1) ∧ W.cell? { block := (e.add (j * 5)).block, off := (e.add (j * 5)).off + 4 } = some (.slice A2 m2 k2))) (by kernel_rfl) ?_ (fun hHeld => ?_)
                  · exact KEEP.out _ (Below.refl _ _).drew
                  refine take_now 0 rfl ?_
                  try simp only [Act.put, setA, setZ, setS]
                  refine take_now 1 rfl ?_
                  try simp only [Act.put, setA, setZ, setS]
                  refine take_now 2 rfl ?_
                  try simp only [Act.put, setA, setZ, setS]
                  refine take_now 3 rfl ?_
                  try simp only [Act.put, setA, setZ, setS]
                  refine take_now 4 rfl ?_
                  try simp only [Act.put, setA, setZ, setS]
                  refine take_now 5 rfl ?_
                  try simp only [Act.put, setA, setZ, setS]
                  refine take_now 6 rfl ?_
                  try simp only [Act.put, setA, setZ, setS]
                  refine take_now 7 rfl ?_
                  try simp only [Act.put, setA, setZ, setS]
                  refine take_now 8 rfl ?_
                  try simp only [Act.put, setA, setZ, setS]
                  refine take_now 9 rfl ?_
                  try simp only [Act.put, setA, setZ, setS]
                  refine take_now 10 rfl ?_
                  try simp only [Act.put, setA, setZ, setS]
                  refine take_now 11 rfl ?_
                  try simp only [Act.put, setA, setZ, setS]
                  refine take_now 12 rfl ?_
                  try simp only [Act.put, setA, setZ, setS]
                  refine take_now 13 rfl ?_
                  try simp only [Act.put, setA, setZ, setS]
                  refine only_at 14 (by kernel_rfl) rfl (fun K hK => ?_)
                  go_simp
                  (go_at_call 80
                   (with_reducible refine (hih.out _ _ _ HBQ.out.drew).mono ?_)
                   rintro e' w7 ⟨he, hb7⟩
                   rw [HQY.out] at he
                   subst he
                   obtain ⟨Y, rfl⟩ : ∃ W, W = w7 := ⟨_, rfl⟩
                   have GY := Lib.hid ((Below.refl wq.heap.size wq).drew.trans hb7)
                   clear hb7)
                  refine hK.out _ _ (KEEP.out _ ?_) (fun hHeld => ?_)
                  · (repeat (first | exact Below.refl _ _ | exact GY.out | refine Below.drew ?_ | refine Below.alloc ?_ (by simp) _ | refine Below.setCell ?_ (by simp) _))
                  clear hK K
                  try simp only [Act.put, setA, setZ, setS]
                  refine take_now 15 rfl ?_
                  try simp only [Act.put, setA, setZ, setS]
                  refine wpAnyH_done (by kernel_rfl) ?_ _
                  go_wp2_with fail
                  go_ret
                  exact ⟨ret_bool (by rw [HLU.out, HNX.out, HQY.out]; rfl), HVU.out.trans ((HW.out.trans (GY.out.mono HW.out.size)).mono HVU.out.size)⟩
                · have HQY := Lib.hid hq
                  clear hq
                  go_wp2_with fail
                  clear x0 x1 x2 x3 x4
                  refine wp_region_held_drew (S := (fun W => W.cell? ⟨w.heap.size, 0, none⟩ = some (.slice E en ek) ∧ W.cell? ⟨w.heap.size, 1, none⟩ = some (.slice (some a) p.nodes.length ck) ∧ W.cell? ⟨w.heap.size + 1, 0, none⟩ = some (.int .i64 13) ∧ W.cell? ⟨w.heap.size + 1, 4, none⟩ = some (.slice (some e) ks.length c) ∧ W.cell? (e.add (j * 5)) = some (.int .i64 o1) ∧ W.cell? { block := (e.add (j * 5)).block, off := (e.add (j * 5)).off + 1 } = some (.string s1) ∧ W.cell? { block := (e.add (j * 5)).block, off := (e.add (j * 5)).off + 2 } = some (.int .i64 n1) ∧ W.cell? { block := (e.add (j * 5)).block, off := (e.add (j * 5)).off + 3 } = some (.slice A1 m1 k1) ∧ W.cell? { block := (e.add (j * 5)).block, off := (e.add (j * 5)).off + 4 } = some (.slice A2 m2 k2))) (by kernel_rfl) ?_ (fun hHeld => ?_)
                  · exact KEEP.out _ (Below.refl _ _).drew
                  refine take_now 0 rfl ?_
                  try simp only [Act.put, setA, setZ, setS]
                  refine take_now 1 rfl ?_
                  try simp only [Act.put, setA, setZ, setS]
                  refine take_now 2 rfl ?_
                  try simp only [Act.put, setA, setZ, setS]
                  refine take_now 3 rfl ?_
                  try simp only [Act.put, setA, setZ, setS]
                  refine take_now 4 rfl ?_
                  try simp only [Act.put, setA, setZ, setS]
                  refine take_now 5 rfl ?_
                  try simp only [Act.put, setA, setZ, setS]
                  refine take_now 6 rfl ?_
                  try simp only [Act.put, setA, setZ, setS]
                  refine take_now 7 rfl ?_
                  try simp only [Act.put, setA, setZ, setS]
                  refine take_now 8 rfl ?_
                  try simp only [Act.put, setA, setZ, setS]
                  refine take_now 9 rfl ?_
                  try simp only [Act.put, setA, setZ, setS]
                  refine take_now 10 rfl ?_
                  try simp only [Act.put, setA, setZ, setS]
                  refine take_now 11 rfl ?_
                  try simp only [Act.put, setA, setZ, setS]
                  refine take_now 12 rfl ?_
                  try simp only [Act.put, setA, setZ, setS]
                  refine take_now 13 rfl ?_
                  try simp only [Act.put, setA, setZ, setS]
                  refine only_at 14 (by kernel_rfl) rfl (fun K hK => ?_)
                  go_simp
                  (go_at_call 80
                   (with_reducible refine (hih.out _ _ _ HBQ.out.drew).mono ?_)
                   rintro e' w7 ⟨he, hb7⟩
                   rw [HQY.out] at he
                   subst he
                   obtain ⟨Y, rfl⟩ : ∃ W, W = w7 := ⟨_, rfl⟩
                   have GY := Lib.hid ((Below.refl wq.heap.size wq).drew.trans hb7)
                   clear hb7)
                  refine hK.out _ _ (KEEP.out _ ?_) (fun hHeld => ?_)
                  · (repeat (first | exact Below.refl _ _ | exact GY.out | refine Below.drew ?_ | refine Below.alloc ?_ (by simp) _ | refine Below.setCell ?_ (by simp) _))
                  clear hK K
                  try simp only [Act.put, setA, setZ, setS]
                  refine take_now 15 rfl ?_
                  try simp only [Act.put, setA, setZ, setS]
                  refine wpAnyH_done (by kernel_rfl) ?_ _
                  go_wp2_with fail
                  go_roundg (ks.length - (j + 1))
                  case measure => have := HJ.out; omega
                  case rel => exact ⟨j + 1, by omega, by go_num, by rw [HNX.out, HQY.out, Bool.true_and, decide_eq_false (Nat.succ_ne_zero j)], HW.out.trans (GY.out.mono HW.out.size)⟩
              · have hje : j = ks.length := by omega
                have HN := Lib.hid (show usesXs sn 13 r true true ks = true by rw [HUX.out, hje, List.drop_length]; rfl)
                clear hje
                go_wp2_with fail
                go_ret
                exact ⟨ret_bool (by rw [HLU.out, HN.out]), HVU.out.trans (HW.out.mono HVU.out.size)⟩
      · go_wp2_with (go_at_call 18
                     (with_reducible refine (HVARS.out _ (HB.out.trans (HW2.out.mono hsz))).mono ?_)
                     rintro e' w7 ⟨v8, rfl, ho8, hb8⟩
                     obtain ⟨vA, vn, vk, rfl, hvn⟩ := ho8.shape
                     obtain ⟨V, rfl⟩ : ∃ W, W = w7 := ⟨_, rfl⟩
                     have HVS := Lib.hid ho8.strs
                     have HV := Lib.hid (HW2.out.trans (hb8.mono HW2.out.size))
                     have BP := Lib.hid (show V.heap[w.heap.size]? = some (.cells #[.slice E en ek, .slice (some a) p.nodes.length ck] 25 (0, 0)) from box_next hb8 (alloc_below (heap_alloc_new w _)))
                     have BX := Lib.hid (show V.heap[w.heap.size + 1]? = some (.cells #[.int .i64 13, .string (str nm), .int .i64 m, .slice cA cs.length cc, .slice A ks.length c] 50 (0, 0)) from box_next hb8 (alloc_at (by simp)))
                     have HBV := Lib.hid (HB.out.trans (HV.out.mono hsz))
                     have hszV := HBV.out.size
                     obtain ⟨p0, p1⟩ := row2 BP.out
                     obtain ⟨x0, x1, x2, x3, x4⟩ := row5 BX.out
                     clear ho8 hb8 hvn)
        have GU0 := Lib.hid (Below.refl V.heap.size V)
        go_ret
        exact ⟨ret_bool (by rw [HQ.out, HUN.out]; rfl), HV.out.trans (GU0.out.mono HV.out.size)⟩
    have d13 : (op == 13) = false := by simpa using h13
    clear h13
    by_cases h14 : op = 14
    · subst h14
      have HUN := Lib.hid (usesName_14 (s := sn) (nm := nm) (cs := cs) (k := ks.length) (r := r) (u := u))
      obtain ⟨f, hf⟩ : ∃ f, callQ sn nm cs ks.length r = f := ⟨_, rfl⟩
      have HCQ := Lib.hid hf
      rw [hf] at HUN
      clear hf
      have HW2 := Lib.hid (show Below w.heap.size w ((w.alloc (.cells #[.slice E en ek, .slice (some a) p.nodes.length ck] 25)).alloc (.cells #[.int .i64 14, .string (str nm), .int .i64 m, .slice cA cs.length cc, .slice A ks.length c] 50)) from (((Below.refl w.heap.size w).alloc (by simp) _).alloc (by simp <;> omega) _))
      go_enter Tryz.func80, Tryz.ntmps80
      cases f
      · go_wp2_with (first
          | (go_at_call 18
             (with_reducible refine (HVARS.out _ (HB.out.trans (HW2.out.mono hsz))).mono ?_)
             rintro e' w7 ⟨v8, rfl, ho8, hb8⟩
             obtain ⟨vA, vn, vk, rfl, hvn⟩ := ho8.shape
             obtain ⟨V, rfl⟩ : ∃ W, W = w7 := ⟨_, rfl⟩
             have HVS := Lib.hid ho8.strs
             have HV := Lib.hid (HW2.out.trans (hb8.mono HW2.out.size))
             have BP := Lib.hid (show V.heap[w.heap.size]? = some (.cells #[.slice E en ek, .slice (some a) p.nodes.length ck] 25 (0, 0)) from box_next hb8 (alloc_below (heap_alloc_new w _)))
             have BX := Lib.hid (show V.heap[w.heap.size + 1]? = some (.cells #[.int .i64 14, .string (str nm), .int .i64 m, .slice cA cs.length cc, .slice A ks.length c] 50 (0, 0)) from box_next hb8 (alloc_at (by simp)))
             have HBV := Lib.hid (HB.out.trans (HV.out.mono hsz))
             have hszV := HBV.out.size
             obtain ⟨p0, p1⟩ := row2 BP.out
             obtain ⟨x0, x1, x2, x3, x4⟩ := row5 BX.out
             clear ho8 hb8 hvn)
          | (go_at_call 105
             (with_reducible refine (HCALL.out _ HBV.out).mono ?_)
             rintro e' w8 ⟨he, hb8⟩
             rw [HCQ.out] at he
             subst he
             obtain ⟨U1, rfl⟩ : ∃ W, W = w8 := ⟨_, rfl⟩
             have GU1 := Lib.hid hb8
             obtain ⟨p0, p1⟩ := row2 (box_next hb8 BP.out)
             obtain ⟨x0, x1, x2, x3, x4⟩ := row5 (box_next hb8 BX.out)
             clear hb8))
        go_ret
        exact ⟨ret_bool (by rw [HQ.out, HUN.out]; rfl), HV.out.trans (GU1.out.mono HV.out.size)⟩
      · cases u
        · have HLU := Lib.hid (show usesX sn r false (.mk 14 nm m cs ks) = usesXs sn 14 r false true ks by rw [HQ.out, HUN.out]; rfl)
          go_wp2_with (first
            | (go_at_call 18
               (with_reducible refine (HVARS.out _ (HB.out.trans (HW2.out.mono hsz))).mono ?_)
               rintro e' w7 ⟨v8, rfl, ho8, hb8⟩
               obtain ⟨vA, vn, vk, rfl, hvn⟩ := ho8.shape
               obtain ⟨V, rfl⟩ : ∃ W, W = w7 := ⟨_, rfl⟩
               have HVS := Lib.hid ho8.strs
               have HV := Lib.hid (HW2.out.trans (hb8.mono HW2.out.size))
               have BP := Lib.hid (show V.heap[w.heap.size]? = some (.cells #[.slice E en ek, .slice (some a) p.nodes.length ck] 25 (0, 0)) from box_next hb8 (alloc_below (heap_alloc_new w _)))
               have BX := Lib.hid (show V.heap[w.heap.size + 1]? = some (.cells #[.int .i64 14, .string (str nm), .int .i64 m, .slice cA cs.length cc, .slice A ks.length c] 50 (0, 0)) from box_next hb8 (alloc_at (by simp)))
               have HBV := Lib.hid (HB.out.trans (HV.out.mono hsz))
               have hszV := HBV.out.size
               obtain ⟨p0, p1⟩ := row2 BP.out
               obtain ⟨x0, x1, x2, x3, x4⟩ := row5 BX.out
               clear ho8 hb8 hvn)
            | (go_at_call 105
               (with_reducible refine (HCALL.out _ HBV.out).mono ?_)
               rintro e' w8 ⟨he, hb8⟩
               rw [HCQ.out] at he
               subst he
               obtain ⟨U1, rfl⟩ : ∃ W, W = w8 := ⟨_, rfl⟩
               have GU1 := Lib.hid hb8
               obtain ⟨p0, p1⟩ := row2 (box_next hb8 BP.out)
               obtain ⟨x0, x1, x2, x3, x4⟩ := row5 (box_next hb8 BX.out)
               clear hb8))
          have BPU := Lib.hid (box_next GU1.out BP.out)
          have BXU := Lib.hid (box_next GU1.out BX.out)
          have HVU := Lib.hid (HV.out.trans (GU1.out.mono HV.out.size))
          have HBU := Lib.hid (HB.out.trans (HVU.out.mono hsz))
          have hszU := HBU.out.size
          clear p0 p1 x0 x1 x2 x3 x4
          go_loopg [18] ks.length (fun g v wr => ∃ j : Nat, j + g = ks.length ∧ v = .int .i64 j ∧ usesXs sn 14 r false true ks = usesXs sn 14 r false (decide (j = 0)) (ks.drop j) ∧ Below U1.heap.size U1 wr)
          case atStart => exact ⟨0, by omega, rfl, by simp, Below.refl _ _⟩
          case round =>
            obtain ⟨wq, rfl⟩ : ∃ W, W = wr := ⟨_, rfl⟩
            obtain ⟨j, hjg, rfl, hu, hbw⟩ := hrel
            have HJ := Lib.hid hjg
            have HUX := Lib.hid hu
            have HW := Lib.hid hbw
            have HBQ := Lib.hid (HBU.out.trans (hbw.mono hszU))
            obtain ⟨x0, x1, x2, x3, x4⟩ := row5 (box_next hbw BXU.out)
            have hjl : j ≤ ks.length := by omega
            clear hjg hu hbw
            by_cases hlt : j < ks.length
            · obtain ⟨y, hy⟩ : ∃ y, ks[j]? = some y := ⟨_, List.getElem?_eq_getElem hlt⟩
              have hC := hkk j y hy
              have hih := Lib.hid (ih j y hy (HRK.out y (List.mem_of_getElem? hy)))
              have hxk := hx j y hy
              have HD := Lib.hid (drop_consS hy)
              obtain ⟨o1, s1, n1, A1, m1, k1, A2, m2, k2, hLL⟩ := hxk.shape
              generalize Ck j = LL at hC hih hxk hLL
              subst hLL
              have HEC := Lib.hid hC
              obtain ⟨e, rfl, _, _, _, _, _, _, _⟩ := elem5 (hC.under HBQ.out)
              have HNX := Lib.hid (show usesXs sn 14 r false true ks = (usesX sn (kidR 14 r j) false y && usesXs sn 14 r false false (ks.drop (j + 1))) by
                rw [HUX.out, HD.out, usesXs_cons]
                congr 2 <;> (unfold kidR; by_cases h0 : j = 0 <;> simp [h0]))
              have KEEP := Lib.hid (show ∀ W, Below wq.heap.size wq W → (fun W => W.cell? ⟨w.heap.size, 0, none⟩ = some (.slice E en ek) ∧ W.cell? ⟨w.heap.size, 1, none⟩ = some (.slice (some a) p.nodes.length ck) ∧ W.cell? ⟨w.heap.size + 1, 0, none⟩ = some (.int .i64 14) ∧ W.cell? ⟨w.heap.size + 1, 4, none⟩ = some (.slice (some e) ks.length c) ∧ W.cell? (e.add (j * 5)) = some (.int .i64 o1) ∧ W.cell? { block := (e.add (j * 5)).block, off := (e.add (j * 5)).off + 1 } = some (.string s1) ∧ W.cell? { block := (e.add (j * 5)).block, off := (e.add (j * 5)).off + 2 } = some (.int .i64 n1) ∧ W.cell? { block := (e.add (j * 5)).block, off := (e.add (j * 5)).off + 3 } = some (.slice A1 m1 k1) ∧ W.cell? { block := (e.add (j * 5)).block, off := (e.add (j * 5)).off + 4 } = some (.slice A2 m2 k2)) W from
                fun W hW => by
                  obtain ⟨e2, ee2, _, _, d0, d1, d2, d3, d4⟩ := elem5 (HEC.out.under (HBQ.out.trans (hW.mono HBQ.out.size)))
                  cases ee2
                  obtain ⟨p0, p1⟩ := row2 (box_next hW (box_next HW.out BPU.out))
                  obtain ⟨x0, _, _, _, x4⟩ := row5 (box_next hW (box_next HW.out BXU.out))
                  exact ⟨p0, p1, x0, x4, d0, d1, d2, d3, d4⟩)
              clear hC hxk hy
              have HKR := Lib.hid (show kidR 14 r j = 1 by unfold kidR; rw [if_neg (fun h => absurd h.1 (by decide))])
              rw [HKR.out] at HNX
              cases hq : usesX sn 1 false y
              · have HQY := Lib.hid hq
                clear hq
                go_wp2_with fail
                clear x0 x1 x2 x3 x4
                refine wp_region_held_drew (S := (fun W => W.cell? ⟨w.heap.size, 0, none⟩ = some (.slice E en ek) ∧ W.cell? ⟨w.heap.size, 1, none⟩ = some (.slice (some a) p.nodes.length ck) ∧ W.cell? ⟨w.heap.size + 1, 0, none⟩ = some (.int .i64 14) ∧ W.cell? ⟨w.heap.size + 1, 4, none⟩ = some (.slice (some e) ks.length c) ∧ W.cell? (e.add (j * 5)) = some (.int .i64 o1) ∧ W.cell? { block := (e.add (j * 5)).block, off := (e.add (j * 5)).off + 1 } = some (.string s1) ∧ W.cell? { block := (e.add (j * 5)).block, off := (e.add (j * 5)).off + 2 } = some (.int .i64 n1) ∧ W.cell? { block := (e.add (j * 5)).block, off := (e.add (j * 5)).off + 3 } = some (.slice A1 m1 k1) ∧ W.cell? { block := (e.add (j * 5)).block, off := (e.add (j * 5)).off + 4 } = some (.slice A2 m2 k2))) (by kernel_rfl) ?_ (fun hHeld => ?_)
                · exact KEEP.out _ (Below.refl _ _).drew
                refine take_now 0 rfl ?_
                try simp only [Act.put, setA, setZ, setS]
                refine take_now 1 rfl ?_
                try simp only [Act.put, setA, setZ, setS]
                refine take_now 2 rfl ?_
                try simp only [Act.put, setA, setZ, setS]
                refine take_now 3 rfl ?_
                try simp only [Act.put, setA, setZ, setS]
                refine take_now 4 rfl ?_
                try simp only [Act.put, setA, setZ, setS]
                refine take_now 5 rfl ?_
                try simp only [Act.put, setA, setZ, setS]
                refine take_now 6 rfl ?_
                try simp only [Act.put, setA, setZ, setS]
                refine take_now 7 rfl ?_
                try simp only [Act.put, setA, setZ, setS]
                refine take_now 8 rfl ?_
                try simp only [Act.put, setA, setZ, setS]
                refine take_now 9 rfl ?_
                try simp only [Act.put, setA, setZ, setS]
                refine take_now 10 rfl ?_
                try simp only [Act.put, setA, setZ, setS]
                refine take_now 11 rfl ?_
                try simp only [Act.put, setA, setZ, setS]
                refine take_now 12 rfl ?_
                try simp only [Act.put, setA, setZ, setS]
                refine take_now 13 rfl ?_
                try simp only [Act.put, setA, setZ, setS]
                refine only_at 14 (by kernel_rfl) rfl (fun K hK => ?_)
                go_simp
                (go_at_call 80
                 (with_reducible refine (hih.out _ _ _ HBQ.out.drew).mono ?_)
                 rintro e' w7 ⟨he, hb7⟩
                 rw [HQY.out] at he
                 subst he
                 obtain ⟨Y, rfl⟩ : ∃ W, W = w7 := ⟨_, rfl⟩
                 have GY := Lib.hid ((Below.refl wq.heap.size wq).drew.trans hb7)
                 clear hb7)
                refine hK.out _ _ (KEEP.out _ ?_) (fun hHeld => ?_)
                · (repeat (first | exact Below.refl _ _ | exact GY.out | refine Below.drew ?_ | refine Below.alloc ?_ (by simp) _ | refine Below.setCell ?_ (by simp) _))
                clear hK K
                try simp only [Act.put, setA, setZ, setS]
                refine take_now 15 rfl ?_
                try simp only [Act.put, setA, setZ, setS]
                refine wpAnyH_done (by kernel_rfl) ?_ _
                go_wp2_with fail
                go_ret
                exact ⟨ret_bool (by rw [HLU.out, HNX.out, HQY.out]; rfl), HVU.out.trans ((HW.out.trans (GY.out.mono HW.out.size)).mono HVU.out.size)⟩
              · have HQY := Lib.hid hq
                clear hq
                go_wp2_with fail
                clear x0 x1 x2 x3 x4
                refine wp_region_held_drew (S := (fun W => W.cell? ⟨w.heap.size, 0, none⟩ = some (.slice E en ek) ∧ W.cell? ⟨w.heap.size, 1, none⟩ = some (.slice (some a) p.nodes.length ck) ∧ W.cell? ⟨w.heap.size + 1, 0, none⟩ = some (.int .i64 14) ∧ W.cell? ⟨w.heap.size + 1, 4, none⟩ = some (.slice (some e) ks.length c) ∧ W.cell? (e.add (j * 5)) = some (.int .i64 o1) ∧ W.cell? { block := (e.add (j * 5)).block, off := (e.add (j * 5)).off + 1 } = some (.string s1) ∧ W.cell? { block := (e.add (j * 5)).block, off := (e.add (j * 5)).off + 2 } = some (.int .i64 n1) ∧ W.cell? { block := (e.add (j * 5)).block, off := (e.add (j * 5)).off + 3 } = some (.slice A1 m1 k1) ∧ W.cell? { block := (e.add (j * 5)).block, off := (e.add (j * 5)).off + 4 } = some (.slice A2 m2 k2))) (by kernel_rfl) ?_ (fun hHeld => ?_)
                · exact KEEP.out _ (Below.refl _ _).drew
                refine take_now 0 rfl ?_
                try simp only [Act.put, setA, setZ, setS]
                refine take_now 1 rfl ?_
                try simp only [Act.put, setA, setZ, setS]
                refine take_now 2 rfl ?_
                try simp only [Act.put, setA, setZ, setS]
                refine take_now 3 rfl ?_
                try simp only [Act.put, setA, setZ, setS]
                refine take_now 4 rfl ?_
                try simp only [Act.put, setA, setZ, setS]
                refine take_now 5 rfl ?_
                try simp only [Act.put, setA, setZ, setS]
                refine take_now 6 rfl ?_
                try simp only [Act.put, setA, setZ, setS]
                refine take_now 7 rfl ?_
                try simp only [Act.put, setA, setZ, setS]
                refine take_now 8 rfl ?_
                try simp only [Act.put, setA, setZ, setS]
                refine take_now 9 rfl ?_
                try simp only [Act.put, setA, setZ, setS]
                refine take_now 10 rfl ?_
                try simp only [Act.put, setA, setZ, setS]
                refine take_now 11 rfl ?_
                try simp only [Act.put, setA, setZ, setS]
                refine take_now 12 rfl ?_
                try simp only [Act.put, setA, setZ, setS]
                refine take_now 13 rfl ?_
                try simp only [Act.put, setA, setZ, setS]
                refine only_at 14 (by kernel_rfl) rfl (fun K hK => ?_)
                go_simp
                (go_at_call 80
                 (with_reducible refine (hih.out _ _ _ HBQ.out.drew).mono ?_)
                 rintro e' w7 ⟨he, hb7⟩
                 rw [HQY.out] at he
                 subst he
                 obtain ⟨Y, rfl⟩ : ∃ W, W = w7 := ⟨_, rfl⟩
                 have GY := Lib.hid ((Below.refl wq.heap.size wq).drew.trans hb7)
                 clear hb7)
                refine hK.out _ _ (KEEP.out _ ?_) (fun hHeld => ?_)
                · (repeat (first | exact Below.refl _ _ | exact GY.out | refine Below.drew ?_ | refine Below.alloc ?_ (by simp) _ | refine Below.setCell ?_ (by simp) _))
                clear hK K
                try simp only [Act.put, setA, setZ, setS]
                refine take_now 15 rfl ?_
                try simp only [Act.put, setA, setZ, setS]
                refine wpAnyH_done (by kernel_rfl) ?_ _
                go_wp2_with fail
                go_roundg (ks.length - (j + 1))
                case measure => have := HJ.out; omega
                case rel => exact ⟨j + 1, by omega, by go_num, by rw [HNX.out, HQY.out, Bool.true_and, decide_eq_false (Nat.succ_ne_zero j)], HW.out.trans (GY.out.mono HW.out.size)⟩
            · have hje : j = ks.length := by omega
              have HN := Lib.hid (show usesXs sn 14 r false true ks = true by rw [HUX.out, hje, List.drop_length]; rfl)
              clear hje
              go_wp2_with fail
              go_ret
              exact ⟨ret_bool (by rw [HLU.out, HN.out]), HVU.out.trans (HW.out.mono HVU.out.size)⟩
        · have HLU := Lib.hid (show usesX sn r true (.mk 14 nm m cs ks) = usesXs sn 14 r true true ks by rw [HQ.out, HUN.out]; rfl)
          go_wp2_with (first
            | (go_at_call 18
               (with_reducible refine (HVARS.out _ (HB.out.trans (HW2.out.mono hsz))).mono ?_)
               rintro e' w7 ⟨v8, rfl, ho8, hb8⟩
               obtain ⟨vA, vn, vk, rfl, hvn⟩ := ho8.shape
               obtain ⟨V, rfl⟩ : ∃ W, W = w7 := ⟨_, rfl⟩
               have HVS := Lib.hid ho8.strs
               have HV := Lib.hid (HW2.out.trans (hb8.mono HW2.out.size))
               have BP := Lib.hid (show V.heap[w.heap.size]? = some (.cells #[.slice E en ek, .slice (some a) p.nodes.length ck] 25 (0, 0)) from box_next hb8 (alloc_below (heap_alloc_new w _)))
               have BX := Lib.hid (show V.heap[w.heap.size + 1]? = some (.cells #[.int .i64 14, .string (str nm), .int .i64 m, .slice cA cs.length cc, .slice A ks.length c] 50 (0, 0)) from box_next hb8 (alloc_at (by simp)))
               have HBV := Lib.hid (HB.out.trans (HV.out.mono hsz))
               have hszV := HBV.out.size
               obtain ⟨p0, p1⟩ := row2 BP.out
               obtain ⟨x0, x1, x2, x3, x4⟩ := row5 BX.out
               clear ho8 hb8 hvn)
            | (go_at_call 105
               (with_reducible refine (HCALL.out _ HBV.out).mono ?_)
               rintro e' w8 ⟨he, hb8⟩
               rw [HCQ.out] at he
               subst he
               obtain ⟨U1, rfl⟩ : ∃ W, W = w8 := ⟨_, rfl⟩
               have GU1 := Lib.hid hb8
               obtain ⟨p0, p1⟩ := row2 (box_next hb8 BP.out)
               obtain ⟨x0, x1, x2, x3, x4⟩ := row5 (box_next hb8 BX.out)
               clear hb8))
          have BPU := Lib.hid (box_next GU1.out BP.out)
          have BXU := Lib.hid (box_next GU1.out BX.out)
          have HVU := Lib.hid (HV.out.trans (GU1.out.mono HV.out.size))
          have HBU := Lib.hid (HB.out.trans (HVU.out.mono hsz))
          have hszU := HBU.out.size
          clear p0 p1 x0 x1 x2 x3 x4
          go_loopg [18] ks.length (fun g v wr => ∃ j : Nat, j + g = ks.length ∧ v = .int .i64 j ∧ usesXs sn 14 r true true ks = usesXs sn 14 r true (decide (j = 0)) (ks.drop j) ∧ Below U1.heap.size U1 wr)
          case atStart => exact ⟨0, by omega, rfl, by simp, Below.refl _ _⟩
          case round =>
            obtain ⟨wq, rfl⟩ : ∃ W, W = wr := ⟨_, rfl⟩
            obtain ⟨j, hjg, rfl, hu, hbw⟩ := hrel
            have HJ := Lib.hid hjg
            have HUX := Lib.hid hu
            have HW := Lib.hid hbw
            have HBQ := Lib.hid (HBU.out.trans (hbw.mono hszU))
            obtain ⟨x0, x1, x2, x3, x4⟩ := row5 (box_next hbw BXU.out)
            have hjl : j ≤ ks.length := by omega
            clear hjg hu hbw
            by_cases hlt : j < ks.length
            · obtain ⟨y, hy⟩ : ∃ y, ks[j]? = some y := ⟨_, List.getElem?_eq_getElem hlt⟩
              have hC := hkk j y hy
              have hih := Lib.hid (ih j y hy (HRK.out y (List.mem_of_getElem? hy)))
              have hxk := hx j y hy
              have HD := Lib.hid (drop_consS hy)
              obtain ⟨o1, s1, n1, A1, m1, k1, A2, m2, k2, hLL⟩ := hxk.shape
              generalize Ck j = LL at hC hih hxk hLL
              subst hLL
              have HEC := Lib.hid hC
              obtain ⟨e, rfl, _, _, _, _, _, _, _⟩ := elem5 (hC.under HBQ.out)
              have HNX := Lib.hid (show usesXs sn 14 r true true ks = (usesX sn (kidR 14 r j) true y && usesXs sn 14 r true false (ks.drop (j + 1))) by
                rw [HUX.out, HD.out, usesXs_cons]
                congr 2 <;> (unfold kidR; by_cases h0 : j = 0 <;> simp [h0]))
              have KEEP := Lib.hid (show ∀ W, Below wq.heap.size wq W → (fun W => W.cell? ⟨w.heap.size, 0, none⟩ = some (.slice E en ek) ∧ W.cell? ⟨w.heap.size, 1, none⟩ = some (.slice (some a) p.nodes.length ck) ∧ W.cell? ⟨w.heap.size + 1, 0, none⟩ = some (.int .i64 14) ∧ W.cell? ⟨w.heap.size + 1, 4, none⟩ = some (.slice (some e) ks.length c) ∧ W.cell? (e.add (j * 5)) = some (.int .i64 o1) ∧ W.cell? { block := (e.add (j * 5)).block, off := (e.add (j * 5)).off + 1 } = some (.string s1) ∧ W.cell? { block := (e.add (j * 5)).block, off := (e.add (j * 5)).off + 2 } = some (.int .i64 n1) ∧ W.cell? { block := (e.add (j * 5)).block, off := (e.add (j * 5)).off + 3 } = some (.slice A1 m1 k1) ∧ W.cell? { block := (e.add (j * 5)).block, off := (e.add (j * 5)).off + 4 } = some (.slice A2 m2 k2)) W from
                fun W hW => by
                  obtain ⟨e2, ee2, _, _, d0, d1, d2, d3, d4⟩ := elem5 (HEC.out.under (HBQ.out.trans (hW.mono HBQ.out.size)))
                  cases ee2
                  obtain ⟨p0, p1⟩ := row2 (box_next hW (box_next HW.out BPU.out))
                  obtain ⟨x0, _, _, _, x4⟩ := row5 (box_next hW (box_next HW.out BXU.out))
                  exact ⟨p0, p1, x0, x4, d0, d1, d2, d3, d4⟩)
              clear hC hxk hy
              have HKR := Lib.hid (show kidR 14 r j = 1 by unfold kidR; rw [if_neg (fun h => absurd h.1 (by decide))])
              rw [HKR.out] at HNX
              cases hq : usesX sn 1 true y
              · have HQY := Lib.hid hq
                clear hq
                go_wp2_with fail
                clear x0 x1 x2 x3 x4
                refine wp_region_held_drew (S := (fun W => W.cell? ⟨w.heap.size, 0, none⟩ = some (.slice E en ek) ∧ W.cell? ⟨w.heap.size, 1, none⟩ = some (.slice (some a) p.nodes.length ck) ∧ W.cell? ⟨w.heap.size + 1, 0, none⟩ = some (.int .i64 14) ∧ W.cell? ⟨w.heap.size + 1, 4, none⟩ = some (.slice (some e) ks.length c) ∧ W.cell? (e.add (j * 5)) = some (.int .i64 o1) ∧ W.cell? { block := (e.add (j * 5)).block, off := (e.add (j * 5)).off + 1 } = some (.string s1) ∧ W.cell? { block := (e.add (j * 5)).block, off := (e.add (j * 5)).off + 2 } = some (.int .i64 n1) ∧ W.cell? { block := (e.add (j * 5)).block, off := (e.add (j * 5)).off + 3 } = some (.slice A1 m1 k1) ∧ W.cell? { block := (e.add (j * 5)).block, off := (e.add (j * 5)).off + 4 } = some (.slice A2 m2 k2))) (by kernel_rfl) ?_ (fun hHeld => ?_)
                · exact KEEP.out _ (Below.refl _ _).drew
                refine take_now 0 rfl ?_
                try simp only [Act.put, setA, setZ, setS]
                refine take_now 1 rfl ?_
                try simp only [Act.put, setA, setZ, setS]
                refine take_now 2 rfl ?_
                try simp only [Act.put, setA, setZ, setS]
                refine take_now 3 rfl ?_
                try simp only [Act.put, setA, setZ, setS]
                refine take_now 4 rfl ?_
                try simp only [Act.put, setA, setZ, setS]
                refine take_now 5 rfl ?_
                try simp only [Act.put, setA, setZ, setS]
                refine take_now 6 rfl ?_
                try simp only [Act.put, setA, setZ, setS]
                refine take_now 7 rfl ?_
                try simp only [Act.put, setA, setZ, setS]
                refine take_now 8 rfl ?_
                try simp only [Act.put, setA, setZ, setS]
                refine skip_now 9 rfl ?_
                try simp only [Act.put, setA, setZ, setS]
                refine skip_now 10 rfl ?_
                try simp only [Act.put, setA, setZ, setS]
                refine skip_now 11 rfl ?_
                try simp only [Act.put, setA, setZ, setS]
                refine take_now 12 rfl ?_
                try simp only [Act.put, setA, setZ, setS]
                refine take_now 13 rfl ?_
                try simp only [Act.put, setA, setZ, setS]
                refine only_at 14 (by kernel_rfl) rfl (fun K hK => ?_)
                go_simp
                (go_at_call 80
                 (with_reducible refine (hih.out _ _ _ HBQ.out.drew).mono ?_)
                 rintro e' w7 ⟨he, hb7⟩
                 rw [HQY.out] at he
                 subst he
                 obtain ⟨Y, rfl⟩ : ∃ W, W = w7 := ⟨_, rfl⟩
                 have GY := Lib.hid ((Below.refl wq.heap.size wq).drew.trans hb7)
                 clear hb7)
                refine hK.out _ _ (KEEP.out _ ?_) (fun hHeld => ?_)
                · (repeat (first | exact Below.refl _ _ | exact GY.out | refine Below.drew ?_ | refine Below.alloc ?_ (by simp) _ | refine Below.setCell ?_ (by simp) _))
                clear hK K
                try simp only [Act.put, setA, setZ, setS]
                refine take_now 15 rfl ?_
                try simp only [Act.put, setA, setZ, setS]
                refine wpAnyH_done (by kernel_rfl) ?_ _
                go_wp2_with fail
                go_ret
                exact ⟨ret_bool (by rw [HLU.out, HNX.out, HQY.out]; rfl), HVU.out.trans ((HW.out.trans (GY.out.mono HW.out.size)).mono HVU.out.size)⟩
              · have HQY := Lib.hid hq
                clear hq
                go_wp2_with fail
                clear x0 x1 x2 x3 x4
                refine wp_region_held_drew (S := (fun W => W.cell? ⟨w.heap.size, 0, none⟩ = some (.slice E en ek) ∧ W.cell? ⟨w.heap.size, 1, none⟩ = some (.slice (some a) p.nodes.length ck) ∧ W.cell? ⟨w.heap.size + 1, 0, none⟩ = some (.int .i64 14) ∧ W.cell? ⟨w.heap.size + 1, 4, none⟩ = some (.slice (some e) ks.length c) ∧ W.cell? (e.add (j * 5)) = some (.int .i64 o1) ∧ W.cell? { block := (e.add (j * 5)).block, off := (e.add (j * 5)).off + 1 } = some (.string s1) ∧ W.cell? { block := (e.add (j * 5)).block, off := (e.add (j * 5)).off + 2 } = some (.int .i64 n1) ∧ W.cell? { block := (e.add (j * 5)).block, off := (e.add (j * 5)).off + 3 } = some (.slice A1 m1 k1) ∧ W.cell? { block := (e.add (j * 5)).block, off := (e.add (j * 5)).off + 4 } = some (.slice A2 m2 k2))) (by kernel_rfl) ?_ (fun hHeld => ?_)
                · exact KEEP.out _ (Below.refl _ _).drew
                refine take_now 0 rfl ?_
                try simp only [Act.put, setA, setZ, setS]
                refine take_now 1 rfl ?_
                try simp only [Act.put, setA, setZ, setS]
                refine take_now 2 rfl ?_
                try simp only [Act.put, setA, setZ, setS]
                refine take_now 3 rfl ?_
                try simp only [Act.put, setA, setZ, setS]
                refine take_now 4 rfl ?_
                try simp only [Act.put, setA, setZ, setS]
                refine take_now 5 rfl ?_
                try simp only [Act.put, setA, setZ, setS]
                refine take_now 6 rfl ?_
                try simp only [Act.put, setA, setZ, setS]
                refine take_now 7 rfl ?_
                try simp only [Act.put, setA, setZ, setS]
                refine take_now 8 rfl ?_
                try simp only [Act.put, setA, setZ, setS]
                refine skip_now 9 rfl ?_
                try simp only [Act.put, setA, setZ, setS]
                refine skip_now 10 rfl ?_
                try simp only [Act.put, setA, setZ, setS]
                refine skip_now 11 rfl ?_
                try simp only [Act.put, setA, setZ, setS]
                refine take_now 12 rfl ?_
                try simp only [Act.put, setA, setZ, setS]
                refine take_now 13 rfl ?_
                try simp only [Act.put, setA, setZ, setS]
                refine only_at 14 (by kernel_rfl) rfl (fun K hK => ?_)
                go_simp
                (go_at_call 80
                 (with_reducible refine (hih.out _ _ _ HBQ.out.drew).mono ?_)
                 rintro e' w7 ⟨he, hb7⟩
                 rw [HQY.out] at he
                 subst he
                 obtain ⟨Y, rfl⟩ : ∃ W, W = w7 := ⟨_, rfl⟩
                 have GY := Lib.hid ((Below.refl wq.heap.size wq).drew.trans hb7)
                 clear hb7)
                refine hK.out _ _ (KEEP.out _ ?_) (fun hHeld => ?_)
                · (repeat (first | exact Below.refl _ _ | exact GY.out | refine Below.drew ?_ | refine Below.alloc ?_ (by simp) _ | refine Below.setCell ?_ (by simp) _))
                clear hK K
                try simp only [Act.put, setA, setZ, setS]
                refine take_now 15 rfl ?_
                try simp only [Act.put, setA, setZ, setS]
                refine wpAnyH_done (by kernel_rfl) ?_ _
                go_wp2_with fail
                go_roundg (ks.length - (j + 1))
                case measure => have := HJ.out; omega
                case rel => exact ⟨j + 1, by omega, by go_num, by rw [HNX.out, HQY.out, Bool.true_and, decide_eq_false (Nat.succ_ne_zero j)], HW.out.trans (GY.out.mono HW.out.size)⟩
            · have hje : j = ks.length := by omega
              have HN := Lib.hid (show usesXs sn 14 r true true ks = true by rw [HUX.out, hje, List.drop_length]; rfl)
              clear hje
              go_wp2_with fail
              go_ret
              exact ⟨ret_bool (by rw [HLU.out, HN.out]), HVU.out.trans (HW.out.mono HVU.out.size)⟩
    have d14 : (op == 14) = false := by simpa using h14
    clear h14
    have HUN := Lib.hid (usesName_x (s := sn) (nm := nm) (cs := cs) (k := ks.length) (r := r) (u := u) d4 d3 d11 d12 d13 d14)
    have HD13 := Lib.hid d13
    have HW2 := Lib.hid (show Below w.heap.size w ((w.alloc (.cells #[.slice E en ek, .slice (some a) p.nodes.length ck] 25)).alloc (.cells #[.int .i64 op, .string (str nm), .int .i64 m, .slice cA cs.length cc, .slice A ks.length c] 50)) from (((Below.refl w.heap.size w).alloc (by simp) _).alloc (by simp <;> omega) _))
    go_enter Tryz.func80, Tryz.ntmps80
    cases u
    · have HLU := Lib.hid (show usesX sn r false (.mk op nm m cs ks) = usesXs sn op r (op == 13) true ks by rw [HQ.out, HUN.out]; rfl)
      go_wp2_with (go_at_call 18
                   (with_reducible refine (HVARS.out _ (HB.out.trans (HW2.out.mono hsz))).mono ?_)
                   rintro e' w7 ⟨v8, rfl, ho8, hb8⟩
                   obtain ⟨vA, vn, vk, rfl, hvn⟩ := ho8.shape
                   obtain ⟨V, rfl⟩ : ∃ W, W = w7 := ⟨_, rfl⟩
                   have HVS := Lib.hid ho8.strs
                   have HV := Lib.hid (HW2.out.trans (hb8.mono HW2.out.size))
                   have BP := Lib.hid (show V.heap[w.heap.size]? = some (.cells #[.slice E en ek, .slice (some a) p.nodes.length ck] 25 (0, 0)) from box_next hb8 (alloc_below (heap_alloc_new w _)))
                   have BX := Lib.hid (show V.heap[w.heap.size + 1]? = some (.cells #[.int .i64 op, .string (str nm), .int .i64 m, .slice cA cs.length cc, .slice A ks.length c] 50 (0, 0)) from box_next hb8 (alloc_at (by simp)))
                   have HBV := Lib.hid (HB.out.trans (HV.out.mono hsz))
                   have hszV := HBV.out.size
                   obtain ⟨p0, p1⟩ := row2 BP.out
                   obtain ⟨x0, x1, x2, x3, x4⟩ := row5 BX.out
                   clear ho8 hb8 hvn)
      have GU0 := Lib.hid (Below.refl V.heap.size V)
      have BPU := Lib.hid (box_next GU0.out BP.out)
      have BXU := Lib.hid (box_next GU0.out BX.out)
      have HVU := Lib.hid (HV.out.trans (GU0.out.mono HV.out.size))
      have HBU := Lib.hid (HB.out.trans (HVU.out.mono hsz))
      have hszU := HBU.out.size
      clear p0 p1 x0 x1 x2 x3 x4
      go_loopg [18] ks.length (fun g v wr => ∃ j : Nat, j + g = ks.length ∧ v = .int .i64 j ∧ usesXs sn op r (op == 13) true ks = usesXs sn op r (op == 13) (decide (j = 0)) (ks.drop j) ∧ Below V.heap.size V wr)
      case atStart => exact ⟨0, by omega, rfl, by simp, Below.refl _ _⟩
      case round =>
        obtain ⟨wq, rfl⟩ : ∃ W, W = wr := ⟨_, rfl⟩
        obtain ⟨j, hjg, rfl, hu, hbw⟩ := hrel
        have HJ := Lib.hid hjg
        have HUX := Lib.hid hu
        have HW := Lib.hid hbw
        have HBQ := Lib.hid (HBU.out.trans (hbw.mono hszU))
        obtain ⟨x0, x1, x2, x3, x4⟩ := row5 (box_next hbw BXU.out)
        have hjl : j ≤ ks.length := by omega
        clear hjg hu hbw
        by_cases hlt : j < ks.length
        · obtain ⟨y, hy⟩ : ∃ y, ks[j]? = some y := ⟨_, List.getElem?_eq_getElem hlt⟩
          have hC := hkk j y hy
          have hih := Lib.hid (ih j y hy (HRK.out y (List.mem_of_getElem? hy)))
          have hxk := hx j y hy
          have HD := Lib.hid (drop_consS hy)
          obtain ⟨o1, s1, n1, A1, m1, k1, A2, m2, k2, hLL⟩ := hxk.shape
          generalize Ck j = LL at hC hih hxk hLL
          subst hLL
          have HEC := Lib.hid hC
          obtain ⟨e, rfl, _, _, _, _, _, _, _⟩ := elem5 (hC.under HBQ.out)
          have HNX := Lib.hid (show usesXs sn op r (op == 13) true ks = (usesX sn (kidR op r j) (op == 13) y && usesXs sn op r (op == 13) false (ks.drop (j + 1))) by
            rw [HUX.out, HD.out, usesXs_cons]
            congr 2 <;> (unfold kidR; by_cases h0 : j = 0 <;> simp [h0]))
          have KEEP := Lib.hid (show ∀ W, Below wq.heap.size wq W → (fun W => W.cell? ⟨w.heap.size, 0, none⟩ = some (.slice E en ek) ∧ W.cell? ⟨w.heap.size, 1, none⟩ = some (.slice (some a) p.nodes.length ck) ∧ W.cell? ⟨w.heap.size + 1, 0, none⟩ = some (.int .i64 op) ∧ W.cell? ⟨w.heap.size + 1, 4, none⟩ = some (.slice (some e) ks.length c) ∧ W.cell? (e.add (j * 5)) = some (.int .i64 o1) ∧ W.cell? { block := (e.add (j * 5)).block, off := (e.add (j * 5)).off + 1 } = some (.string s1) ∧ W.cell? { block := (e.add (j * 5)).block, off := (e.add (j * 5)).off + 2 } = some (.int .i64 n1) ∧ W.cell? { block := (e.add (j * 5)).block, off := (e.add (j * 5)).off + 3 } = some (.slice A1 m1 k1) ∧ W.cell? { block := (e.add (j * 5)).block, off := (e.add (j * 5)).off + 4 } = some (.slice A2 m2 k2)) W from
            fun W hW => by
              obtain ⟨e2, ee2, _, _, d0, d1, d2, d3, d4⟩ := elem5 (HEC.out.under (HBQ.out.trans (hW.mono HBQ.out.size)))
              cases ee2
              obtain ⟨p0, p1⟩ := row2 (box_next hW (box_next HW.out BPU.out))
              obtain ⟨x0, _, _, _, x4⟩ := row5 (box_next hW (box_next HW.out BXU.out))
              exact ⟨p0, p1, x0, x4, d0, d1, d2, d3, d4⟩)
          clear hC hxk hy
          by_cases h15 : op = 15
          · have H15 := Lib.hid h15
            have e15 : (op == 15) = true := by rw [h15]; rfl
            clear h15
            by_cases hj0 : j = 0
            · have HJ0 := Lib.hid hj0
              have e0 : ((j : Int) == 0) = true := by rw [hj0]; rfl
              clear hj0
              have HKR := Lib.hid (show kidR op r j = r by unfold kidR; rw [if_pos ⟨H15.out, by rw [HJ0.out]; rfl⟩])
              rw [HKR.out] at HNX
              cases hq : usesX sn r (op == 13) y
              · have HQY := Lib.hid hq
                have HQZ := Lib.hid (show usesX sn r false y = false by have := hq; rwa [HD13.out] at this)
                clear hq
                go_wp2_with fail
                clear x0 x1 x2 x3 x4
                refine wp_region_held_drew (S := (fun W => W.cell? ⟨w.heap.size, 0, none⟩ = some (.slice E en ek) ∧ W.cell? ⟨w.heap.size, 1, none⟩ = some (.slice (some a) p.nodes.length ck) ∧ W.cell? ⟨w.heap.size + 1, 0, none⟩ = some (.int .i64 op) ∧ W.cell? ⟨w.heap.size + 1, 4, none⟩ = some (.slice (some e) ks.length c) ∧ W.cell? (e.add (j * 5)) = some (.int .i64 o1) ∧ W.cell? { block := (e.add (j * 5)).block, off := (e.add (j * 5)).off + 1 } = some (.string s1) ∧ W.cell? { block := (e.add (j * 5)).block, off := (e.add (j * 5)).off + 2 } = some (.int .i64 n1) ∧ W.cell? { block := (e.add (j * 5)).block, off := (e.add (j * 5)).off + 3 } = some (.slice A1 m1 k1) ∧ W.cell? { block := (e.add (j * 5)).block, off := (e.add (j * 5)).off + 4 } = some (.slice A2 m2 k2))) (by kernel_rfl) ?_ (fun hHeld => ?_)
                · exact KEEP.out _ (Below.refl _ _).drew
                refine take_now 0 rfl ?_
                try simp only [Act.put, setA, setZ, setS]
                refine take_now 1 rfl ?_
                try simp only [Act.put, setA, setZ, setS]
                refine take_now 2 rfl ?_
                try simp only [Act.put, setA, setZ, setS]
                refine take_now 3 rfl ?_
                try simp only [Act.put, setA, setZ, setS]
                refine take_now 4 rfl ?_
                try simp only [Act.put, setA, setZ, setS]
                refine take_now 5 rfl ?_
                try simp only [Act.put, setA, setZ, setS]
                refine take_now 6 rfl ?_
                try simp only [Act.put, setA, setZ, setS]
                refine take_now 7 rfl ?_
                try simp only [Act.put, setA, setZ, setS]
                refine take_now 8 rfl ?_
                try simp only [Act.put, setA, setZ, setS]
                refine take_now 9 rfl ?_
                try simp only [Act.put, setA, setZ, setS]
                refine take_now 10 rfl ?_
                try simp only [Act.put, setA, setZ, setS]
                refine take_now 11 rfl ?_
                try simp only [Act.put, setA, setZ, setS]
                refine take_now 12 rfl ?_
                try simp only [Act.put, setA, setZ, setS]
                refine take_now 13 rfl ?_
                try simp only [Act.put, setA, setZ, setS]
                refine only_at 14 (by kernel_rfl) rfl (fun K hK => ?_)
                go_simp
                (go_at_call 80
                 (with_reducible refine (hih.out _ _ _ HBQ.out.drew).mono ?_)
                 rintro e' w7 ⟨he, hb7⟩
                 rw [HQZ.out] at he
                 subst he
                 obtain ⟨Y, rfl⟩ : ∃ W, W = w7 := ⟨_, rfl⟩
                 have GY := Lib.hid ((Below.refl wq.heap.size wq).drew.trans hb7)
                 clear hb7)
                refine hK.out _ _ (KEEP.out _ ?_) (fun hHeld => ?_)
                · (repeat (first | exact Below.refl _ _ | exact GY.out | refine Below.drew ?_ | refine Below.alloc ?_ (by simp) _ | refine Below.setCell ?_ (by simp) _))
                clear hK K
                try simp only [Act.put, setA, setZ, setS]
                refine take_now 15 rfl ?_
                try simp only [Act.put, setA, setZ, setS]
                refine wpAnyH_done (by kernel_rfl) ?_ _
                go_wp2_with fail
                go_ret
                exact ⟨ret_bool (by rw [HLU.out, HNX.out, HQY.out]; rfl), HVU.out.trans ((HW.out.trans (GY.out.mono HW.out.size)).mono HVU.out.size)⟩
              · have HQY := Lib.hid hq
                have HQZ := Lib.hid (show usesX sn r false y = true by have := hq; rwa [HD13.out] at this)
                clear hq
                go_wp2_with fail
                clear x0 x1 x2 x3 x4
                refine wp_region_held_drew (S := (fun W => W.cell? ⟨w.heap.size, 0, none⟩ = some (.slice E en ek) ∧ W.cell? ⟨w.heap.size, 1, none⟩ = some (.slice (some a) p.nodes.length ck) ∧ W.cell? ⟨w.heap.size + 1, 0, none⟩ = some (.int .i64 op) ∧ W.cell? ⟨w.heap.size + 1, 4, none⟩ = some (.slice (some e) ks.length c) ∧ W.cell? (e.add (j * 5)) = some (.int .i64 o1) ∧ W.cell? { block := (e.add (j * 5)).block, off := (e.add (j * 5)).off + 1 } = some (.string s1) ∧ W.cell? { block := (e.add (j * 5)).block, off := (e.add (j * 5)).off + 2 } = some (.int .i64 n1) ∧ W.cell? { block := (e.add (j * 5)).block, off := (e.add (j * 5)).off + 3 } = some (.slice A1 m1 k1) ∧ W.cell? { block := (e.add (j * 5)).block, off := (e.add (j * 5)).off + 4 } = some (.slice A2 m2 k2))) (by kernel_rfl) ?_ (fun hHeld => ?_)
                · exact KEEP.out _ (Below.refl _ _).drew
                refine take_now 0 rfl ?_
                try simp only [Act.put, setA, setZ, setS]
                refine take_now 1 rfl ?_
                try simp only [Act.put, setA, setZ, setS]
                refine take_now 2 rfl ?_
                try simp only [Act.put, setA, setZ, setS]
                refine take_now 3 rfl ?_
                try simp only [Act.put, setA, setZ, setS]
                refine take_now 4 rfl ?_
                try simp only [Act.put, setA, setZ, setS]
                refine take_now 5 rfl ?_
                try simp only [Act.put, setA, setZ, setS]
                refine take_now 6 rfl ?_
                try simp only [Act.put, setA, setZ, setS]
                refine take_now 7 rfl ?_
                try simp only [Act.put, setA, setZ, setS]
                refine take_now 8 rfl ?_
                try simp only [Act.put, setA, setZ, setS]
                refine take_now 9 rfl ?_
                try simp only [Act.put, setA, setZ, setS]
                refine take_now 10 rfl ?_
                try simp only [Act.put, setA, setZ, setS]
                refine take_now 11 rfl ?_
                try simp only [Act.put, setA, setZ, setS]
                refine take_now 12 rfl ?_
                try simp only [Act.put, setA, setZ, setS]
                refine take_now 13 rfl ?_
                try simp only [Act.put, setA, setZ, setS]
                refine only_at 14 (by kernel_rfl) rfl (fun K hK => ?_)
                go_simp
                (go_at_call 80
                 (with_reducible refine (hih.out _ _ _ HBQ.out.drew).mono ?_)
                 rintro e' w7 ⟨he, hb7⟩
                 rw [HQZ.out] at he
                 subst he
                 obtain ⟨Y, rfl⟩ : ∃ W, W = w7 := ⟨_, rfl⟩
                 have GY := Lib.hid ((Below.refl wq.heap.size wq).drew.trans hb7)
                 clear hb7)
                refine hK.out _ _ (KEEP.out _ ?_) (fun hHeld => ?_)
                · (repeat (first | exact Below.refl _ _ | exact GY.out | refine Below.drew ?_ | refine Below.alloc ?_ (by simp) _ | refine Below.setCell ?_ (by simp) _))
                clear hK K
                try simp only [Act.put, setA, setZ, setS]
                refine take_now 15 rfl ?_
                try simp only [Act.put, setA, setZ, setS]
                refine wpAnyH_done (by kernel_rfl) ?_ _
                go_wp2_with fail
                go_roundg (ks.length - (j + 1))
                case measure => have := HJ.out; omega
                case rel => exact ⟨j + 1, by omega, by go_num, by rw [HNX.out, HQY.out, Bool.true_and, decide_eq_false (Nat.succ_ne_zero j)], HW.out.trans (GY.out.mono HW.out.size)⟩
            · have HJ0 := Lib.hid hj0
              have e0 : ((j : Int) == 0) = false := by rw [beq_eq_false_iff_ne]; omega
              clear hj0
              have HKR := Lib.hid (show kidR op r j = 1 by unfold kidR; rw [if_neg (fun h => HJ0.out (by have := h.2; omega))])
              rw [HKR.out] at HNX
              cases hq : usesX sn 1 (op == 13) y
              · have HQY := Lib.hid hq
                have HQZ := Lib.hid (show usesX sn 1 false y = false by have := hq; rwa [HD13.out] at this)
                clear hq
                go_wp2_with fail
                clear x0 x1 x2 x3 x4
                refine wp_region_held_drew (S := (fun W => W.cell? ⟨w.heap.size, 0, none⟩ = some (.slice E en ek) ∧ W.cell? ⟨w.heap.size, 1, none⟩ = some (.slice (some a) p.nodes.length ck) ∧ W.cell? ⟨w.heap.size + 1, 0, none⟩ = some (.int .i64 op) ∧ W.cell? ⟨w.heap.size + 1, 4, none⟩ = some (.slice (some e) ks.length c) ∧ W.cell? (e.add (j * 5)) = some (.int .i64 o1) ∧ W.cell? { block := (e.add (j * 5)).block, off := (e.add (j * 5)).off + 1 } = some (.string s1) ∧ W.cell? { block := (e.add (j * 5)).block, off := (e.add (j * 5)).off + 2 } = some (.int .i64 n1) ∧ W.cell? { block := (e.add (j * 5)).block, off := (e.add (j * 5)).off + 3 } = some (.slice A1 m1 k1) ∧ W.cell? { block := (e.add (j * 5)).block, off := (e.add (j * 5)).off + 4 } = some (.slice A2 m2 k2))) (by kernel_rfl) ?_ (fun hHeld => ?_)
                · exact KEEP.out _ (Below.refl _ _).drew
                refine take_now 0 rfl ?_
                try simp only [Act.put, setA, setZ, setS]
                refine take_now 1 rfl ?_
                try simp only [Act.put, setA, setZ, setS]
                refine take_now 2 rfl ?_
                try simp only [Act.put, setA, setZ, setS]
                refine take_now 3 rfl ?_
                try simp only [Act.put, setA, setZ, setS]
                refine take_now 4 rfl ?_
                try simp only [Act.put, setA, setZ, setS]
                refine take_now 5 rfl ?_
                try simp only [Act.put, setA, setZ, setS]
                refine take_now 6 rfl ?_
                try simp only [Act.put, setA, setZ, setS]
                refine take_now 7 rfl ?_
                try simp only [Act.put, setA, setZ, setS]
                refine take_now 8 rfl ?_
                try simp only [Act.put, setA, setZ, setS]
                refine take_now 9 rfl ?_
                try simp only [Act.put, setA, setZ, setS]
                refine take_now 10 rfl ?_
                try simp only [Act.put, setA, setZ, setS]
                refine take_now 11 rfl ?_
                try simp only [Act.put, setA, setZ, setS]
                refine take_now 12 rfl ?_
                try simp only [Act.put, setA, setZ, setS]
                refine take_now 13 rfl ?_
                try simp only [Act.put, setA, setZ, setS]
                refine only_at 14 (by kernel_rfl) rfl (fun K hK => ?_)
                go_simp
                (go_at_call 80
                 (with_reducible refine (hih.out _ _ _ HBQ.out.drew).mono ?_)
                 rintro e' w7 ⟨he, hb7⟩
                 rw [HQZ.out] at he
                 subst he
                 obtain ⟨Y, rfl⟩ : ∃ W, W = w7 := ⟨_, rfl⟩
                 have GY := Lib.hid ((Below.refl wq.heap.size wq).drew.trans hb7)
                 clear hb7)
                refine hK.out _ _ (KEEP.out _ ?_) (fun hHeld => ?_)
                · (repeat (first | exact Below.refl _ _ | exact GY.out | refine Below.drew ?_ | refine Below.alloc ?_ (by simp) _ | refine Below.setCell ?_ (by simp) _))
                clear hK K
                try simp only [Act.put, setA, setZ, setS]
                refine take_now 15 rfl ?_
                try simp only [Act.put, setA, setZ, setS]
                refine wpAnyH_done (by kernel_rfl) ?_ _
                go_wp2_with fail
                go_ret
                exact ⟨ret_bool (by rw [HLU.out, HNX.out, HQY.out]; rfl), HVU.out.trans ((HW.out.trans (GY.out.mono HW.out.size)).mono HVU.out.size)⟩
              · have HQY := Lib.hid hq
                have HQZ := Lib.hid (show usesX sn 1 false y = true by have := hq; rwa [HD13.out] at this)
                clear hq
                go_wp2_with fail
                clear x0 x1 x2 x3 x4
                refine wp_region_held_drew (S := (fun W => W.cell? ⟨w.heap.size, 0, none⟩ = some (.slice E en ek) ∧ W.cell? ⟨w.heap.size, 1, none⟩ = some (.slice (some a) p.nodes.length ck) ∧ W.cell? ⟨w.heap.size + 1, 0, none⟩ = some (.int .i64 op) ∧ W.cell? ⟨w.heap.size + 1, 4, none⟩ = some (.slice (some e) ks.length c) ∧ W.cell? (e.add (j * 5)) = some (.int .i64 o1) ∧ W.cell? { block := (e.add (j * 5)).block, off := (e.add (j * 5)).off + 1 } = some (.string s1) ∧ W.cell? { block := (e.add (j * 5)).block, off := (e.add (j * 5)).off + 2 } = some (.int .i64 n1) ∧ W.cell? { block := (e.add (j * 5)).block, off := (e.add (j * 5)).off + 3 } = some (.slice A1 m1 k1) ∧ W.cell? { block := (e.add (j * 5)).block, off := (e.add (j * 5)).off + 4 } = some (.slice A2 m2 k2))) (by kernel_rfl) ?_ (fun hHeld => ?_)
                · exact KEEP.out _ (Below.refl _ _).drew
                refine take_now 0 rfl ?_
                try simp only [Act.put, setA, setZ, setS]
                refine take_now 1 rfl ?_
                try simp only [Act.put, setA, setZ, setS]
                refine take_now 2 rfl ?_
                try simp only [Act.put, setA, setZ, setS]
                refine take_now 3 rfl ?_
                try simp only [Act.put, setA, setZ, setS]
                refine take_now 4 rfl ?_
                try simp only [Act.put, setA, setZ, setS]
                refine take_now 5 rfl ?_
                try simp only [Act.put, setA, setZ, setS]
                refine take_now 6 rfl ?_
                try simp only [Act.put, setA, setZ, setS]
                refine take_now 7 rfl ?_
                try simp only [Act.put, setA, setZ, setS]
                refine take_now 8 rfl ?_
                try simp only [Act.put, setA, setZ, setS]
                refine take_now 9 rfl ?_
                try simp only [Act.put, setA, setZ, setS]
                refine take_now 10 rfl ?_
                try simp only [Act.put, setA, setZ, setS]
                refine take_now 11 rfl ?_
                try simp only [Act.put, setA, setZ, setS]
                refine take_now 12 rfl ?_
                try simp only [Act.put, setA, setZ, setS]
                refine take_now 13 rfl ?_
                try simp only [Act.put, setA, setZ, setS]
                refine only_at 14 (by kernel_rfl) rfl (fun K hK => ?_)
                go_simp
                (go_at_call 80
                 (with_reducible refine (hih.out _ _ _ HBQ.out.drew).mono ?_)
                 rintro e' w7 ⟨he, hb7⟩
                 rw [HQZ.out] at he
                 subst he
                 obtain ⟨Y, rfl⟩ : ∃ W, W = w7 := ⟨_, rfl⟩
                 have GY := Lib.hid ((Below.refl wq.heap.size wq).drew.trans hb7)
                 clear hb7)
                refine hK.out _ _ (KEEP.out _ ?_) (fun hHeld => ?_)
                · (repeat (first | exact Below.refl _ _ | exact GY.out | refine Below.drew ?_ | refine Below.alloc ?_ (by simp) _ | refine Below.setCell ?_ (by simp) _))
                clear hK K
                try simp only [Act.put, setA, setZ, setS]
                refine take_now 15 rfl ?_
                try simp only [Act.put, setA, setZ, setS]
                refine wpAnyH_done (by kernel_rfl) ?_ _
                go_wp2_with fail
                go_roundg (ks.length - (j + 1))
                case measure => have := HJ.out; omega
                case rel => exact ⟨j + 1, by omega, by go_num, by rw [HNX.out, HQY.out, Bool.true_and, decide_eq_false (Nat.succ_ne_zero j)], HW.out.trans (GY.out.mono HW.out.size)⟩
          · have H15 := Lib.hid h15
            have e15 : (op == 15) = false := by simpa using h15
            clear h15
            have HKR := Lib.hid (show kidR op r j = 1 by unfold kidR; rw [if_neg (fun h => H15.out h.1)])
            rw [HKR.out] at HNX
            cases hq : usesX sn 1 (op == 13) y
            · have HQY := Lib.hid hq
              have HQZ := Lib.hid (show usesX sn 1 false y = false by have := hq; rwa [HD13.out] at this)
              clear hq
              go_wp2_with fail
              clear x0 x1 x2 x3 x4
              refine wp_region_held_drew (S := (fun W => W.cell? ⟨w.heap.size, 0, none⟩ = some (.slice E en ek) ∧ W.cell? ⟨w.heap.size, 1, none⟩ = some (.slice (some a) p.nodes.length ck) ∧ W.cell? ⟨w.heap.size + 1, 0, none⟩ = some (.int .i64 op) ∧ W.cell? ⟨w.heap.size + 1, 4, none⟩ = some (.slice (some e) ks.length c) ∧ W.cell? (e.add (j * 5)) = some (.int .i64 o1) ∧ W.cell? { block := (e.add (j * 5)).block, off := (e.add (j * 5)).off + 1 } = some (.string s1) ∧ W.cell? { block := (e.add (j * 5)).block, off := (e.add (j * 5)).off + 2 } = some (.int .i64 n1) ∧ W.cell? { block := (e.add (j * 5)).block, off := (e.add (j * 5)).off + 3 } = some (.slice A1 m1 k1) ∧ W.cell? { block := (e.add (j * 5)).block, off := (e.add (j * 5)).off + 4 } = some (.slice A2 m2 k2))) (by kernel_rfl) ?_ (fun hHeld => ?_)
              · exact KEEP.out _ (Below.refl _ _).drew
              refine take_now 0 rfl ?_
              try simp only [Act.put, setA, setZ, setS]
              refine take_now 1 rfl ?_
              try simp only [Act.put, setA, setZ, setS]
              refine take_now 2 rfl ?_
              try simp only [Act.put, setA, setZ, setS]
              refine take_now 3 rfl ?_
              try simp only [Act.put, setA, setZ, setS]
              refine take_now 4 rfl ?_
              try simp only [Act.put, setA, setZ, setS]
              refine take_now 5 rfl ?_
              try simp only [Act.put, setA, setZ, setS]
              refine take_now 6 rfl ?_
              try simp only [Act.put, setA, setZ, setS]
              refine take_now 7 rfl ?_
              try simp only [Act.put, setA, setZ, setS]
              refine take_now 8 rfl ?_
              try simp only [Act.put, setA, setZ, setS]
              refine take_now 9 rfl ?_
              try simp only [Act.put, setA, setZ, setS]
              refine take_now 10 rfl ?_
              try simp only [Act.put, setA, setZ, setS]
              refine take_now 11 rfl ?_
              try simp only [Act.put, setA, setZ, setS]
              refine take_now 12 rfl ?_
              try simp only [Act.put, setA, setZ, setS]
              refine take_now 13 rfl ?_
              try simp only [Act.put, setA, setZ, setS]
              refine only_at 14 (by kernel_rfl) rfl (fun K hK => ?_)
              go_simp
              (go_at_call 80
               (with_reducible refine (hih.out _ _ _ HBQ.out.drew).mono ?_)
               rintro e' w7 ⟨he, hb7⟩
               rw [HQZ.out] at he
               subst he
               obtain ⟨Y, rfl⟩ : ∃ W, W = w7 := ⟨_, rfl⟩
               have GY := Lib.hid ((Below.refl wq.heap.size wq).drew.trans hb7)
               clear hb7)
              refine hK.out _ _ (KEEP.out _ ?_) (fun hHeld => ?_)
              · (repeat (first | exact Below.refl _ _ | exact GY.out | refine Below.drew ?_ | refine Below.alloc ?_ (by simp) _ | refine Below.setCell ?_ (by simp) _))
              clear hK K
              try simp only [Act.put, setA, setZ, setS]
              refine take_now 15 rfl ?_
              try simp only [Act.put, setA, setZ, setS]
              refine wpAnyH_done (by kernel_rfl) ?_ _
              go_wp2_with fail
              go_ret
              exact ⟨ret_bool (by rw [HLU.out, HNX.out, HQY.out]; rfl), HVU.out.trans ((HW.out.trans (GY.out.mono HW.out.size)).mono HVU.out.size)⟩
            · have HQY := Lib.hid hq
              have HQZ := Lib.hid (show usesX sn 1 false y = true by have := hq; rwa [HD13.out] at this)
              clear hq
              go_wp2_with fail
              clear x0 x1 x2 x3 x4
              refine wp_region_held_drew (S := (fun W => W.cell? ⟨w.heap.size, 0, none⟩ = some (.slice E en ek) ∧ W.cell? ⟨w.heap.size, 1, none⟩ = some (.slice (some a) p.nodes.length ck) ∧ W.cell? ⟨w.heap.size + 1, 0, none⟩ = some (.int .i64 op) ∧ W.cell? ⟨w.heap.size + 1, 4, none⟩ = some (.slice (some e) ks.length c) ∧ W.cell? (e.add (j * 5)) = some (.int .i64 o1) ∧ W.cell? { block := (e.add (j * 5)).block, off := (e.add (j * 5)).off + 1 } = some (.string s1) ∧ W.cell? { block := (e.add (j * 5)).block, off := (e.add (j * 5)).off + 2 } = some (.int .i64 n1) ∧ W.cell? { block := (e.add (j * 5)).block, off := (e.add (j * 5)).off + 3 } = some (.slice A1 m1 k1) ∧ W.cell? { block := (e.add (j * 5)).block, off := (e.add (j * 5)).off + 4 } = some (.slice A2 m2 k2))) (by kernel_rfl) ?_ (fun hHeld => ?_)
              · exact KEEP.out _ (Below.refl _ _).drew
              refine take_now 0 rfl ?_
              try simp only [Act.put, setA, setZ, setS]
              refine take_now 1 rfl ?_
              try simp only [Act.put, setA, setZ, setS]
              refine take_now 2 rfl ?_
              try simp only [Act.put, setA, setZ, setS]
              refine take_now 3 rfl ?_
              try simp only [Act.put, setA, setZ, setS]
              refine take_now 4 rfl ?_
              try simp only [Act.put, setA, setZ, setS]
              refine take_now 5 rfl ?_
              try simp only [Act.put, setA, setZ, setS]
              refine take_now 6 rfl ?_
              try simp only [Act.put, setA, setZ, setS]
              refine take_now 7 rfl ?_
              try simp only [Act.put, setA, setZ, setS]
              refine take_now 8 rfl ?_
              try simp only [Act.put, setA, setZ, setS]
              refine take_now 9 rfl ?_
              try simp only [Act.put, setA, setZ, setS]
              refine take_now 10 rfl ?_
              try simp only [Act.put, setA, setZ, setS]
              refine take_now 11 rfl ?_
              try simp only [Act.put, setA, setZ, setS]
              refine take_now 12 rfl ?_
              try simp only [Act.put, setA, setZ, setS]
              refine take_now 13 rfl ?_
              try simp only [Act.put, setA, setZ, setS]
              refine only_at 14 (by kernel_rfl) rfl (fun K hK => ?_)
              go_simp
              (go_at_call 80
               (with_reducible refine (hih.out _ _ _ HBQ.out.drew).mono ?_)
               rintro e' w7 ⟨he, hb7⟩
               rw [HQZ.out] at he
               subst he
               obtain ⟨Y, rfl⟩ : ∃ W, W = w7 := ⟨_, rfl⟩
               have GY := Lib.hid ((Below.refl wq.heap.size wq).drew.trans hb7)
               clear hb7)
              refine hK.out _ _ (KEEP.out _ ?_) (fun hHeld => ?_)
              · (repeat (first | exact Below.refl _ _ | exact GY.out | refine Below.drew ?_ | refine Below.alloc ?_ (by simp) _ | refine Below.setCell ?_ (by simp) _))
              clear hK K
              try simp only [Act.put, setA, setZ, setS]
              refine take_now 15 rfl ?_
              try simp only [Act.put, setA, setZ, setS]
              refine wpAnyH_done (by kernel_rfl) ?_ _
              go_wp2_with fail
              go_roundg (ks.length - (j + 1))
              case measure => have := HJ.out; omega
              case rel => exact ⟨j + 1, by omega, by go_num, by rw [HNX.out, HQY.out, Bool.true_and, decide_eq_false (Nat.succ_ne_zero j)], HW.out.trans (GY.out.mono HW.out.size)⟩
        · have hje : j = ks.length := by omega
          have HN := Lib.hid (show usesXs sn op r (op == 13) true ks = true by rw [HUX.out, hje, List.drop_length]; rfl)
          clear hje
          go_wp2_with fail
          go_ret
          exact ⟨ret_bool (by rw [HLU.out, HN.out]), HVU.out.trans (HW.out.mono HVU.out.size)⟩
    · have HLU := Lib.hid (show usesX sn r true (.mk op nm m cs ks) = usesXs sn op r true true ks by rw [HQ.out, HUN.out]; rfl)
      go_wp2_with (go_at_call 18
                   (with_reducible refine (HVARS.out _ (HB.out.trans (HW2.out.mono hsz))).mono ?_)
                   rintro e' w7 ⟨v8, rfl, ho8, hb8⟩
                   obtain ⟨vA, vn, vk, rfl, hvn⟩ := ho8.shape
                   obtain ⟨V, rfl⟩ : ∃ W, W = w7 := ⟨_, rfl⟩
                   have HVS := Lib.hid ho8.strs
                   have HV := Lib.hid (HW2.out.trans (hb8.mono HW2.out.size))
                   have BP := Lib.hid (show V.heap[w.heap.size]? = some (.cells #[.slice E en ek, .slice (some a) p.nodes.length ck] 25 (0, 0)) from box_next hb8 (alloc_below (heap_alloc_new w _)))
                   have BX := Lib.hid (show V.heap[w.heap.size + 1]? = some (.cells #[.int .i64 op, .string (str nm), .int .i64 m, .slice cA cs.length cc, .slice A ks.length c] 50 (0, 0)) from box_next hb8 (alloc_at (by simp)))
                   have HBV := Lib.hid (HB.out.trans (HV.out.mono hsz))
                   have hszV := HBV.out.size
                   obtain ⟨p0, p1⟩ := row2 BP.out
                   obtain ⟨x0, x1, x2, x3, x4⟩ := row5 BX.out
                   clear ho8 hb8 hvn)
      have GU0 := Lib.hid (Below.refl V.heap.size V)
      have BPU := Lib.hid (box_next GU0.out BP.out)
      have BXU := Lib.hid (box_next GU0.out BX.out)
      have HVU := Lib.hid (HV.out.trans (GU0.out.mono HV.out.size))
      have HBU := Lib.hid (HB.out.trans (HVU.out.mono hsz))
      have hszU := HBU.out.size
      clear p0 p1 x0 x1 x2 x3 x4
      go_loopg [18] ks.length (fun g v wr => ∃ j : Nat, j + g = ks.length ∧ v = .int .i64 j ∧ usesXs sn op r true true ks = usesXs sn op r true (decide (j = 0)) (ks.drop j) ∧ Below V.heap.size V wr)
      case atStart => exact ⟨0, by omega, rfl, by simp, Below.refl _ _⟩
      case round =>
        obtain ⟨wq, rfl⟩ : ∃ W, W = wr := ⟨_, rfl⟩
        obtain ⟨j, hjg, rfl, hu, hbw⟩ := hrel
        have HJ := Lib.hid hjg
        have HUX := Lib.hid hu
        have HW := Lib.hid hbw
        have HBQ := Lib.hid (HBU.out.trans (hbw.mono hszU))
        obtain ⟨x0, x1, x2, x3, x4⟩ := row5 (box_next hbw BXU.out)
        have hjl : j ≤ ks.length := by omega
        clear hjg hu hbw
        by_cases hlt : j < ks.length
        · obtain ⟨y, hy⟩ : ∃ y, ks[j]? = some y := ⟨_, List.getElem?_eq_getElem hlt⟩
          have hC := hkk j y hy
          have hih := Lib.hid (ih j y hy (HRK.out y (List.mem_of_getElem? hy)))
          have hxk := hx j y hy
          have HD := Lib.hid (drop_consS hy)
          obtain ⟨o1, s1, n1, A1, m1, k1, A2, m2, k2, hLL⟩ := hxk.shape
          generalize Ck j = LL at hC hih hxk hLL
          subst hLL
          have HEC := Lib.hid hC
          obtain ⟨e, rfl, _, _, _, _, _, _, _⟩ := elem5 (hC.under HBQ.out)
          have HNX := Lib.hid (show usesXs sn op r true true ks = (usesX sn (kidR op r j) true y && usesXs sn op r true false (ks.drop (j + 1))) by
            rw [HUX.out, HD.out, usesXs_cons]
            congr 2 <;> (unfold kidR; by_cases h0 : j = 0 <;> simp [h0]))
          have KEEP := Lib.hid (show ∀ W, Below wq.heap.size wq W → (fun W => W.cell? ⟨w.heap.size, 0, none⟩ = some (.slice E en ek) ∧ W.cell? ⟨w.heap.size, 1, none⟩ = some (.slice (some a) p.nodes.length ck) ∧ W.cell? ⟨w.heap.size + 1, 0, none⟩ = some (.int .i64 op) ∧ W.cell? ⟨w.heap.size + 1, 4, none⟩ = some (.slice (some e) ks.length c) ∧ W.cell? (e.add (j * 5)) = some (.int .i64 o1) ∧ W.cell? { block := (e.add (j * 5)).block, off := (e.add (j * 5)).off + 1 } = some (.string s1) ∧ W.cell? { block := (e.add (j * 5)).block, off := (e.add (j * 5)).off + 2 } = some (.int .i64 n1) ∧ W.cell? { block := (e.add (j * 5)).block, off := (e.add (j * 5)).off + 3 } = some (.slice A1 m1 k1) ∧ W.cell? { block := (e.add (j * 5)).block, off := (e.add (j * 5)).off + 4 } = some (.slice A2 m2 k2)) W from
            fun W hW => by
              obtain ⟨e2, ee2, _, _, d0, d1, d2, d3, d4⟩ := elem5 (HEC.out.under (HBQ.out.trans (hW.mono HBQ.out.size)))
              cases ee2
              obtain ⟨p0, p1⟩ := row2 (box_next hW (box_next HW.out BPU.out))
              obtain ⟨x0, _, _, _, x4⟩ := row5 (box_next hW (box_next HW.out BXU.out))
              exact ⟨p0, p1, x0, x4, d0, d1, d2, d3, d4⟩)
          clear hC hxk hy
          by_cases h15 : op = 15
          · have H15 := Lib.hid h15
            have e15 : (op == 15) = true := by rw [h15]; rfl
            clear h15
            by_cases hj0 : j = 0
            · have HJ0 := Lib.hid hj0
              have e0 : ((j : Int) == 0) = true := by rw [hj0]; rfl
              clear hj0
              have HKR := Lib.hid (show kidR op r j = r by unfold kidR; rw [if_pos ⟨H15.out, by rw [HJ0.out]; rfl⟩])
              rw [HKR.out] at HNX
              cases hq : usesX sn r true y
              · have HQY := Lib.hid hq
                clear hq
                go_wp2_with fail
                clear x0 x1 x2 x3 x4
                refine wp_region_held_drew (S := (fun W => W.cell? ⟨w.heap.size, 0, none⟩ = some (.slice E en ek) ∧ W.cell? ⟨w.heap.size, 1, none⟩ = some (.slice (some a) p.nodes.length ck) ∧ W.cell? ⟨w.heap.size + 1, 0, none⟩ = some (.int .i64 op) ∧ W.cell? ⟨w.heap.size + 1, 4, none⟩ = some (.slice (some e) ks.length c) ∧ W.cell? (e.add (j * 5)) = some (.int .i64 o1) ∧ W.cell? { block := (e.add (j * 5)).block, off := (e.add (j * 5)).off + 1 } = some (.string s1) ∧ W.cell? { block := (e.add (j * 5)).block, off := (e.add (j * 5)).off + 2 } = some (.int .i64 n1) ∧ W.cell? { block := (e.add (j * 5)).block, off := (e.add (j * 5)).off + 3 } = some (.slice A1 m1 k1) ∧ W.cell? { block := (e.add (j * 5)).block, off := (e.add (j * 5)).off + 4 } = some (.slice A2 m2 k2))) (by kernel_rfl) ?_ (fun hHeld => ?_)
                · exact KEEP.out _ (Below.refl _ _).drew
                refine take_now 0 rfl ?_
                try simp only [Act.put, setA, setZ, setS]
                refine take_now 1 rfl ?_
                try simp only [Act.put, setA, setZ, setS]
                refine take_now 2 rfl ?_
                try simp only [Act.put, setA, setZ, setS]
                refine take_now 3 rfl ?_
                try simp only [Act.put, setA, setZ, setS]
                refine take_now 4 rfl ?_
                try simp only [Act.put, setA, setZ, setS]
                refine take_now 5 rfl ?_
                try simp only [Act.put, setA, setZ, setS]
                refine take_now 6 rfl ?_
                try simp only [Act.put, setA, setZ, setS]
                refine take_now 7 rfl ?_
                try simp only [Act.put, setA, setZ, setS]
                refine take_now 8 rfl ?_
                try simp only [Act.put, setA, setZ, setS]
                refine skip_now 9 rfl ?_
                try simp only [Act.put, setA, setZ, setS]
                refine skip_now 10 rfl ?_
                try simp only [Act.put, setA, setZ, setS]
                refine skip_now 11 rfl ?_
                try simp only [Act.put, setA, setZ, setS]
                refine take_now 12 rfl ?_
                try simp only [Act.put, setA, setZ, setS]
                refine take_now 13 rfl ?_
                try simp only [Act.put, setA, setZ, setS]
                refine only_at 14 (by kernel_rfl) rfl (fun K hK => ?_)
                go_simp
                (go_at_call 80
                 (with_reducible refine (hih.out _ _ _ HBQ.out.drew).mono ?_)
                 rintro e' w7 ⟨he, hb7⟩
                 rw [HQY.out] at he
                 subst he
                 obtain ⟨Y, rfl⟩ : ∃ W, W = w7 := ⟨_, rfl⟩
                 have GY := Lib.hid ((Below.refl wq.heap.size wq).drew.trans hb7)
                 clear hb7)
                refine hK.out _ _ (KEEP.out _ ?_) (fun hHeld => ?_)
                · (repeat (first | exact Below.refl _ _ | exact GY.out | refine Below.drew ?_ | refine Below.alloc ?_ (by simp) _ | refine Below.setCell ?_ (by simp) _))
                clear hK K
                try simp only [Act.put, setA, setZ, setS]
                refine take_now 15 rfl ?_
                try simp only [Act.put, setA, setZ, setS]
                refine wpAnyH_done (by kernel_rfl) ?_ _
                go_wp2_with fail
                go_ret
                exact ⟨ret_bool (by rw [HLU.out, HNX.out, HQY.out]; rfl), HVU.out.trans ((HW.out.trans (GY.out.mono HW.out.size)).mono HVU.out.size)⟩
              · have HQY := Lib.hid hq
                clear hq
                go_wp2_with fail
                clear x0 x1 x2 x3 x4
                refine wp_region_held_drew (S := (fun W => W.cell? ⟨w.heap.size, 0, none⟩ = some (.slice E en ek) ∧ W.cell? ⟨w.heap.size, 1, none⟩ = some (.slice (some a) p.nodes.length ck) ∧ W.cell? ⟨w.heap.size + 1, 0, none⟩ = some (.int .i64 op) ∧ W.cell? ⟨w.heap.size + 1, 4, none⟩ = some (.slice (some e) ks.length c) ∧ W.cell? (e.add (j * 5)) = some (.int .i64 o1) ∧ W.cell? { block := (e.add (j * 5)).block, off := (e.add (j * 5)).off + 1 } = some (.string s1) ∧ W.cell? { block := (e.add (j * 5)).block, off := (e.add (j * 5)).off + 2 } = some (.int .i64 n1) ∧ W.cell? { block := (e.add (j * 5)).block, off := (e.add (j * 5)).off + 3 } = some (.slice A1 m1 k1) ∧ W.cell? { block := (e.add (j * 5)).block, off := (e.add (j * 5)).off + 4 } = some (.slice A2 m2 k2))) (by kernel_rfl) ?_ (fun hHeld => ?_)
                · exact KEEP.out _ (Below.refl _ _).drew
                refine take_now 0 rfl ?_
                try simp only [Act.put, setA, setZ, setS]
                refine take_now 1 rfl ?_
                try simp only [Act.put, setA, setZ, setS]
                refine take_now 2 rfl ?_
                try simp only [Act.put, setA, setZ, setS]
                refine take_now 3 rfl ?_
                try simp only [Act.put, setA, setZ, setS]
                refine take_now 4 rfl ?_
                try simp only [Act.put, setA, setZ, setS]
                refine take_now 5 rfl ?_
                try simp only [Act.put, setA, setZ, setS]
                refine take_now 6 rfl ?_
                try simp only [Act.put, setA, setZ, setS]
                refine take_now 7 rfl ?_
                try simp only [Act.put, setA, setZ, setS]
                refine take_now 8 rfl ?_
                try simp only [Act.put, setA, setZ, setS]
                refine skip_now 9 rfl ?_
                try simp only [Act.put, setA, setZ, setS]
                refine skip_now 10 rfl ?_
                try simp only [Act.put, setA, setZ, setS]
                refine skip_now 11 rfl ?_
                try simp only [Act.put, setA, setZ, setS]
                refine take_now 12 rfl ?_
                try simp only [Act.put, setA, setZ, setS]
                refine take_now 13 rfl ?_
                try simp only [Act.put, setA, setZ, setS]
                refine only_at 14 (by kernel_rfl) rfl (fun K hK => ?_)
                go_simp
                (go_at_call 80
                 (with_reducible refine (hih.out _ _ _ HBQ.out.drew).mono ?_)
                 rintro e' w7 ⟨he, hb7⟩
                 rw [HQY.out] at he
                 subst he
                 obtain ⟨Y, rfl⟩ : ∃ W, W = w7 := ⟨_, rfl⟩
                 have GY := Lib.hid ((Below.refl wq.heap.size wq).drew.trans hb7)
                 clear hb7)
                refine hK.out _ _ (KEEP.out _ ?_) (fun hHeld => ?_)
                · (repeat (first | exact Below.refl _ _ | exact GY.out | refine Below.drew ?_ | refine Below.alloc ?_ (by simp) _ | refine Below.setCell ?_ (by simp) _))
                clear hK K
                try simp only [Act.put, setA, setZ, setS]
                refine take_now 15 rfl ?_
                try simp only [Act.put, setA, setZ, setS]
                refine wpAnyH_done (by kernel_rfl) ?_ _
                go_wp2_with fail
                go_roundg (ks.length - (j + 1))
                case measure => have := HJ.out; omega
                case rel => exact ⟨j + 1, by omega, by go_num, by rw [HNX.out, HQY.out, Bool.true_and, decide_eq_false (Nat.succ_ne_zero j)], HW.out.trans (GY.out.mono HW.out.size)⟩
            · have HJ0 := Lib.hid hj0
              have e0 : ((j : Int) == 0) = false := by rw [beq_eq_false_iff_ne]; omega
              clear hj0
              have HKR := Lib.hid (show kidR op r j = 1 by unfold kidR; rw [if_neg (fun h => HJ0.out (by have := h.2; omega))])
              rw [HKR.out] at HNX
              cases hq : usesX sn 1 true y
              · have HQY := Lib.hid hq
                clear hq
                go_wp2_with fail
                clear x0 x1 x2 x3 x4
                refine wp_region_held_drew (S := (fun W => W.cell? ⟨w.heap.size, 0, none⟩ = some (.slice E en ek) ∧ W.cell? ⟨w.heap.size, 1, none⟩ = some (.slice (some a) p.nodes.length ck) ∧ W.cell? ⟨w.heap.size + 1, 0, none⟩ = some (.int .i64 op) ∧ W.cell? ⟨w.heap.size + 1, 4, none⟩ = some (.slice (some e) ks.length c) ∧ W.cell? (e.add (j * 5)) = some (.int .i64 o1) ∧ W.cell? { block := (e.add (j * 5)).block, off := (e.add (j * 5)).off + 1 } = some (.string s1) ∧ W.cell? { block := (e.add (j * 5)).block, off := (e.add (j * 5)).off + 2 } = some (.int .i64 n1) ∧ W.cell? { block := (e.add (j * 5)).block, off := (e.add (j * 5)).off + 3 } = some (.slice A1 m1 k1) ∧ W.cell? { block := (e.add (j * 5)).block, off := (e.add (j * 5)).off + 4 } = some (.slice A2 m2 k2))) (by kernel_rfl) ?_ (fun hHeld => ?_)
                · exact KEEP.out _ (Below.refl _ _).drew
                refine take_now 0 rfl ?_
                try simp only [Act.put, setA, setZ, setS]
                refine take_now 1 rfl ?_
                try simp only [Act.put, setA, setZ, setS]
                refine take_now 2 rfl ?_
                try simp only [Act.put, setA, setZ, setS]
                refine take_now 3 rfl ?_
                try simp only [Act.put, setA, setZ, setS]
                refine take_now 4 rfl ?_
                try simp only [Act.put, setA, setZ, setS]
                refine take_now 5 rfl ?_
                try simp only [Act.put, setA, setZ, setS]
                refine take_now 6 rfl ?_
                try simp only [Act.put, setA, setZ, setS]
                refine take_now 7 rfl ?_
                try simp only [Act.put, setA, setZ, setS]
                refine take_now 8 rfl ?_
                try simp only [Act.put, setA, setZ, setS]
                refine skip_now 9 rfl ?_
                try simp only [Act.put, setA, setZ, setS]
                refine skip_now 10 rfl ?_
                try simp only [Act.put, setA, setZ, setS]
                refine skip_now 11 rfl ?_
                try simp only [Act.put, setA, setZ, setS]
                refine take_now 12 rfl ?_
                try simp only [Act.put, setA, setZ, setS]
                refine take_now 13 rfl ?_
                try simp only [Act.put, setA, setZ, setS]
                refine only_at 14 (by kernel_rfl) rfl (fun K hK => ?_)
                go_simp
                (go_at_call 80
                 (with_reducible refine (hih.out _ _ _ HBQ.out.drew).mono ?_)
                 rintro e' w7 ⟨he, hb7⟩
                 rw [HQY.out] at he
                 subst he
                 obtain ⟨Y, rfl⟩ : ∃ W, W = w7 := ⟨_, rfl⟩
                 have GY := Lib.hid ((Below.refl wq.heap.size wq).drew.trans hb7)
                 clear hb7)
                refine hK.out _ _ (KEEP.out _ ?_) (fun hHeld => ?_)
                · (repeat (first | exact Below.refl _ _ | exact GY.out | refine Below.drew ?_ | refine Below.alloc ?_ (by simp) _ | refine Below.setCell ?_ (by simp) _))
                clear hK K
                try simp only [Act.put, setA, setZ, setS]
                refine take_now 15 rfl ?_
                try simp only [Act.put, setA, setZ, setS]
                refine wpAnyH_done (by kernel_rfl) ?_ _
                go_wp2_with fail
                go_ret
                exact ⟨ret_bool (by rw [HLU.out, HNX.out, HQY.out]; rfl), HVU.out.trans ((HW.out.trans (GY.out.mono HW.out.size)).mono HVU.out.size)⟩
              · have HQY := Lib.hid hq
                clear hq
                go_wp2_with fail
                clear x0 x1 x2 x3 x4
                refine wp_region_held_drew (S := (fun W => W.cell? ⟨w.heap.size, 0, none⟩ = some (.slice E en ek) ∧ W.cell? ⟨w.heap.size, 1, none⟩ = some (.slice (some a) p.nodes.length ck) ∧ W.cell? ⟨w.heap.size + 1, 0, none⟩ = some (.int .i64 op) ∧ W.cell? ⟨w.heap.size + 1, 4, none⟩ = some (.slice (some e) ks.length c) ∧ W.cell? (e.add (j * 5)) = some (.int .i64 o1) ∧ W.cell? { block := (e.add (j * 5)).block, off := (e.add (j * 5)).off + 1 } = some (.string s1) ∧ W.cell? { block := (e.add (j * 5)).block, off := (e.add (j * 5)).off + 2 } = some (.int .i64 n1) ∧ W.cell? { block := (e.add (j * 5)).block, off := (e.add (j * 5)).off + 3 } = some (.slice A1 m1 k1) ∧ W.cell? { block := (e.add (j * 5)).block, off := (e.add (j * 5)).off + 4 } = some (.slice A2 m2 k2))) (by kernel_rfl) ?_ (fun hHeld => ?_)
                · exact KEEP.out _ (Below.refl _ _).drew
                refine take_now 0 rfl ?_
                try simp only [Act.put, setA, setZ, setS]
                refine take_now 1 rfl ?_
                try simp only [Act.put, setA, setZ, setS]
                refine take_now 2 rfl ?_
                try simp only [Act.put, setA, setZ, setS]
                refine take_now 3 rfl ?_
                try simp only [Act.put, setA, setZ, setS]
                refine take_now 4 rfl ?_
                try simp only [Act.put, setA, setZ, setS]
                refine take_now 5 rfl ?_
                try simp only [Act.put, setA, setZ, setS]
                refine take_now 6 rfl ?_
                try simp only [Act.put, setA, setZ, setS]
                refine take_now 7 rfl ?_
                try simp only [Act.put, setA, setZ, setS]
                refine take_now 8 rfl ?_
                try simp only [Act.put, setA, setZ, setS]
                refine skip_now 9 rfl ?_
                try simp only [Act.put, setA, setZ, setS]
                refine skip_now 10 rfl ?_
                try simp only [Act.put, setA, setZ, setS]
                refine skip_now 11 rfl ?_
                try simp only [Act.put, setA, setZ, setS]
                refine take_now 12 rfl ?_
                try simp only [Act.put, setA, setZ, setS]
                refine take_now 13 rfl ?_
                try simp only [Act.put, setA, setZ, setS]
                refine only_at 14 (by kernel_rfl) rfl (fun K hK => ?_)
                go_simp
                (go_at_call 80
                 (with_reducible refine (hih.out _ _ _ HBQ.out.drew).mono ?_)
                 rintro e' w7 ⟨he, hb7⟩
                 rw [HQY.out] at he
                 subst he
                 obtain ⟨Y, rfl⟩ : ∃ W, W = w7 := ⟨_, rfl⟩
                 have GY := Lib.hid ((Below.refl wq.heap.size wq).drew.trans hb7)
                 clear hb7)
                refine hK.out _ _ (KEEP.out _ ?_) (fun hHeld => ?_)
                · (repeat (first | exact Below.refl _ _ | exact GY.out | refine Below.drew ?_ | refine Below.alloc ?_ (by simp) _ | refine Below.setCell ?_ (by simp) _))
                clear hK K
                try simp only [Act.put, setA, setZ, setS]
                refine take_now 15 rfl ?_
                try simp only [Act.put, setA, setZ, setS]
                refine wpAnyH_done (by kernel_rfl) ?_ _
                go_wp2_with fail
                go_roundg (ks.length - (j + 1))
                case measure => have := HJ.out; omega
                case rel => exact ⟨j + 1, by omega, by go_num, by rw [HNX.out, HQY.out, Bool.true_and, decide_eq_false (Nat.succ_ne_zero j)], HW.out.trans (GY.out.mono HW.out.size)⟩
          · have H15 := Lib.hid h15
            have e15 : (op == 15) = false := by simpa using h15
            clear h15
            have HKR := Lib.hid (show kidR op r j = 1 by unfold kidR; rw [if_neg (fun h => H15.out h.1)])
            rw [HKR.out] at HNX
            cases hq : usesX sn 1 true y
            · have HQY := Lib.hid hq
              clear hq
              go_wp2_with fail
              clear x0 x1 x2 x3 x4
              refine wp_region_held_drew (S := (fun W => W.cell? ⟨w.heap.size, 0, none⟩ = some (.slice E en ek) ∧ W.cell? ⟨w.heap.size, 1, none⟩ = some (.slice (some a) p.nodes.length ck) ∧ W.cell? ⟨w.heap.size + 1, 0, none⟩ = some (.int .i64 op) ∧ W.cell? ⟨w.heap.size + 1, 4, none⟩ = some (.slice (some e) ks.length c) ∧ W.cell? (e.add (j * 5)) = some (.int .i64 o1) ∧ W.cell? { block := (e.add (j * 5)).block, off := (e.add (j * 5)).off + 1 } = some (.string s1) ∧ W.cell? { block := (e.add (j * 5)).block, off := (e.add (j * 5)).off + 2 } = some (.int .i64 n1) ∧ W.cell? { block := (e.add (j * 5)).block, off := (e.add (j * 5)).off + 3 } = some (.slice A1 m1 k1) ∧ W.cell? { block := (e.add (j * 5)).block, off := (e.add (j * 5)).off + 4 } = some (.slice A2 m2 k2))) (by kernel_rfl) ?_ (fun hHeld => ?_)
              · exact KEEP.out _ (Below.refl _ _).drew
              refine take_now 0 rfl ?_
              try simp only [Act.put, setA, setZ, setS]
              refine take_now 1 rfl ?_
              try simp only [Act.put, setA, setZ, setS]
              refine take_now 2 rfl ?_
              try simp only [Act.put, setA, setZ, setS]
              refine take_now 3 rfl ?_
              try simp only [Act.put, setA, setZ, setS]
              refine take_now 4 rfl ?_
              try simp only [Act.put, setA, setZ, setS]
              refine take_now 5 rfl ?_
              try simp only [Act.put, setA, setZ, setS]
              refine take_now 6 rfl ?_
              try simp only [Act.put, setA, setZ, setS]
              refine take_now 7 rfl ?_
              try simp only [Act.put, setA, setZ, setS]
              refine take_now 8 rfl ?_
              try simp only [Act.put, setA, setZ, setS]
              refine skip_now 9 rfl ?_
              try simp only [Act.put, setA, setZ, setS]
              refine skip_now 10 rfl ?_
              try simp only [Act.put, setA, setZ, setS]
              refine skip_now 11 rfl ?_
              try simp only [Act.put, setA, setZ, setS]
              refine take_now 12 rfl ?_
              try simp only [Act.put, setA, setZ, setS]
              refine take_now 13 rfl ?_
              try simp only [Act.put, setA, setZ, setS]
              refine only_at 14 (by kernel_rfl) rfl (fun K hK => ?_)
              go_simp
              (go_at_call 80
               (with_reducible refine (hih.out _ _ _ HBQ.out.drew).mono ?_)
               rintro e' w7 ⟨he, hb7⟩
               rw [HQY.out] at he
               subst he
               obtain ⟨Y, rfl⟩ : ∃ W, W = w7 := ⟨_, rfl⟩
               have GY := Lib.hid ((Below.refl wq.heap.size wq).drew.trans hb7)
               clear hb7)
              refine hK.out _ _ (KEEP.out _ ?_) (fun hHeld => ?_)
              · (repeat (first | exact Below.refl _ _ | exact GY.out | refine Below.drew ?_ | refine Below.alloc ?_ (by simp) _ | refine Below.setCell ?_ (by simp) _))
              clear hK K
              try simp only [Act.put, setA, setZ, setS]
              refine take_now 15 rfl ?_
              try simp only [Act.put, setA, setZ, setS]
              refine wpAnyH_done (by kernel_rfl) ?_ _
              go_wp2_with fail
              go_ret
              exact ⟨ret_bool (by rw [HLU.out, HNX.out, HQY.out]; rfl), HVU.out.trans ((HW.out.trans (GY.out.mono HW.out.size)).mono HVU.out.size)⟩
            · have HQY := Lib.hid hq
              clear hq
              go_wp2_with fail
              clear x0 x1 x2 x3 x4
              refine wp_region_held_drew (S := (fun W => W.cell? ⟨w.heap.size, 0, none⟩ = some (.slice E en ek) ∧ W.cell? ⟨w.heap.size, 1, none⟩ = some (.slice (some a) p.nodes.length ck) ∧ W.cell? ⟨w.heap.size + 1, 0, none⟩ = some (.int .i64 op) ∧ W.cell? ⟨w.heap.size + 1, 4, none⟩ = some (.slice (some e) ks.length c) ∧ W.cell? (e.add (j * 5)) = some (.int .i64 o1) ∧ W.cell? { block := (e.add (j * 5)).block, off := (e.add (j * 5)).off + 1 } = some (.string s1) ∧ W.cell? { block := (e.add (j * 5)).block, off := (e.add (j * 5)).off + 2 } = some (.int .i64 n1) ∧ W.cell? { block := (e.add (j * 5)).block, off := (e.add (j * 5)).off + 3 } = some (.slice A1 m1 k1) ∧ W.cell? { block := (e.add (j * 5)).block, off := (e.add (j * 5)).off + 4 } = some (.slice A2 m2 k2))) (by kernel_rfl) ?_ (fun hHeld => ?_)
              · exact KEEP.out _ (Below.refl _ _).drew
              refine take_now 0 rfl ?_
              try simp only [Act.put, setA, setZ, setS]
              refine take_now 1 rfl ?_
              try simp only [Act.put, setA, setZ, setS]
              refine take_now 2 rfl ?_
              try simp only [Act.put, setA, setZ, setS]
              refine take_now 3 rfl ?_
              try simp only [Act.put, setA, setZ, setS]
              refine take_now 4 rfl ?_
              try simp only [Act.put, setA, setZ, setS]
              refine take_now 5 rfl ?_
              try simp only [Act.put, setA, setZ, setS]
              refine take_now 6 rfl ?_
              try simp only [Act.put, setA, setZ, setS]
              refine take_now 7 rfl ?_
              try simp only [Act.put, setA, setZ, setS]
              refine take_now 8 rfl ?_
              try simp only [Act.put, setA, setZ, setS]
              refine skip_now 9 rfl ?_
              try simp only [Act.put, setA, setZ, setS]
              refine skip_now 10 rfl ?_
              try simp only [Act.put, setA, setZ, setS]
              refine skip_now 11 rfl ?_
              try simp only [Act.put, setA, setZ, setS]
              refine take_now 12 rfl ?_
              try simp only [Act.put, setA, setZ, setS]
              refine take_now 13 rfl ?_
              try simp only [Act.put, setA, setZ, setS]
              refine only_at 14 (by kernel_rfl) rfl (fun K hK => ?_)
              go_simp
              (go_at_call 80
               (with_reducible refine (hih.out _ _ _ HBQ.out.drew).mono ?_)
               rintro e' w7 ⟨he, hb7⟩
               rw [HQY.out] at he
               subst he
               obtain ⟨Y, rfl⟩ : ∃ W, W = w7 := ⟨_, rfl⟩
               have GY := Lib.hid ((Below.refl wq.heap.size wq).drew.trans hb7)
               clear hb7)
              refine hK.out _ _ (KEEP.out _ ?_) (fun hHeld => ?_)
              · (repeat (first | exact Below.refl _ _ | exact GY.out | refine Below.drew ?_ | refine Below.alloc ?_ (by simp) _ | refine Below.setCell ?_ (by simp) _))
              clear hK K
              try simp only [Act.put, setA, setZ, setS]
              refine take_now 15 rfl ?_
              try simp only [Act.put, setA, setZ, setS]
              refine wpAnyH_done (by kernel_rfl) ?_ _
              go_wp2_with fail
              go_roundg (ks.length - (j + 1))
              case measure => have := HJ.out; omega
              case rel => exact ⟨j + 1, by omega, by go_num, by rw [HNX.out, HQY.out, Bool.true_and, decide_eq_false (Nat.succ_ne_zero j)], HW.out.trans (GY.out.mono HW.out.size)⟩
        · have hje : j = ks.length := by omega
          have HN := Lib.hid (show usesXs sn op r true true ks = true by rw [HUX.out, hje, List.drop_length]; rfl)
          clear hje
          go_wp2_with fail
          go_ret
          exact ⟨ret_bool (by rw [HLU.out, HN.out]), HVU.out.trans (HW.out.mono HVU.out.size)⟩
end Go.Proofs.YtbpbnebcbjacdaaGreat
