/-
  The reference's order: the least item that can stand next, again and again.
-/
import Derived.Test.YtifbdglhfoimjaaGreatDoorCauNeed
import Derived.Test.YtifbdglhfoimjaaGreatDoorCauOrdP
namespace Go.Proofs.YtifbdglhfoimjaaGreatDoor
open Go.RowKit

/-- which items stand -/
def doneV (n : Nat) (out : List Nat) : List Value := (List.range n).map fun d => .bool (decide (d ∈ out))
theorem doneV_get {n d : Nat} (out : List Nat) (h : d < n) : (doneV n out)[d]? = some (.bool (decide (d ∈ out))) := by simp [doneV, h]
theorem doneV_start (n : Nat) : List.replicate n (.bool false) = doneV n [] := by
  apply List.ext_getElem?
  intro d
  by_cases h : d < n
  · rw [doneV_get _ h]; simp [h]
  · simp [doneV, h]
theorem doneV_set {n b : Nat} (out : List Nat) (_ : b < n) : (doneV n out).set b (.bool true) = doneV n (out ++ [b]) := by
  apply List.ext_getElem?
  intro d
  by_cases h : d < n
  · rw [doneV_get _ h]
    by_cases e : b = d
    · subst e
      rw [List.getElem?_set_self (by simpa [doneV] using h)]
      simp
    · rw [List.getElem?_set_ne e, doneV_get _ h]
      have : d ∈ out ++ [b] ↔ d ∈ out := by simp [Ne.symm e]
      simp [Ne.symm e]
  · simp [doneV, h]
def DoneAt (B : Nat) (w : World) (D n : Nat) (out : List Nat) : Prop := w.ownsRow B 4 1 (.slice (some ⟨D, 0, none⟩) n n) n (doneV n out)
theorem DoneAt.get {B D n d : Nat} {w : World} {out : List Nat} (h : DoneAt B w D n out) (hd : d < n) : w.cell? ⟨D, d, none⟩ = some (.bool (decide (d ∈ out))) ∧ w.frozen? ⟨D, d, none⟩ = false := by
  have hc := World.ownsRow.cells h (g := D) rfl d _ (doneV_get out hd)
  have hadd : (⟨D, 0, none⟩ : Addr).add d = ⟨D, d, none⟩ := by unfold Addr.add; split <;> simp_all
  rw [hadd] at hc
  obtain ⟨_, _, cur, hcur⟩ := row_block h (g := D) rfl
  exact ⟨hc, row_frz hcur d⟩
theorem DoneAt.set {B D n b : Nat} {w : World} {out : List Nat} (h : DoneAt B w D n out) (hb : b < n) : DoneAt B (w.setCell ⟨D, b, none⟩ (.bool true)) D n (out ++ [b]) := by
  unfold DoneAt
  rw [← doneV_set out hb]
  exact (World.ownsRow.stored h b (.bool true)).1
theorem DoneAt.under {B D n : Nat} {w w' : World} {out : List Nat} (h : DoneAt B w D n out) (hb : Below w.heap.size w w') : DoneAt B w' D n out := row_under h hb
theorem DoneAt.low {B D n : Nat} {w w' : World} {out : List Nat} (h : DoneAt B w D n out) (hb : Below (D + 1) w w') : DoneAt B w' D n out := row_keep h fun g o hg ho => (hb.block g (by
  have : D = g := by simpa [Value.ownBlock] using hg
  omega)).trans ho
/-- the least from k on that can stand next -/
def nxt (S : List (List Nat)) (out : List Nat) (k : Nat) : Option Nat := (List.range S.length).find? (fun r => decide (k ≤ r) && decide (Rdy S out r))
theorem nxt_top (S : List (List Nat)) (out : List Nat) : nxt S out S.length = none := by
  unfold nxt
  rw [List.find?_eq_none]
  intro a ha
  have := List.mem_range.1 ha
  simp; omega
theorem nxt_yes {S : List (List Nat)} {out : List Nat} {k : Nat} (h : Rdy S out k) : nxt S out k = some k := by
  unfold nxt
  refine range_find h.1 (by simpa using h) fun a ha => ?_
  simp; omega
theorem nxt_no {S : List (List Nat)} {out : List Nat} {k : Nat} (h : ¬ Rdy S out k) : nxt S out k = nxt S out (k + 1) := by
  unfold nxt
  congr 1
  funext r
  by_cases e : k = r
  · subst e
    simp [h]
  · have : k ≤ r ↔ k + 1 ≤ r := by omega
    simp [this]
theorem nxt_zero (S : List (List Nat)) (out : List Nat) : nxt S out 0 = nextR S out := by simp [nxt, nextR]
def decI : Nat → Int | 0 => -1 | j + 1 => (j : Int)
theorem decI_eq (n : Nat) : decI n = (n : Int) - 1 := by cases n <;> simp [decI]
/-- whether an item's first j sources stand, and it doesn't -/
def rdyB (out l : List Nat) (b j : Nat) : Bool := !decide (b ∈ out) && (l.take j).all (fun d => decide (d ∈ out))
theorem rdyB_start (out l : List Nat) (b : Nat) : rdyB out l b 0 = !decide (b ∈ out) := by simp [rdyB]
theorem rdyB_step {out l : List Nat} {b j d : Nat} (h : l[j]? = some d) : rdyB out l b (j + 1) = (rdyB out l b j && decide (d ∈ out)) := by
  obtain ⟨hj, rfl⟩ := List.getElem?_eq_some_iff.1 h
  unfold rdyB
  rw [List.take_succ_eq_append_getElem hj, List.all_append]
  simp [Bool.and_assoc]
theorem rdyB_end {S : List (List Nat)} {out l : List Nat} {b : Nat} (h : S[b]? = some l) : rdyB out l b l.length = decide (Rdy S out b) := by
  have hb := (List.getElem?_eq_some_iff.1 h).1
  have hg : S.getD b [] = l := by rw [List.getD_eq_getElem?_getD, h]; rfl
  have hr : Rdy S out b ↔ b ∉ out ∧ ∀ d ∈ l, d ∈ out := by
    unfold Rdy
    rw [hg]
    simp [hb]
  rw [Bool.eq_iff_iff, decide_eq_true_iff, hr]
  simp [rdyB]
theorem done_start {B n : Nat} {w : World} (hB : B ≤ w.heap.size) (hn : n ≤ 1048576) : DoneAt B (w.alloc (.cells (Array.replicate n (.bool false)) 4)) w.heap.size n [] := by
  have := made_row (z := .bool false) (e := 4) hB hn
  rw [doneV_start] at this
  unfold DoneAt
  have e : (doneV n []).toArray = Array.replicate n (.bool false) := by rw [← doneV_start]; simp
  rw [e] at this
  exact this
set_option maxHeartbeats 4000000 in
set_option maxRecDepth 100000 in
theorem orderR_any {w0 : World} {L : List Value} {n : QNode} (h : NodeAt w0 L n) (hd : ∀ i ∈ n.items, (definedQ i).length ≤ 2097152) (ho : ∀ i ∈ n.items, (occX i.eq.e).length ≤ 2097152) (hn : n.items.length ≤ 1048576) (w : World) (hb : Below w0.heap.size w0 w) :
    Calls Tryz.prog 11 #[.agg L.toArray] w (OrdRet (srcS n.items) w) := by
  have HND := Lib.hid (fun (b : Nat) (i : QItem) (hi : n.items[b]? = some i) W hW => needs_any h hd ho hi W hW)
  obtain ⟨fv, iv, ov, xv, rfl, hnl, hfu, hin, hou, hit⟩ := h
  obtain ⟨fA, fn, fk, rfl⟩ := SliceAt.shape hfu
  obtain ⟨iA, im, ik, rfl⟩ := SliceAt.shape hin
  obtain ⟨oA, on, ok, rfl⟩ := SliceAt.shape hou
  obtain ⟨xA, xn, xk, rfl⟩ := SliceAt.shape hit
  obtain ⟨A9, c9, e, _⟩ := hit
  injection e with e1 e e3
  subst e1 e e3
  have HB := Lib.hid hb
  have hms := make_run (t := 58) (e := 4) Tryz.underlying58 bool_info rfl (by decide) hn
  have HAL := Lib.hid ((Below.refl w.heap.size w).alloc (Nat.le_refl _) (.cells #[.string (str n.name), .slice fA fn fk, .slice iA im ik, .slice oA on ok, .slice xA n.items.length xk] 32))
  have BN := Lib.hid (heap_alloc_new w (.cells #[.string (str n.name), .slice fA fn fk, .slice iA im ik, .slice oA on ok, .slice xA n.items.length xk] 32))
  have hnl2 : n.items.length ≤ 9223372036854775807 := by omega
  have HN := Lib.hid hn
  have HSL := Lib.hid (srcS_len n.items)
  have HLT := Lib.hid (fun l (hl : l ∈ srcS n.items) => src_lt hl)
  clear hnl hfu hin hou hd ho hb hn
  go_enter Tryz.func11, Tryz.ntmps11
  go_wp2_with fail
  have HW1 := Lib.hid (HAL.out.trans ((Below.refl w.heap.size (w.alloc (.cells #[.string (str n.name), .slice fA fn fk, .slice iA im ik, .slice oA on ok, .slice xA n.items.length xk] 32))).alloc HAL.out.size (.cells (Array.replicate n.items.length (.bool false)) 4)))
  have HD1 := Lib.hid (done_start (B := w.heap.size) (n := n.items.length) HAL.out.size HN.out)
  have HB1 := Lib.hid (alloc_below (o := .cells (Array.replicate n.items.length (.bool false)) 4) BN.out)
  rw [World.size_alloc] at HD1
  obtain ⟨D, hD⟩ : ∃ D, D = w.heap.size + 1 := ⟨_, rfl⟩
  rw [← hD] at HD1
  rw [← hD]
  generalize (w.alloc (.cells #[.string (str n.name), .slice fA fn fk, .slice iA im ik, .slice oA on ok, .slice xA n.items.length xk] 32)).alloc (.cells (Array.replicate n.items.length (.bool false)) 4) = V1 at *
  obtain ⟨S, hS⟩ : ∃ S, S = srcS n.items := ⟨_, rfl⟩
  rw [← hS] at HSL HLT
  rw [← hS]
  have HDB := Lib.hid hD
  have HSS := Lib.hid hS
  clear hms hD hS HAL BN
  go_loopg [5] n.items.length (fun g ov wr => ∃ out : List Nat, out.length + g = n.items.length ∧ ordQ S = ordF S g out ∧ OutOk S out ∧ OwnN (D + 1) wr ov (natI out) ∧ DoneAt w.heap.size wr D n.items.length out ∧ Below w.heap.size w wr ∧ D < wr.heap.size ∧ wr.heap[w.heap.size]? = some (.cells #[.string (str n.name), .slice fA fn fk, .slice iA im ik, .slice oA on ok, .slice xA n.items.length xk] 32 (0, 0)))
  case atStart => exact ⟨[], by simp, by unfold ordQ; rw [HSL.out], ⟨by simp, by simp⟩, OwnN.nil _ _, HD1.out, HW1.out, (row_block HD1.out (g := D) rfl).2.1, HB1.out⟩
  case round =>
    obtain ⟨out, hog, hord, hok, hown, hdn, hbw, hDw, hbox⟩ := hrel
    obtain ⟨wq, rfl⟩ : ∃ W, W = wr := ⟨_, rfl⟩
    have HG := Lib.hid hog
    have HOR := Lib.hid hord
    have HOK := Lib.hid hok
    have HOW := Lib.hid hown
    have HDN := Lib.hid hdn
    have HWQ := Lib.hid hbw
    have HDW := Lib.hid hDw
    have HBX := Lib.hid hbox
    obtain ⟨b0, b1, b2, b3, b4⟩ := row5 hbox
    obtain ⟨A5, n5, c5, rfl, hn5⟩ := hown.shape
    rw [natI_len] at hn5
    subst hn5
    have hle : out.length ≤ n.items.length := by omega
    clear hog hord hok hown hdn hbw hDw hbox b0 b1 b2 b3
    by_cases hlt : out.length < n.items.length
    · have HLTN := Lib.hid hlt
      go_wp2_with fail
      go_loopg [6, 7] n.items.length (fun g nv v wr => ∃ k : Nat, k = g ∧ k ≤ n.items.length ∧ nv = .int .i64 (firstI (nxt S out k)) ∧ v = .int .i64 ((k : Int) - 1) ∧ Below wq.heap.size wq wr)
      case atStart => exact ⟨_, rfl, Nat.le_refl _, by have := nxt_top S out; rw [HSL.out] at this; rw [this]; rfl, rfl, Below.refl _ _⟩
      case round =>
        obtain ⟨k, hkg, hkl, rfl, rfl, hbz⟩ := hrel
        obtain ⟨wz, rfl⟩ : ∃ W, W = wr := ⟨_, rfl⟩
        have HK := Lib.hid hkg
        have HBZ := Lib.hid hbz
        have HWZ := Lib.hid (HWQ.out.trans (hbz.mono HWQ.out.size))
        obtain ⟨q0, q1, q2, q3, q4⟩ := row5 (box_next hbz HBX.out)
        clear hkg hbz b4
        cases k with
        | zero =>
          clear q0 q1 q2 q3 q4
          rw [nxt_zero]
          cases hx : nextR S out with
          | none =>
            have HE := Lib.hid (show ordQ S = out by rw [HOR.out]; exact ordF_end hx)
            clear hx
            have HA := Lib.hid (show ordA S = [] ∧ ordB S = false by unfold ordA ordB; rw [HE.out, HSL.out]; simp [HLTN.out])
            simp only [firstI]
            have HP : OrdRet S w (.returned (.tuple #[.slice none 0 0, .bool false])) wz := ⟨_, by rw [HA.out.2], by rw [HA.out.1]; exact OwnN.nil _ _, HWZ.out⟩
            go_wp2_with fail
            go_ret2
            exact HP
          | some b =>
            have hbr := nextR_rdy hx
            have hbn : b < n.items.length := by have := hbr.1; rwa [HSL.out] at this
            have HOR2 := Lib.hid (show ∀ g, out.length + (g + 1) = n.items.length → ordQ S = ordF S g (out ++ [b]) from fun g hg => by rw [HOR.out, ← ordF_step hx]; congr 1; have := HG.out; omega)
            have HOK2 := Lib.hid (HOK.out.next hbr)
            have hdz := HDN.out.under HBZ.out
            obtain ⟨r0, f0⟩ := hdz.get hbn
            have HDS := Lib.hid (hdz.set hbn)
            have hDw : w.heap.size < D := by have := HDB.out; omega
            have HBXV := Lib.hid ((Below.heap_setCell wz ⟨D, b, none⟩ (.bool true) w.heap.size (Nat.ne_of_lt hDw)).trans (box_next HBZ.out HBX.out))
            have HOV := Lib.hid ((HOW.out.under HBZ.out).keep (w' := wz.setCell ⟨D, b, none⟩ (.bool true)) fun k o hk ho => (Below.heap_setCell wz ⟨D, b, none⟩ (.bool true) k (fun e => by
              have h1 := (row_block (HOW.out.under HBZ.out) hk).1
              have h2 : k = D := e
              omega)).trans ho)
            have HWV := Lib.hid (HWZ.out.setCell (p := ⟨D, b, none⟩) (Nat.le_of_lt hDw) (.bool true))
            have hDV := (row_block HDS.out (g := D) rfl).2.1
            have HBA := Lib.hid ((Below.refl (D + 1) (wz.setCell ⟨D, b, none⟩ (.bool true))).alloc hDV (.cells #[.int .i64 (b : Int)] 3))
            have HOU := Lib.hid (HOV.out.under ((Below.refl (wz.setCell ⟨D, b, none⟩ (.bool true)).heap.size _).alloc (Nat.le_refl _) (.cells #[.int .i64 (b : Int)] 3)))
            have HFL := Lib.hid (show (natI out).length ≤ 4194304 by have := HN.out; rw [natI_len]; omega)
            have HNW := Lib.hid (show ((wz.setCell ⟨D, b, none⟩ (.bool true)).alloc (.cells #[.int .i64 (b : Int)] 3)).heap[wz.heap.size]? = some (.cells #[.int .i64 (b : Int)] 3 (0, 0)) by
              rw [show wz.heap.size = (wz.setCell ⟨D, b, none⟩ (.bool true)).heap.size by simp [World.setCell]]
              exact heap_alloc_new _ _)
            clear hx hbr hdz hDw
            simp only [firstI]
            have hb0 : (0 : Int) ≤ (b : Int) := Int.natCast_nonneg b
            go_wp2_with (at_builtin
                         refine app_num 33 Tryz.underlying33 rfl _ _ rfl rfl rfl HNW.out HOU.out HFL.out ?_ ?_
                         · exact Nat.le_trans hDV HBA.out.size
                         intro v5 w5 h5
                         obtain ⟨V5, rfl⟩ : ∃ W, W = w5 := ⟨_, rfl⟩
                         have hown5 : OwnN (D + 1) V5 v5 (natI (out ++ [b])) := by rw [natI_snoc]; exact h5.own
                         have HN5 := Lib.hid hown5
                         have HGR := Lib.hid (HBA.out.trans (h5.below HOU.out (Nat.le_trans hDV HBA.out.size)))
                         obtain ⟨B6, m6, c6, rfl, rfl⟩ := hown5.shape
                         clear h5 hown5)
            go_roundg (n.items.length - (out.length + 1))
            case measure => have := HG.out; have := HLTN.out; omega
            case rel => exact ⟨out ++ [b], by have := HLTN.out; simp; omega, HOR2.out _ (by have := HLTN.out; omega), HOK2.out, HN5.out, HDS.out.low HGR.out, HWV.out.trans (HGR.out.mono (by have := HDB.out; omega)), (row_block (HDS.out.low HGR.out) (g := D) rfl).2.1, (HGR.out.block w.heap.size (by have := HDB.out; omega)).trans HBXV.out⟩
        | succ b =>
          have hbn : b < n.items.length := by omega
          obtain ⟨i, hi⟩ : ∃ i, n.items[b]? = some i := ⟨_, List.getElem?_eq_getElem hbn⟩
          have hsb : S[b]? = some (srcI n.items i) := by rw [HSS.out]; unfold srcS; rw [List.getElem?_map, hi]; rfl
          obtain ⟨l, hl⟩ : ∃ l, l = srcI n.items i := ⟨_, rfl⟩
          have HCN := Lib.hid (HND.out b i hi wz (HB.out.trans (HWZ.out.mono HB.out.size)))
          rw [← hl] at hsb HCN
          have HSB := Lib.hid hsb
          have HLB := Lib.hid (HLT.out l (List.mem_of_getElem? hsb))
          have hbi : ((b + 1 : Nat) : Int) - 1 = (b : Int) := by omega
          rw [hbi]
          clear hi hsb hl hbi
          go_wp2_with (go_at_call 19
                       (with_reducible refine HCN.out.mono ?_)
                       rintro e w8 ⟨v8, rfl, ho8, hb8⟩
                       obtain ⟨V8, rfl⟩ : ∃ W, W = w8 := ⟨_, rfl⟩
                       obtain ⟨A8, n8, c8, rfl, hn8⟩ := ho8.shape
                       rw [natI_len] at hn8
                       subst hn8
                       have HO8 := Lib.hid ho8
                       have HB8 := Lib.hid (HBZ.out.trans (hb8.mono HBZ.out.size))
                       have HD8 := Lib.hid (HDN.out.under HB8.out)
                       have r0 := (HD8.out.get hbn).1
                       clear ho8 hb8 q0 q1 q2 q3 q4)
          go_loopg [9, 10] l.length (fun g rv v wr => ∃ j : Nat, j + g = l.length ∧ rv = .bool (rdyB out l b j) ∧ v = .int .i64 j ∧ wr = V8)
          case atStart => exact ⟨0, by omega, by rw [rdyB_start], rfl, rfl⟩
          case round =>
            obtain ⟨j, hjg, rfl, rfl, rfl⟩ := hrel
            have HJ := Lib.hid hjg
            have hjl : j ≤ l.length := by omega
            clear hjg r0
            by_cases hjt : j < l.length
            · obtain ⟨d, hd⟩ : ∃ d, l[j]? = some d := ⟨_, List.getElem?_eq_getElem hjt⟩
              have hdn : d < n.items.length := by have := HLB.out d (List.mem_of_getElem? hd); rwa [HSL.out] at this
              have HST := Lib.hid (rdyB_step (out := out) (b := b) hd)
              obtain ⟨g8, c9, e8, _, _, hlc, hcm, hc8, _⟩ := HO8.out.at_ (by rw [natI_len]; omega)
              have hlb : l.length ≤ 9223372036854775807 := by rw [natI_len] at hlc; unfold maxLen at hcm; omega
              injection e8 with e8 _ _
              subst e8
              have t0 := hc8 j d (natI_get hd)
              have t1 := (HD8.out.get hdn).1
              clear hc8 hd hlc hcm
              cases hr : rdyB out l b j
              · rw [hr] at HST
                go_wp2_with fail
                go_roundg (l.length - (j + 1))
                case measure => have := HJ.out; omega
                case rel => exact ⟨j + 1, by omega, by rw [HST.out]; simp, by go_num, rfl⟩
              · rw [hr] at HST
                go_wp2_with fail
                go_roundg (l.length - (j + 1))
                case measure => have := HJ.out; omega
                case rel => exact ⟨j + 1, by omega, by rw [HST.out]; simp, by go_num, rfl⟩
            · have hje : j = l.length := by omega
              subst hje
              rw [rdyB_end HSB.out]
              by_cases hr : Rdy S out b
              · have HNX := Lib.hid (nxt_yes hr)
                rw [decide_eq_true hr]
                go_wp2_with fail
                go_roundg b
                case measure => have := HK.out; omega
                case rel => exact ⟨b, rfl, by omega, by rw [HNX.out]; rfl, rfl, HB8.out⟩
              · have HNX := Lib.hid (nxt_no hr)
                rw [decide_eq_false hr]
                go_wp2_with fail
                go_roundg b
                case measure => have := HK.out; omega
                case rel => exact ⟨b, rfl, by omega, by rw [HNX.out], rfl, HB8.out⟩
    · have hle2 : out.length = n.items.length := by omega
      have HE := Lib.hid (show ordQ S = out by rw [HOR.out]; have := HG.out; rw [show gk = 0 by omega]; rfl)
      have HA := Lib.hid (show ordA S = out ∧ ordB S = true by unfold ordA ordB; rw [HE.out, HSL.out]; simp [hle2])
      go_wp2_with fail
      have HP : OrdRet (srcS n.items) w (.returned (.tuple #[.slice A5 out.length c5, .bool true])) wq := ⟨_, by rw [← HSS.out, HA.out.2], by rw [← HSS.out, HA.out.1]; exact HOW.out.mono (by have := HDB.out; omega), HWQ.out⟩
      go_ret2
      exact HP
end Go.Proofs.YtifbdglhfoimjaaGreatDoor
