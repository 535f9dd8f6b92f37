/-
  expr: may an expression stand where it stands, with all that is inside?
  uses: does an item use names correctly?
-/
import Derived.Test.YtbpbnebcbjacdaaGreatScopeNames
namespace Go.Proofs.YtbpbnebcbjacdaaGreat
open Go.RowKit
open Go.ChangeMaps Go.MapKept
open Go.Maps

section
variable {S P e1 c1 n1 t1 f1 v1 : Nat} {nd : Value × Value × Value × Value × Value} {s : SNode}
theorem names_any {w : World} (h : NScope w S P e1 c1 n1 t1 f1 v1 nd s) {op n : Int} {nm : Tx} {A B : Option Addr} {cs : List Tx} {ca k kc : Nat} (hnm : nm.length ≤ maxLen) (hcs : StrsAt w (.slice A cs.length ca) cs) (r : Int) (u : Bool)
    (hne : op = 11 ∨ op = 12 ∨ op = 13 → cs ≠ []) :
    Calls Tryz.prog 101 #[.pointer (some ⟨S, 0, none⟩), .agg #[.int .i64 op, .string (str nm), .int .i64 n, .slice A cs.length ca, .slice B k kc], .agg #[.int .i64 r, .bool u]] w (BoolPost (usesName s op nm cs k r u) w) := by
  by_cases h4 : op = 4
  · subst h4; exact names4 h hnm hcs r u
  by_cases h3 : op = 3
  · subst h3; exact names3 h hnm hcs r u
  by_cases h11 : op = 11
  · subst h11; exact names11 h hnm hcs r u (hne (.inl rfl))
  by_cases h12 : op = 12
  · subst h12; exact names12 h hnm hcs r u (hne (.inr (.inl rfl)))
  by_cases h13 : op = 13
  · subst h13; exact names13 h hnm hcs r u (hne (.inr (.inr rfl)))
  by_cases h14 : op = 14
  · subst h14; exact names14 h hnm hcs r u
  exact namesX h hnm hcs r u (by simpa using h4) (by simpa using h3) (by simpa using h11) (by simpa using h12) (by simpa using h13) (by simpa using h14)
/-- the kids from the k-th on -/
theorem usesXs_cons (op r : Int) (u first : Bool) (x : Ex) (l : List Ex) : usesXs s op r u first (x :: l) = (usesX s (if op = 15 ∧ first = true then r else 1) u x && usesXs s op r u false l) := by rw [usesXs]
theorem uses_mk (op n : Int) (nm : Tx) (cs : List Tx) (ks : List Ex) (r : Int) (u : Bool) : usesX s r u (.mk op nm n cs ks) = (usesName s op nm cs ks.length r u && usesXs s op r (u || op == 13) true ks) := by rw [usesX]
theorem right_ne {made : Bool} {op n : Int} {nm : Tx} {cs : List Tx} {ks : List Ex} (h : rightX made (.mk op nm n cs ks) = true) : (op = 11 ∨ op = 12 ∨ op = 13 → cs ≠ []) ∧ ∀ k ∈ ks, rightX made k = true := by
  rw [rightX, Bool.and_eq_true, rightXs_all, List.all_eq_true] at h
  refine ⟨fun ho hc => ?_, h.2⟩
  have h1 := h.1
  subst hc
  rcases ho with rfl | rfl | rfl <;> simp [shapeM, allM] at h1
set_option maxHeartbeats 4000000 in
set_option maxRecDepth 100000 in
theorem scopeExpr_any {made : Bool} {w0 : World} (h0 : NScope w0 S P e1 c1 n1 t1 f1 v1 nd s) {L : List Value} {x : Ex} (h : ExAt w0 L x) : rightX made x = true → ∀ (r : Int) (u : Bool) (w : World), Below w0.heap.size w0 w →
    Calls Tryz.prog 78 #[.pointer (some ⟨S, 0, none⟩), .agg L.toArray, .agg #[.int .i64 r, .bool u]] w (BoolPost (usesX s r u x) w) := by
  induction h with
  | @mk op nm n cs ks cv A c C hop hnm hn hcs hl hc hk hx ih =>
    intro hr r u w hb
    have hlm : ks.length ≤ 9223372036854775807 := by unfold maxLen at hc; omega
    obtain ⟨hne, hrk⟩ := right_ne hr
    have HNE := Lib.hid hne
    have HRK := Lib.hid hrk
    have H0 := Lib.hid h0
    have HB := Lib.hid hb
    have HNM := Lib.hid hnm
    have HCS := Lib.hid hcs
    have hsz0 := hb.size
    obtain ⟨A2, c2, rfl, _⟩ := hcs
    have HNA := Lib.hid (fun (W : World) (hW : Below w0.heap.size w0 W) => names_any (B := A) (k := ks.length) (kc := c) (n := n) (H0.out.under hW) HNM.out (HCS.out.under hW) r u HNE.out)
    have HQ := Lib.hid (uses_mk (s := s) op n nm cs ks r u)
    clear hop hn hb hl hc hnm hne hrk hr h0
    cases hnq : usesName s op nm cs ks.length r u
    · rw [hnq] at HNA HQ
      clear hnq
      go_enter Tryz.func78, Tryz.ntmps78
      go_wp2_with (go_at_call 101
                   have a1 : Below w.heap.size w ((w.alloc (.cells #[.int .i64 op, .string (str nm), .int .i64 n, .slice A2 cs.length c2, .slice A ks.length c] 50)).alloc (.cells #[.int .i64 r, .bool u] 116)) := ((Below.refl _ w).alloc (Nat.le_refl _) _).alloc (by simp) _
                   (with_reducible refine (HNA.out _ (HB.out.trans (a1.mono hsz0))).mono ?_)
                   rintro e w7 ⟨rfl, hb7⟩
                   have G1 := Lib.hid (a1.trans (hb7.mono a1.size))
                   clear a1 hb7)
      go_ret
      exact ⟨ret_bool (by rw [HQ.out]; rfl), G1.out⟩
    · rw [hnq] at HNA HQ
      clear hnq
      rw [Bool.true_and] at HQ
      go_enter Tryz.func78, Tryz.ntmps78
      go_wp2_with (go_at_call 101
                   have a1 : Below w.heap.size w ((w.alloc (.cells #[.int .i64 op, .string (str nm), .int .i64 n, .slice A2 cs.length c2, .slice A ks.length c] 50)).alloc (.cells #[.int .i64 r, .bool u] 116)) := ((Below.refl _ w).alloc (Nat.le_refl _) _).alloc (by simp) _
                   (with_reducible refine (HNA.out _ (HB.out.trans (a1.mono hsz0))).mono ?_)
                   rintro e w7 ⟨rfl, hb7⟩
                   obtain ⟨V, rfl⟩ : ∃ W, W = w7 := ⟨_, rfl⟩
                   have G1 := Lib.hid (a1.trans (hb7.mono a1.size))
                   have BX := Lib.hid (show V.heap[w.heap.size]? = some (.cells #[.int .i64 op, .string (str nm), .int .i64 n, .slice A2 cs.length c2, .slice A ks.length c] 50 (0, 0)) from box_next hb7 (alloc_below (heap_alloc_new w _)))
                   have BY := Lib.hid (show V.heap[w.heap.size + 1]? = some (.cells #[.int .i64 r, .bool u] 116 (0, 0)) from box_next hb7 (alloc_at (by simp)))
                   obtain ⟨b0, b1, b2, b3, b4⟩ := row5 BX.out
                   obtain ⟨g0, g1⟩ := row2 BY.out
                   clear a1 hb7)
      clear b0 b1 b2 b3 g0 g1
      go_loopg [17] ks.length (fun g v wr => ∃ k : Nat, k + g = ks.length ∧ v = .int .i64 k ∧ usesXs s op r (u || op == 13) true ks = usesXs s op r (u || op == 13) (decide (k = 0)) (ks.drop k) ∧ Below V.heap.size V wr)
      case atStart => exact ⟨0, by omega, rfl, by simp, Below.refl _ _⟩
      case round =>
        obtain ⟨k, hkg, rfl, hu, hbw⟩ := hrel
        obtain ⟨wq, rfl⟩ : ∃ W, W = wr := ⟨_, rfl⟩
        have HK := Lib.hid hkg
        have HU := Lib.hid hu
        have HW := Lib.hid hbw
        have HG := Lib.hid (G1.out.trans (hbw.mono G1.out.size))
        have BXQ := Lib.hid (box_next hbw BX.out)
        have BYQ := Lib.hid (box_next hbw BY.out)
        obtain ⟨b0, b1, b2, b3, b4⟩ := row5 BXQ.out
        obtain ⟨g0, g1⟩ := row2 BYQ.out
        have hkl : k ≤ ks.length := by omega
        clear hkg hu hbw
        by_cases hlt : k < ks.length
        · obtain ⟨y, hy⟩ : ∃ y, ks[k]? = some y := ⟨_, List.getElem?_eq_getElem hlt⟩
          have hC := hk k y hy
          have hih := Lib.hid (ih k y hy (HRK.out y (List.mem_of_getElem? hy)))
          have hxk := hx k y hy
          have HD := Lib.hid (drop_consS hy)
          obtain ⟨o1, s1, n1', A1, m1, k1, A2', m2, k2, hL⟩ := hxk.shape
          generalize C k = L at hC hih hxk hL
          subst hL
          clear hy hxk hk hx ih
          have hB0 := Lib.hid (HB.out.trans (HG.out.mono hsz0))
          obtain ⟨a, rfl, ha, haa, d0, d1, d2, d3, d4⟩ := elem5 (hC.under hB0.out)
          clear hC
          have HNX := Lib.hid (show usesXs s op r (u || op == 13) true ks = (usesX s (kidR op r k) (u || op == 13) y && usesXs s op r (u || op == 13) false (ks.drop (k + 1))) by
            rw [HU.out, HD.out, usesXs_cons]
            congr 2
            unfold kidR
            by_cases h0 : k = 0 <;> simp [h0])
          go_wp2_with fail
          have HY := Lib.hid ((Below.refl wq.heap.size wq).alloc (Nat.le_refl _) (.cells #[.int .i64 o1, .string s1, .int .i64 n1', .slice A1 m1 k1, .slice A2' m2 k2] 50))
          have BZ := Lib.hid (heap_alloc_new wq (.cells #[.int .i64 o1, .string s1, .int .i64 n1', .slice A1 m1 k1, .slice A2' m2 k2] 50))
          generalize wq.alloc (.cells #[.int .i64 o1, .string s1, .int .i64 n1', .slice A1 m1 k1, .slice A2' m2 k2] 50) = Y at *
          have KEEP := Lib.hid (show ∀ W, Below Y.heap.size Y W → (fun W => W.cell? ⟨wq.heap.size, 0, none⟩ = some (.int .i64 o1) ∧ W.cell? ⟨wq.heap.size, 1, none⟩ = some (.string s1) ∧ W.cell? ⟨wq.heap.size, 2, none⟩ = some (.int .i64 n1') ∧ W.cell? ⟨wq.heap.size, 3, none⟩ = some (.slice A1 m1 k1) ∧ W.cell? ⟨wq.heap.size, 4, none⟩ = some (.slice A2' m2 k2) ∧ W.cell? ⟨w.heap.size, 0, none⟩ = some (.int .i64 op) ∧ W.cell? ⟨w.heap.size, 1, none⟩ = some (.string (str nm)) ∧ W.cell? ⟨w.heap.size, 2, none⟩ = some (.int .i64 n) ∧ W.cell? ⟨w.heap.size, 3, none⟩ = some (.slice A2 cs.length c2) ∧ W.cell? ⟨w.heap.size, 4, none⟩ = some (.slice (some a) ks.length c) ∧ W.cell? ⟨w.heap.size + 1, 0, none⟩ = some (.int .i64 r) ∧ W.cell? ⟨w.heap.size + 1, 1, none⟩ = some (.bool u)) W from
            fun W hW => by
              obtain ⟨q0, q1, q2, q3, q4⟩ := row5 (box_next hW BZ.out)
              obtain ⟨b0, b1, b2, b3, b4⟩ := row5 (box_next hW (box_next HY.out BXQ.out))
              obtain ⟨g0, g1⟩ := row2 (box_next hW (box_next HY.out BYQ.out))
              exact ⟨q0, q1, q2, q3, q4, b0, b1, b2, b3, b4, g0, g1⟩)
          have hYB := Lib.hid (hB0.out.trans (HY.out.mono hB0.out.size))
          clear b0 b1 b2 b3 b4 g0 g1 d0 d1 d2 d3 d4
          refine wp_region_held_drew (S := (fun W => W.cell? ⟨wq.heap.size, 0, none⟩ = some (.int .i64 o1) ∧ W.cell? ⟨wq.heap.size, 1, none⟩ = some (.string s1) ∧ W.cell? ⟨wq.heap.size, 2, none⟩ = some (.int .i64 n1') ∧ W.cell? ⟨wq.heap.size, 3, none⟩ = some (.slice A1 m1 k1) ∧ W.cell? ⟨wq.heap.size, 4, none⟩ = some (.slice A2' m2 k2) ∧ W.cell? ⟨w.heap.size, 0, none⟩ = some (.int .i64 op) ∧ W.cell? ⟨w.heap.size, 1, none⟩ = some (.string (str nm)) ∧ W.cell? ⟨w.heap.size, 2, none⟩ = some (.int .i64 n) ∧ W.cell? ⟨w.heap.size, 3, none⟩ = some (.slice A2 cs.length c2) ∧ W.cell? ⟨w.heap.size, 4, none⟩ = some (.slice (some a) ks.length c) ∧ W.cell? ⟨w.heap.size + 1, 0, none⟩ = some (.int .i64 r) ∧ W.cell? ⟨w.heap.size + 1, 1, none⟩ = some (.bool u))) (by kernel_rfl) ?_ (fun hHeld => ?_)
          · exact KEEP.out _ (Below.refl _ _).drew
          refine take_at 0 (v := ?_) rfl (by kernel_rfl) (by kernel_rfl) (by kernel_rfl) (fun _ _ _ h => h) (by rfl) ?_ (by assumption) ?_
          rotate_left
          · intro w hSw; (try dsimp only at hSw); go_simp; (try rw [if_neg (by assumption)]); (try rw [if_pos (by omega)]); (try simp only [hSw]); (try with_reducible rfl)
          try simp only [Act.put, List.setIfInBounds_toArray, List.set_cons_zero, List.set_cons_succ]
          refine take_at 1 (v := ?_) rfl (by kernel_rfl) (by kernel_rfl) (by kernel_rfl) (fun _ _ _ h => h) (by rfl) ?_ (by assumption) ?_
          rotate_left
          · intro w hSw; (try dsimp only at hSw); go_simp; (try rw [if_neg (by assumption)]); (try rw [if_pos (by omega)]); (try simp only [hSw]); (try with_reducible rfl)
          try simp only [Act.put, List.setIfInBounds_toArray, List.set_cons_zero, List.set_cons_succ]
          refine take_at 2 (v := ?_) rfl (by kernel_rfl) (by kernel_rfl) (by kernel_rfl) (fun _ _ _ h => h) (by rfl) ?_ (by assumption) ?_
          rotate_left
          · intro w hSw; (try dsimp only at hSw); go_simp; (try rw [if_neg (by assumption)]); (try rw [if_pos (by omega)]); (try simp only [hSw]); (try with_reducible rfl)
          try simp only [Act.put, List.setIfInBounds_toArray, List.set_cons_zero, List.set_cons_succ]
          refine take_at 3 (v := ?_) rfl (by kernel_rfl) (by kernel_rfl) (by kernel_rfl) (fun _ _ _ h => h) (by rfl) ?_ (by assumption) ?_
          rotate_left
          · intro w hSw; (try dsimp only at hSw); go_simp; (try rw [if_neg (by assumption)]); (try rw [if_pos (by omega)]); (try simp only [hSw]); (try with_reducible rfl)
          try simp only [Act.put, List.setIfInBounds_toArray, List.set_cons_zero, List.set_cons_succ]
          refine take_at 4 (v := ?_) rfl (by kernel_rfl) (by kernel_rfl) (by kernel_rfl) (fun _ _ _ h => h) (by rfl) ?_ (by assumption) ?_
          rotate_left
          · intro w hSw; (try dsimp only at hSw); go_simp; (try rw [if_neg (by assumption)]); (try rw [if_pos (by omega)]); (try simp only [hSw]); (try with_reducible rfl)
          try simp only [Act.put, List.setIfInBounds_toArray, List.set_cons_zero, List.set_cons_succ]
          refine only_at 5 (by kernel_rfl) rfl (fun K hK => ?_)
          go_simp
          (go_at_call 102
           (with_reducible refine (kid_any op r _ n u (str nm) _ _ _ _ _ _ _).mono ?_)
           rintro e w7 ⟨rfl, hb7⟩
           obtain ⟨z1, rfl⟩ : ∃ W, W = w7 := ⟨_, rfl⟩
           have G2 := Lib.hid ((Below.refl Y.heap.size Y).drew.trans hb7)
           clear hb7)
          refine hK.out _ _ (KEEP.out _ ?_) (fun hHeld => ?_)
          · (repeat (first | exact Below.refl _ _ | exact G2.out | refine Below.drew ?_ | refine Below.alloc ?_ (by simp) _ | refine Below.setCell ?_ (by simp) _))
          clear hK K
          try simp only [Act.put, List.setIfInBounds_toArray, List.set_cons_zero, List.set_cons_succ]
          cases hq : usesX s (kidR op r k) (u || op == 13) y
          · have HQY := Lib.hid hq
            clear hq
            refine only_at 6 (by kernel_rfl) rfl (fun K hK => ?_)
            go_simp
            (go_at_call 78
             (with_reducible refine (hih.out (kidR op r k) (u || op == 13) _ (hYB.out.trans (G2.out.mono hYB.out.size))).mono ?_)
             rintro e w7 ⟨he, hb7⟩
             rw [HQY.out] at he
             subst he
             obtain ⟨z2, rfl⟩ : ∃ W, W = w7 := ⟨_, rfl⟩
             have G3 := Lib.hid (G2.out.trans (hb7.mono G2.out.size))
             clear hb7)
            refine hK.out _ _ (KEEP.out _ ?_) (fun hHeld => ?_)
            · (repeat (first | exact Below.refl _ _ | exact G3.out | refine Below.drew ?_ | refine Below.alloc ?_ (by simp) _ | refine Below.setCell ?_ (by simp) _))
            clear hK K
            try simp only [Act.put, List.setIfInBounds_toArray, List.set_cons_zero, List.set_cons_succ]
            refine take_at 7 (v := ?_) rfl (by kernel_rfl) (by kernel_rfl) (by kernel_rfl) (fun _ _ _ h => h) (by rfl) ?_ (by assumption) ?_
            rotate_left
            · intro w hSw; (try dsimp only at hSw); go_simp; (try rw [if_neg (by assumption)]); (try rw [if_pos (by omega)]); (try simp only [hSw]); (try with_reducible rfl)
            try simp only [Act.put, List.setIfInBounds_toArray, List.set_cons_zero, List.set_cons_succ]
            refine wpAnyH_done (by kernel_rfl) ?_ _
            have HFIN := Lib.hid (show usesX s r u (.mk op nm n cs ks) = false by rw [HQ.out, HNX.out, HQY.out, Bool.false_and])
            go_wp2_with fail
            go_ret
            exact ⟨ret_bool HFIN.out.symm, HG.out.trans ((HY.out.mono HG.out.size).trans (G3.out.mono (Nat.le_trans HG.out.size HY.out.size)))⟩
          · have HQY := Lib.hid hq
            clear hq
            refine only_at 6 (by kernel_rfl) rfl (fun K hK => ?_)
            go_simp
            (go_at_call 78
             (with_reducible refine (hih.out (kidR op r k) (u || op == 13) _ (hYB.out.trans (G2.out.mono hYB.out.size))).mono ?_)
             rintro e w7 ⟨he, hb7⟩
             rw [HQY.out] at he
             subst he
             obtain ⟨z2, rfl⟩ : ∃ W, W = w7 := ⟨_, rfl⟩
             have G3 := Lib.hid (G2.out.trans (hb7.mono G2.out.size))
             clear hb7)
            refine hK.out _ _ (KEEP.out _ ?_) (fun hHeld => ?_)
            · (repeat (first | exact Below.refl _ _ | exact G3.out | refine Below.drew ?_ | refine Below.alloc ?_ (by simp) _ | refine Below.setCell ?_ (by simp) _))
            clear hK K
            try simp only [Act.put, List.setIfInBounds_toArray, List.set_cons_zero, List.set_cons_succ]
            refine take_at 7 (v := ?_) rfl (by kernel_rfl) (by kernel_rfl) (by kernel_rfl) (fun _ _ _ h => h) (by rfl) ?_ (by assumption) ?_
            rotate_left
            · intro w hSw; (try dsimp only at hSw); go_simp; (try rw [if_neg (by assumption)]); (try rw [if_pos (by omega)]); (try simp only [hSw]); (try with_reducible rfl)
            try simp only [Act.put, List.setIfInBounds_toArray, List.set_cons_zero, List.set_cons_succ]
            refine wpAnyH_done (by kernel_rfl) ?_ _
            have HFIN := Lib.hid (show usesXs s op r (u || op == 13) true ks = usesXs s op r (u || op == 13) (decide (k + 1 = 0)) (ks.drop (k + 1)) by rw [HNX.out, HQY.out, Bool.true_and]; simp)
            go_wp2_with fail
            go_roundg (ks.length - (k + 1))
            case measure => have := HK.out; omega
            case rel => exact ⟨k + 1, by omega, by go_num, HFIN.out, HW.out.trans ((HY.out.mono HW.out.size).trans (G3.out.mono (Nat.le_trans HW.out.size HY.out.size)))⟩
        · have hke : k = ks.length := by omega
          have HFIN := Lib.hid (show usesX s r u (.mk op nm n cs ks) = true by rw [HQ.out, HU.out, hke, List.drop_length, usesXs])
          clear hke
          go_wp2_with fail
          go_ret
          exact ⟨ret_bool HFIN.out.symm, HG.out⟩
end
end Go.Proofs.YtbpbnebcbjacdaaGreat
namespace Go.Proofs.YtbpbnebcbjacdaaGreat
open Go.RowKit
open Go.ChangeMaps Go.MapKept
open Go.Maps

section
variable {S P e1 c1 n1 t1 f1 v1 : Nat} {nd : Value × Value × Value × Value × Value} {s : SNode}
def stateUses (s : SNode) (q : QState) : Bool := (q.eqs.all fun e => usesX s 1 true e.e) && q.ways.all fun y => usesX s 1 true y.cond
theorem rightItem_parts {made : Bool} {i : QItem} (h : rightItem made i = true) : (i.states = [] → rightX made i.eq.e = true) ∧ ∀ q ∈ i.states, (∀ e ∈ q.eqs, rightX made e.e = true) ∧ ∀ y ∈ q.ways, rightX made y.cond = true := by
  unfold rightItem at h
  by_cases h0 : i.states = []
  · rw [if_pos h0] at h
    refine ⟨fun _ => ?_, fun q hq => by rw [h0] at hq; cases hq⟩
    unfold rightEq at h
    rw [Bool.and_eq_true] at h
    exact h.2
  · rw [if_neg h0, Bool.and_eq_true, Bool.and_eq_true] at h
    refine ⟨fun e => absurd e h0, fun q hq => ?_⟩
    have h1 := h.2.2
    unfold allM at h1
    rw [Bool.and_eq_true, List.all_eq_true] at h1
    have h2 := h1.2 q hq
    unfold rightState allM at h2
    simp only [Bool.and_eq_true, List.all_eq_true] at h2
    refine ⟨fun e he => ?_, fun y hy => ?_⟩
    · have := h2.2.1.2 e he
      unfold rightEq at this
      rw [Bool.and_eq_true] at this
      exact this.2
    · have := h2.2.2.2 y hy
      unfold rightWay at this
      rw [Bool.and_eq_true] at this
      exact this.2
set_option maxHeartbeats 8000000 in
set_option maxRecDepth 100000 in
theorem uses_any {made : Bool} {w0 : World} (h0 : NScope w0 S P e1 c1 n1 t1 f1 v1 nd s) {L : List Value} {i : QItem} (hL : ItemAt w0 L i) (hr : rightItem made i = true) : ∀ w, Below w0.heap.size w0 w →
    Calls Tryz.prog 47 #[.pointer (some ⟨S, 0, none⟩), .agg L.toArray] w (BoolPost (usesItem s i) w) := by
  intro w hb
  have H0 := Lib.hid h0
  have HB := Lib.hid hb
  have hsz := hb.size
  obtain ⟨hr1, hr2⟩ := rightItem_parts hr
  obtain ⟨L', sv, rfl, hEq, hst⟩ := hL
  obtain ⟨⟨nl, ex⟩, sts⟩ := i
  obtain ⟨nv, Le, rfl, hnv, hxe⟩ := hEq
  replace hnv : StrsAt w0 nv nl := hnv
  replace hxe : ExAt w0 Le ex := hxe
  replace hst : SliceAt w0 (StateAt w0) sv sts := hst
  have HR1 := Lib.hid hr1
  have HR2 := Lib.hid hr2
  have HX := Lib.hid hxe
  obtain ⟨A0, k0, rfl, hnc, hnm, _⟩ := hnv
  have hnl : nl.length ≤ 9223372036854775807 := by unfold maxLen at hnm; omega
  obtain ⟨o1, s2, o3, A4, n4, k4, A5, n5, k5, rfl⟩ := hxe.shape
  obtain ⟨sA, sc, rfl, hsc, hsm, hes⟩ := hst
  have hsl : sts.length ≤ 9223372036854775807 := by unfold maxLen at hsm; omega
  have HES := Lib.hid hes
  simp only [List.cons_append, List.nil_append]
  clear hb hes hsc hsm hxe hnc hnm hr hr1 hr2 h0
  by_cases hs0 : sts = []
  · have HE := Lib.hid (scopeExpr_any H0.out HX.out (HR1.out hs0))
    subst hs0
    have HQ := Lib.hid (show usesItem s ⟨⟨nl, ex⟩, []⟩ = usesX s nl.length false ex from rfl)
    simp only [List.length_nil] at *
    go_enter Tryz.func47, Tryz.ntmps47
    go_wp2_with (go_at_call 78
                 (with_reducible refine (HE.out _ _ _ (HB.out.alloc (by omega) _)).mono ?_)
                 rintro e w1 ⟨rfl, hb1⟩)
    go_ret
    exact ⟨ret_bool HQ.out.symm, ((Below.refl _ w).alloc (Nat.le_refl _) _).trans (hb1.mono (by simp))⟩
  · have HQ := Lib.hid (show usesItem s ⟨⟨nl, ex⟩, sts⟩ = sts.all (stateUses s) by rw [usesItem, if_neg hs0]; rfl)
    have hd : ((sts.length : Int) == 0) = false := by cases sts with
      | nil => exact absurd rfl hs0
      | cons a b => simp; omega
    clear hs0
    go_enter Tryz.func47, Tryz.ntmps47
    go_wp2_with fail
    have a1 : Below w.heap.size w (w.alloc (.cells #[.slice A0 nl.length k0, .int .i64 o1, .string s2, .int .i64 o3, .slice A4 n4 k4, .slice A5 n5 k5, .slice sA sts.length sc] 55)) := (Below.refl _ w).alloc (Nat.le_refl _) _
    have HV := Lib.hid (a1.alloc (by simp) (.cells #[.int .i64 1, .bool true] 116))
    have BP := Lib.hid (show ((w.alloc (.cells #[.slice A0 nl.length k0, .int .i64 o1, .string s2, .int .i64 o3, .slice A4 n4 k4, .slice A5 n5 k5, .slice sA sts.length sc] 55)).alloc (.cells #[.int .i64 1, .bool true] 116)).heap[w.heap.size + 1]? = some (.cells #[.int .i64 1, .bool true] 116 (0, 0)) from alloc_at (by simp))
    generalize (w.alloc (.cells #[.slice A0 nl.length k0, .int .i64 o1, .string s2, .int .i64 o3, .slice A4 n4 k4, .slice A5 n5 k5, .slice sA sts.length sc] 55)).alloc (.cells #[.int .i64 1, .bool true] 116) = V at *
    clear a1
    go_loopg [30] sts.length (fun g v wr => ∃ k : Nat, k + g = sts.length ∧ v = .int .i64 k ∧ AllTo (stateUses s) sts k ∧ Below V.heap.size V wr)
    case atStart => exact ⟨0, by omega, rfl, AllTo.zero, Below.refl _ _⟩
    case round =>
      obtain ⟨k, hkg, rfl, hto, hbw⟩ := hrel
      obtain ⟨wq, rfl⟩ : ∃ W, W = wr := ⟨_, rfl⟩
      have HK := Lib.hid hkg
      have HT := Lib.hid hto
      have HW := Lib.hid hbw
      have HQW := Lib.hid (HV.out.trans (hbw.mono HV.out.size))
      have HBQ := Lib.hid (HB.out.trans (HQW.out.mono hsz))
      have hkl : k ≤ sts.length := by omega
      clear hkg hto hbw
      by_cases hlt : k < sts.length
      · obtain ⟨st, hst⟩ : ∃ st, sts[k]? = some st := ⟨_, List.getElem?_eq_getElem hlt⟩
        obtain ⟨hre, hry⟩ := HR2.out st (List.mem_of_getElem? hst)
        have HRE := Lib.hid hre
        have HRY := Lib.hid hry
        have HST := Lib.hid hst
        obtain ⟨X, hEX, ev, wv, rfl, hsn, ⟨E, ce, rfl, hec, hem, hee⟩, ⟨VV, cv, rfl, hvc, hvm, hve⟩⟩ := HES.out k st hst
        have hel : st.eqs.length ≤ 9223372036854775807 := by unfold maxLen at hem; omega
        have hvl : st.ways.length ≤ 9223372036854775807 := by unfold maxLen at hvm; omega
        have HEE := Lib.hid hee
        have HVE := Lib.hid hve
        obtain ⟨a, rfl, ha, haa, d0, d1, d2⟩ := elem3 (hEX.under HBQ.out)
        clear hEX hec hem hee hvc hvm hve hsn hst hre hry
        go_wp2_with fail
        have BY := Lib.hid (heap_alloc_new wq (.cells #[.string (str st.name), .slice E st.eqs.length ce, .slice VV st.ways.length cv] 71))
        have HY := Lib.hid ((Below.refl wq.heap.size wq).alloc (Nat.le_refl _) (.cells #[.string (str st.name), .slice E st.eqs.length ce, .slice VV st.ways.length cv] 71))
        generalize wq.alloc (.cells #[.string (str st.name), .slice E st.eqs.length ce, .slice VV st.ways.length cv] 71) = Y at *
        clear d0 d1 d2
        have HYW := Lib.hid (HQW.out.trans (HY.out.mono HQW.out.size))
        go_loopg [37] st.eqs.length (fun g v wr => ∃ j : Nat, j + g = st.eqs.length ∧ v = .int .i64 j ∧ AllTo (fun e : QEq => usesX s 1 true e.e) st.eqs j ∧ Below Y.heap.size Y wr)
        case atStart => exact ⟨0, by omega, rfl, AllTo.zero, Below.refl _ _⟩
        case round =>
          obtain ⟨j, hjg, rfl, hto, hbw⟩ := hrel
          obtain ⟨wy, rfl⟩ : ∃ W, W = wr := ⟨_, rfl⟩
          have JK := Lib.hid hjg
          have JT := Lib.hid hto
          have JY := Lib.hid hbw
          have JQ := Lib.hid (HYW.out.trans (hbw.mono HYW.out.size))
          have JB := Lib.hid (HB.out.trans (JQ.out.mono hsz))
          have JV := Lib.hid (HW.out.trans ((HY.out.mono HW.out.size).trans (hbw.mono (Nat.le_trans HW.out.size HY.out.size))))
          obtain ⟨q0, q1, q2⟩ := row3 (box_next hbw BY.out)
          obtain ⟨g0, g1⟩ := row2 (box_next JV.out BP.out)
          have hpl := lt_of_heap (box_next JV.out BP.out)
          have hjl : j ≤ st.eqs.length := by omega
          clear hjg hto hbw
          by_cases hlt2 : j < st.eqs.length
          · obtain ⟨y, hy⟩ : ∃ y, st.eqs[j]? = some y := ⟨_, List.getElem?_eq_getElem hlt2⟩
            obtain ⟨U, hEU, nv2, L2, rfl, hn2, hx2⟩ := HEE.out j y hy
            have HF := Lib.hid (scopeExpr_any H0.out hx2 (HRE.out y (List.mem_of_getElem? hy)))
            obtain ⟨u0, u1, u2, rfl⟩ := SliceAt.shape hn2
            obtain ⟨u3, u4, u5, u6, u7, u8, u9, u10, u11, rfl⟩ := hx2.shape
            obtain ⟨b, rfl, hb, hba, e0, e1, e2, e3, e4, e5⟩ := elem6 (hEU.under JB.out)
            have HYy := Lib.hid hy
            clear hEU hn2 hx2 hy
            have hal := Lib.hid ((Below.refl wy.heap.size wy).alloc (Nat.le_refl _) (.cells #[.slice u0 u1 u2, .int .i64 u3, .string u4, .int .i64 u5, .slice u6 u7 u8, .slice u9 u10 u11] 52))
            cases hq : usesX s 1 true y.e
            · have HQY := Lib.hid hq
              clear hq
              go_wp2_with (go_at_call 78
                           (with_reducible refine (HF.out 1 true _ (JB.out.alloc JB.out.size _)).mono ?_)
                           rintro e w7 ⟨he, hb7⟩
                           rw [HQY.out] at he
                           subst he)
              go_ret
              exact ⟨ret_bool (by rw [HQ.out, all_no HST.out (by rw [stateUses, all_no HYy.out HQY.out]; rfl)]), JQ.out.trans ((hal.out.mono JQ.out.size).trans (hb7.mono (by have := JQ.out.size; simp; omega)))⟩
            · have HQY := Lib.hid hq
              clear hq
              go_wp2_with (go_at_call 78
                           (with_reducible refine (HF.out 1 true _ (JB.out.alloc JB.out.size _)).mono ?_)
                           rintro e w7 ⟨he, hb7⟩
                           rw [HQY.out] at he
                           subst he)
              go_roundg (st.eqs.length - (j + 1))
              case measure => have := JK.out; omega
              case rel => exact ⟨j + 1, by omega, by go_num, JT.out.succ HYy.out HQY.out, JY.out.trans ((hal.out.mono JY.out.size).trans (hb7.mono (by have := JY.out.size; simp; omega)))⟩
          · have hje : j = st.eqs.length := by omega
            have HJE := Lib.hid (show (st.eqs.all fun e => usesX s 1 true e.e) = true from JT.out.all hje)
            have BYY := Lib.hid (box_next JY.out BY.out)
            have BPY := Lib.hid (box_next JV.out BP.out)
            clear hje
            go_wp2_with fail
            obtain ⟨Z, hZ⟩ : ∃ W, W = wy := ⟨_, rfl⟩
            clear q0 q1 q2 g0 g1
            rw [← hZ] at BYY BPY JY JQ JB JV ⊢
            clear hZ
            go_loopg [51] st.ways.length (fun g v wr => ∃ m : Nat, m + g = st.ways.length ∧ v = .int .i64 m ∧ AllTo (fun y : QWay => usesX s 1 true y.cond) st.ways m ∧ Below Z.heap.size Z wr)
            case atStart => exact ⟨0, by omega, rfl, AllTo.zero, Below.refl _ _⟩
            case round =>
              obtain ⟨m, hmg, rfl, hto, hbw⟩ := hrel
              obtain ⟨wz, rfl⟩ : ∃ W, W = wr := ⟨_, rfl⟩
              have MK := Lib.hid hmg
              have MT := Lib.hid hto
              have MY := Lib.hid hbw
              have MQ := Lib.hid (JQ.out.trans (hbw.mono JQ.out.size))
              have MB := Lib.hid (HB.out.trans (MQ.out.mono hsz))
              have MV := Lib.hid (JV.out.trans (hbw.mono JV.out.size))
              obtain ⟨q0, q1, q2⟩ := row3 (box_next hbw BYY.out)
              obtain ⟨g0, g1⟩ := row2 (box_next hbw BPY.out)
              have hpl2 := lt_of_heap (box_next hbw BPY.out)
              have hml : m ≤ st.ways.length := by omega
              clear hmg hto hbw
              by_cases hlt3 : m < st.ways.length
              · obtain ⟨y, hy⟩ : ∃ y, st.ways[m]? = some y := ⟨_, List.getElem?_eq_getElem hlt3⟩
                obtain ⟨U, hEU, L6, rfl, hce, hyt⟩ := HVE.out m y hy
                have HF := Lib.hid (scopeExpr_any H0.out hce (HRY.out y (List.mem_of_getElem? hy)))
                obtain ⟨u1, u2, u3, u4, u5, u6, u7, u8, u9, rfl⟩ := hce.shape
                simp only [List.cons_append, List.nil_append] at hEU
                obtain ⟨b, rfl, hb, hba, e0, e1, e2, e3, e4, e5⟩ := elem6 (hEU.under MB.out)
                have HYy := Lib.hid hy
                clear hEU hce hy hyt
                have hal := Lib.hid ((Below.refl wz.heap.size wz).alloc (Nat.le_refl _) (.cells #[.int .i64 u1, .string u2, .int .i64 u3, .slice u4 u5 u6, .slice u7 u8 u9, .string (str y.to)] 102))
                cases hq : usesX s 1 true y.cond
                · have HQY := Lib.hid hq
                  clear hq
                  go_wp2_with (go_at_call 78
                               (with_reducible refine (HF.out 1 true _ (MB.out.alloc MB.out.size _)).mono ?_)
                               rintro e w7 ⟨he, hb7⟩
                               rw [HQY.out] at he
                               subst he)
                  go_ret
                  exact ⟨ret_bool (by rw [HQ.out, all_no HST.out (by rw [stateUses, all_no HYy.out HQY.out, Bool.and_false])]), MQ.out.trans ((hal.out.mono MQ.out.size).trans (hb7.mono (by have := MQ.out.size; simp; omega)))⟩
                · have HQY := Lib.hid hq
                  clear hq
                  go_wp2_with (go_at_call 78
                               (with_reducible refine (HF.out 1 true _ (MB.out.alloc MB.out.size _)).mono ?_)
                               rintro e w7 ⟨he, hb7⟩
                               rw [HQY.out] at he
                               subst he)
                  go_roundg (st.ways.length - (m + 1))
                  case measure => have := MK.out; omega
                  case rel => exact ⟨m + 1, by omega, by go_num, MT.out.succ HYy.out HQY.out, MY.out.trans ((hal.out.mono MY.out.size).trans (hb7.mono (by have := MY.out.size; simp; omega)))⟩
              · have hme : m = st.ways.length := by omega
                have HME := Lib.hid (show stateUses s st = true by rw [stateUses, HJE.out, MT.out.all hme]; rfl)
                clear hme
                go_wp2_with fail
                go_roundg (sts.length - (k + 1))
                case measure => have := HK.out; omega
                case rel => exact ⟨k + 1, by omega, by go_num, HT.out.succ HST.out HME.out, MV.out⟩
      · have hke : k = sts.length := by omega
        have HKE := Lib.hid (show usesItem s ⟨⟨nl, ex⟩, sts⟩ = true by rw [HQ.out, HT.out.all hke])
        clear hke
        go_wp2_with fail
        go_ret
        exact ⟨ret_bool HKE.out.symm, HQW.out⟩
end
end Go.Proofs.YtbpbnebcbjacdaaGreat
