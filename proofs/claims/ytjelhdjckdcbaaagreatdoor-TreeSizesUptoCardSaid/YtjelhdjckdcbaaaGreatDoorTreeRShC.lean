/-
  Show: arms.
-/
import Derived.Test.YtjelhdjckdcbaaaGreatDoorTreeRShow
namespace Go.Proofs.YtjelhdjckdcbaaaGreatDoor
open Go.RowKit

set_option maxHeartbeats 4000000 in
set_option maxRecDepth 100000 in
theorem show_f {w0 : World} (htab : Tab w0) {op n : Int} {nm : Tx} {cs : List Tx} {ks : List Ex} {cv : Value} {A : Option Addr} {c : Nat} {C : Nat → List Value} (hop : i64B op) (hnm : nm.length ≤ maxLen) (hn : i64B n) (hcs : StrsAt w0 cv cs) (hl : ks.length ≤ c) (hc : c ≤ maxLen)
    (hk : ∀ (i : Nat) k, ks[i]? = some k → ElemAt w0 A i (C i)) (hx : ∀ (i : Nat) k, ks[i]? = some k → ExAt w0 (C i) k) (ih : ∀ (i : Nat) k, ks[i]? = some k → ShowC w0 (C i) k) (hops : op = 12) : ShowC w0 [.int .i64 op, .string (str nm), .int .i64 n, cv, .slice A ks.length c] (.mk op nm n cs ks) := by
  intro hwx w hb
  have HOPS := Lib.hid hops
  clear hops
  have hI : i64x (.mk op nm n cs ks) := (ExAt.mk hop hnm hn hcs hl hc hk hx).i64
  have HR := Lib.hid (show txt (.mk op nm n cs ks) = showS op nm n cs (ks.map txt) from (showS_X op nm n cs ks).symm)
  have HTOT := Lib.hid (show (showS op nm n cs (ks.map txt)).length ≤ 6291456 by have := txt_len hI; rw [HR.out] at this; omega)
  have HWK := Lib.hid (show ∀ k ∈ ks, wX k ≤ 1048576 ∧ (txt k).length ≤ 6291456 by
    intro k hk'
    have h1 := wX_kid (op := op) (n := n) (nm := nm) (cs := cs) hk'
    obtain ⟨i, hi⟩ := List.getElem?_of_mem hk'
    have h2 := txt_len (hx i k hi).i64
    omega)
  have hlk : ks.length ≤ 1048576 := by
    have := len_wXs ks
    rw [wX] at hwx
    omega
  have HB := Lib.hid hb
  have HOP := Lib.hid hop
  have HN := Lib.hid hn
  have HNM := Lib.hid hnm
  have HCS := Lib.hid hcs
  have HTB := Lib.hid htab
  have hsz0 := hb.size
  have HWC := Lib.hid (show ∀ c ∈ cs, c.length ≤ 1048576 by
    intro c hc'
    have h1 := wL_mem (f := fun x : Tx => x.length + 1) hc'
    rw [← wN_L] at h1
    rw [wX] at hwx
    omega)
  obtain ⟨A2, c2, rfl, hlc2, hmc2, hec2⟩ := hcs
  have hlc3 : cs.length ≤ 9223372036854775807 := by unfold maxLen at hmc2; omega
  clear hop hn hb hl hnm hI hwx htab hlc2 hmc2 hec2
  go_enter Tryz.func12, Tryz.ntmps12
  go_wp2_with fail
  go_loopg [3, 4] ks.length (fun g s v wr => ∃ k : Nat, k + g = ks.length ∧ v = .int .i64 k ∧ OwnS w.heap.size wr s ((ks.take k).map txt) ∧ Below w.heap.size w wr ∧ wr.heap[w.heap.size]? = some (.cells #[.int .i64 op, .string (str nm), .int .i64 n, .slice A2 cs.length c2, .slice A ks.length c] 25 (0, 0)))
  case atStart => exact ⟨0, by omega, rfl, OwnS.nil _ _, (Below.refl _ _).alloc (Nat.le_refl _) _, heap_alloc_new w _⟩
  case round =>
    obtain ⟨k, hkg, rfl, ho, hbw, hbox⟩ := hrel
    obtain ⟨wn, rfl⟩ : ∃ W, W = wr := ⟨_, rfl⟩
    have HX := Lib.hid hbox
    obtain ⟨b0, b1, b2, b3, b4⟩ := row5 hbox
    have hlb := lt_of_heap hbox
    have HK := Lib.hid hkg
    have HW := Lib.hid hbw
    have HO := Lib.hid ho
    have hszw := hbw.size
    have hkl : k ≤ ks.length := by omega
    clear hkg hbw hbox ho
    by_cases hlt : k < ks.length
    · obtain ⟨y, hy⟩ : ∃ y, ks[k]? = some y := ⟨_, List.getElem?_eq_getElem hlt⟩
      have hC := hk k y hy
      have hih := Lib.hid (ih k y hy (HWK.out y (List.mem_of_getElem? hy)).1)
      have hxk := hx k y hy
      have HS := Lib.hid (show (ks.take (k + 1)).map txt = (ks.take k).map txt ++ [txt y] by rw [take_snoc hy]; simp)
      have HTY := Lib.hid (show (txt y).length ≤ maxLen by have := (HWK.out y (List.mem_of_getElem? hy)).2; unfold maxLen; omega)
      have HLN := Lib.hid (show ((ks.take k).map txt).length ≤ 2097152 by simp; omega)
      obtain ⟨o1, s1, n1, A1, m1, k1, A2, m2, k2, hL⟩ := hxk.shape
      generalize C k = L at hC hih hxk hL
      subst hL
      clear hy hxk hk hx ih hc
      have hB0 := Lib.hid ((HB.out.trans (HW.out.mono hsz0)))
      obtain ⟨a, rfl, ha, haa, d0, d1, d2, d3, d4⟩ := elem5 (hC.under hB0.out)
      clear hC
      go_wp2_with (first
        | (go_at_call 12
           (with_reducible refine (hih.out _ hB0.out).mono ?_)
           rintro e w1 ⟨rfl, hb1⟩
           obtain ⟨v1, rfl⟩ : ∃ W, W = w1 := ⟨_, rfl⟩
           have HO1 := Lib.hid (HO.out.under hb1)
           have HW1 := Lib.hid (HW.out.trans (hb1.mono hszw))
           have HX1 := Lib.hid (box_next hb1 HX.out)
           have hs1 := HW1.out.size
           clear hb1)
        | (at_builtin; refine append_str rfl _ _ rfl rfl rfl (heap_alloc_new v1 _) (HO1.out.alloc _) HTY.out HLN.out ?_ ?_; (first | omega | (simp; omega)); (intro v' w2 hap; obtain ⟨v2, rfl⟩ : ∃ W, W = w2 := ⟨_, rfl⟩; have HAP := Lib.hid hap; clear hap)))
      go_roundg (ks.length - (k + 1))
      case measure => have := HK.out; omega
      case rel => exact ⟨k + 1, by omega, by go_num, by rw [HS.out]; exact HAP.out.1, (HW1.out.alloc (by omega) _).trans HAP.out.2.1, HAP.out.2.2 _ _ _ (by decide) (heap_one' HX1.out _)⟩
    · have hke : k = ks.length := by omega
      have HO2 := Lib.hid (own_all hke HO.out)
      have HCC := Lib.hid hc
      clear hke hk hx ih hc
      go_wp2_with fail
      go_loopg [3] (3 - ks.length) (fun g s wr => ∃ j : Nat, j + g = 3 - ks.length ∧ OwnS w.heap.size wr s (ks.map txt ++ List.replicate j [63]) ∧ Below w.heap.size w wr ∧ wr.heap[w.heap.size]? = some (.cells #[.int .i64 op, .string (str nm), .int .i64 n, .slice A2 cs.length c2, .slice A ks.length c] 25 (0, 0)))
      case atStart => exact ⟨0, by omega, HO2.out, HW.out, HX.out⟩
      case round =>
        clear HO HO2 HK HW HX hszw hkl hlb b0 b1 b2 b3 b4 hlt
        obtain ⟨j, hkg, ho, hbw, hbox⟩ := hrel
        obtain ⟨Z, rfl⟩ : ∃ W, W = wr := ⟨_, rfl⟩
        have HX := Lib.hid hbox
        obtain ⟨b0, b1, b2, b3, b4⟩ := row5 hbox
        have hlb := lt_of_heap hbox
        have HK := Lib.hid hkg
        have HW := Lib.hid hbw
        have hszw := hbw.size
        by_cases hlt3 : j < 3 - ks.length
        · have HO := Lib.hid ho
          obtain ⟨A3, n3, c3, rfl, hn3⟩ := ho.shape
          have hn3' : n3 < 3 := by rw [hn3]; simp; omega
          have H63 := Lib.hid (show ([63] : Tx).length ≤ maxLen by unfold maxLen; decide)
          have HLN := Lib.hid (show (ks.map txt ++ List.replicate j [63]).length ≤ 2097152 by simp; omega)
          clear hkg hbw hbox ho hn3
          go_wp2_with (at_builtin; refine append_str rfl _ _ rfl rfl rfl (heap_alloc_new Z _) (HO.out.alloc _) H63.out HLN.out ?_ ?_; (first | omega | (simp; omega)); (intro v' w2 hap; obtain ⟨v2, rfl⟩ : ∃ W, W = w2 := ⟨_, rfl⟩; have HAP := Lib.hid hap; clear hap))
          go_roundg (3 - ks.length - (j + 1))
          case measure => have := HK.out; omega
          case rel => exact ⟨j + 1, by omega, by rw [List.replicate_succ', ← List.append_assoc]; exact HAP.out.1, (HW.out.alloc (by omega) _).trans HAP.out.2.1, HAP.out.2.2 _ _ _ (by decide) (heap_one' HX.out _)⟩
        · have hje : j = 3 - (ks.map txt).length := by simp; omega
          have ho' := own_kids hje ho
          have hk3 := (kidsS_len (ks.map txt)).1
          have hkn := (kidsS_len (ks.map txt)).2
          rw [List.length_map] at hkn
          obtain ⟨g, cap, rfl, hcap, hm, hg, hgl, hcells⟩ := ho'.row (by intro h; rw [h] at hk3; simp at hk3)
          have k0 := hcells 0 _ (kidsS_get _ (by omega))
          have k1 := hcells 1 _ (kidsS_get _ (by omega))
          have k2 := hcells 2 _ (kidsS_get _ (by omega))
          have HCELL := Lib.hid hcells
          have HHM := Lib.hid hm
          have HGG := Lib.hid hg
          have hm2 : cap ≤ 9223372036854775807 := by unfold maxLen at hm; omega
          generalize (kidsS (ks.map txt)).length = N3 at *
          clear hkg hbw hbox ho ho' hje hcells hm hg hlt3
          have HBZ := Lib.hid (HB.out.trans (HW.out.mono hsz0))
          have hops := HOPS.out
          subst hops
          · have ht : 5 + 1 + (str nm).size + 2 + (str (padL [124] (armsS cs (ks.map txt)))).size + 2 ≤ 6291456 := by have := HTOT.out; simp only [showS, mergeT, Int.reduceEq, if_true, if_false, List.length_append, List.length_cons, List.length_nil] at this; simp only [str_size]; omega
            go_wp2_with fail
            go_loopg [6, 7] (min ks.length cs.length) (fun g s v wr => ∃ k : Nat, k + g = min ks.length cs.length ∧ v = .int .i64 k ∧ OwnS Z.heap.size wr s (armsS (cs.take k) ((ks.map txt).take k)) ∧ Below Z.heap.size Z wr)
            case atStart => exact ⟨0, by omega, rfl, by simpa [armsS] using OwnS.nil _ _, Below.refl _ _⟩
            case round =>
              obtain ⟨k, hkg, rfl, ho, hbw⟩ := hrel
              obtain ⟨Y, rfl⟩ : ∃ W, W = wr := ⟨_, rfl⟩
              have HK2 := Lib.hid hkg
              have HY := Lib.hid hbw
              have HO := Lib.hid ho
              have hszy := hbw.size
              clear b0 b1 b2 b3 b4 k0 k1 k2
              have BY := Lib.hid (box_next hbw HX.out)
              obtain ⟨b0, b1, b2, b3, b4⟩ := row5 BY.out
              have HCY := Lib.hid (HCELL.out.under hgl hbw)
              have HSY := Lib.hid (HCS.out.under HBZ.out)
              have hkm : k ≤ ks.length := by omega
              have hkc : k ≤ cs.length := by omega
              clear hkg hbw ho
              by_cases hlt : k < ks.length ∧ k < cs.length
              · obtain ⟨hl1, hl2⟩ := hlt
                obtain ⟨y, hy⟩ : ∃ y, ks[k]? = some y := ⟨_, List.getElem?_eq_getElem hl1⟩
                obtain ⟨cc, hcc⟩ : ∃ y, cs[k]? = some y := ⟨_, List.getElem?_eq_getElem hl2⟩
                have hcl := HWC.out cc (List.mem_of_getElem? hcc)
                have hyl := (HWK.out y (List.mem_of_getElem? hy)).2
                have hky : (ks.map txt)[k]? = some (txt y) := by simp [hy]
                have HAR := Lib.hid (armsS_take cs (ks.map txt) k cc (txt y) hcc hky)
                have HKX := Lib.hid (show (kidsS (ks.map txt))[k]? = some (txt y) by rw [kidsS, List.getElem?_append_left (by simp; omega)]; exact hky)
                have kk := HCY.out k (txt y) (by rw [kidsS, List.getElem?_append_left (by simp; omega)]; exact hky)
                have kk' : Y.cell? ((⟨g, 0, none⟩ : Addr).add k) = some (.string (str (txt y))) := by
                  have hadd : (⟨g, 0, none⟩ : Addr).add k = ⟨g, k, none⟩ := by unfold Addr.add; split <;> simp_all
                  rw [hadd]; exact kk
                obtain ⟨A9, c9, e9, _, _, he9⟩ := HSY.out
                obtain ⟨L9, hE9, hR9⟩ := he9 k cc hcc
                obtain ⟨rfl, _⟩ := hR9
                injection e9 with e9 e10 e11
                clear e10 e11
                obtain ⟨a9, ea9, _, hzc, q9z⟩ := elem1 hE9
                rw [ea9] at e9
                subst e9
                simp only [Nat.mul_one] at q9z hzc
                have q9 := (HY.out.cell (p := a9.add k) hzc).trans q9z
                clear q9z
                have hsum : (str cc).size + 4 + (str (txt y)).size ≤ 10000000 := by rw [str_size, str_size]; omega
                have q1 : ¬ 9223372036854775807 < (str cc).size + 4 := by omega
                have q2 : ¬ 9223372036854775807 < (str cc).size + 4 + (str (txt y)).size := by omega
                have HXL := Lib.hid (show (cc ++ [32, 45, 62, 32] ++ txt y).length ≤ maxLen by simp only [List.length_append, List.length_cons, List.length_nil]; unfold maxLen; omega)
                have HAL := Lib.hid (show (armsS (cs.take k) ((ks.map txt).take k)).length ≤ 2097152 by have := armsS_len (cs.take k) ((ks.map txt).take k); rw [List.length_take] at this; omega)
                clear hy hcc hky hE9 he9 ea9
                go_wp2_with fail
                refine wp_region_held_drew (S := (fun W => W.cell? ⟨w.heap.size, 3, none⟩ = some (.slice (some a9) cs.length c2) ∧ W.cell? ⟨g, k, none⟩ = some (.string (str (txt y))) ∧ W.cell? (a9.add k) = some (.string (str cc)))) (by kernel_rfl) ?_ (fun hHeld => ?_)
                · (try dsimp only); go_keep
                refine take_at 0 (v := ?_) rfl (by kernel_rfl) (by kernel_rfl) (by kernel_rfl) (fun _ _ _ h => h) (by rfl) ?_ (by assumption) ?_
                rotate_left
                · intro w hSw; (try dsimp only at hSw); go_simp; (try rw [if_neg (by assumption)]); (try rw [if_pos (by omega)]); (try simp only [hSw]); (try with_reducible rfl)
                try simp only [Act.put, List.setIfInBounds_toArray, List.set_cons_zero, List.set_cons_succ]
                refine take_at 1 (v := ?_) rfl (by kernel_rfl) (by kernel_rfl) (by kernel_rfl) (fun _ _ _ h => h) (by rfl) ?_ (by assumption) ?_
                rotate_left
                · intro w hSw; (try dsimp only at hSw); go_simp; (try rw [if_neg (by assumption)]); (try rw [if_pos (by omega)]); (try simp only [hSw]); (try with_reducible rfl)
                try simp only [Act.put, List.setIfInBounds_toArray, List.set_cons_zero, List.set_cons_succ]
                refine take_at 2 (v := ?_) rfl (by kernel_rfl) (by kernel_rfl) (by kernel_rfl) (fun _ _ _ h => h) (by rfl) ?_ (by assumption) ?_
                rotate_left
                · intro w hSw; (try dsimp only at hSw); go_simp; (try rw [if_neg (by assumption)]); (try rw [if_pos (by omega)]); (try simp only [hSw]); (try with_reducible rfl)
                try simp only [Act.put, List.setIfInBounds_toArray, List.set_cons_zero, List.set_cons_succ]
                refine take_at 3 (v := ?_) rfl (by kernel_rfl) (by kernel_rfl) (by kernel_rfl) (fun _ _ _ h => h) (by rfl) ?_ (by assumption) ?_
                rotate_left
                · intro w hSw; (try dsimp only at hSw); go_simp; (try rw [if_neg (by assumption)]); (try rw [if_pos (by omega)]); (try simp only [hSw]); (try with_reducible rfl)
                try simp only [Act.put, List.setIfInBounds_toArray, List.set_cons_zero, List.set_cons_succ]
                refine take_at 4 (v := ?_) rfl (by kernel_rfl) (by kernel_rfl) (by kernel_rfl) (fun _ _ _ h => h) (by rfl) ?_ (by assumption) ?_
                rotate_left
                · intro w hSw; (try dsimp only at hSw); go_simp; (try rw [if_neg (by assumption)]); (try rw [if_pos (by omega)]); (try simp only [hSw]); (try with_reducible rfl)
                try simp only [Act.put, List.setIfInBounds_toArray, List.set_cons_zero, List.set_cons_succ]
                refine take_at 5 (v := ?_) rfl (by kernel_rfl) (by kernel_rfl) (by kernel_rfl) (fun _ _ _ h => h) (by rfl) ?_ (by assumption) ?_
                rotate_left
                · intro w hSw; (try dsimp only at hSw); go_simp; (try rw [if_neg (by assumption)]); (try rw [if_pos (by omega)]); (try simp only [hSw]); (try with_reducible rfl)
                try simp only [Act.put, List.setIfInBounds_toArray, List.set_cons_zero, List.set_cons_succ]
                refine take_at 6 (v := ?_) rfl (by kernel_rfl) (by kernel_rfl) (by kernel_rfl) (fun _ _ _ h => h) (by rfl) ?_ (by assumption) ?_
                rotate_left
                · intro w hSw; (try dsimp only at hSw); go_simp; (try rw [if_neg (by assumption)]); (try rw [if_pos (by omega)]); (try simp only [hSw]); (try with_reducible rfl)
                try simp only [Act.put, List.setIfInBounds_toArray, List.set_cons_zero, List.set_cons_succ]
                refine take_at 7 (v := ?_) rfl (by kernel_rfl) (by kernel_rfl) (by kernel_rfl) (fun _ _ _ h => h) (by rfl) ?_ (by assumption) ?_
                rotate_left
                · intro w hSw; (try dsimp only at hSw); go_simp; (try rw [if_neg (by assumption)]); (try rw [if_pos (by omega)]); (try simp only [hSw]); (try with_reducible rfl)
                try simp only [Act.put, List.setIfInBounds_toArray, List.set_cons_zero, List.set_cons_succ]
                refine take_at 8 (v := ?_) rfl (by kernel_rfl) (by kernel_rfl) (by kernel_rfl) (fun _ _ _ h => h) (by rfl) ?_ (by assumption) ?_
                rotate_left
                · intro w hSw; (try dsimp only at hSw); go_simp; (try rw [if_neg (by assumption)]); (try rw [if_pos (by omega)]); (try simp only [hSw]); (try with_reducible rfl)
                try simp only [Act.put, List.setIfInBounds_toArray, List.set_cons_zero, List.set_cons_succ]
                refine take_at 9 (v := ?_) rfl (by kernel_rfl) (by kernel_rfl) (by kernel_rfl) (fun _ _ _ h => h) (by rfl) ?_ (by assumption) ?_
                rotate_left
                · intro w hSw; (try dsimp only at hSw); go_simp; (try rw [if_neg (by assumption)]); (try rw [if_pos (by omega)]); (try simp only [hSw]); (try with_reducible rfl)
                try simp only [Act.put, List.setIfInBounds_toArray, List.set_cons_zero, List.set_cons_succ]
                refine take_at 10 (v := ?_) rfl (by kernel_rfl) (by kernel_rfl) (by kernel_rfl) (fun _ _ _ h => h) (by rfl) ?_ (by assumption) ?_
                rotate_left
                · intro w hSw; (try dsimp only at hSw); go_simp; (try rw [if_neg (by assumption)]); (try rw [if_pos (by omega)]); (try simp only [hSw]); (try with_reducible rfl)
                try simp only [Act.put, List.setIfInBounds_toArray, List.set_cons_zero, List.set_cons_succ]
                refine take_at 11 (v := ?_) rfl (by kernel_rfl) (by kernel_rfl) (by kernel_rfl) (fun _ _ _ h => h) (by rfl) ?_ (by assumption) ?_
                rotate_left
                · intro w hSw; (try dsimp only at hSw); go_simp; (try rw [if_neg (by assumption)]); (try rw [if_pos (by omega)]); (try simp only [hSw]); (try with_reducible rfl)
                try simp only [Act.put, List.setIfInBounds_toArray, List.set_cons_zero, List.set_cons_succ]
                refine only_at 12 (by kernel_rfl) rfl (fun K hK => ?_)
                go_simp
                refine hK.out _ _ ?_ (fun hHeld => ?_)
                · (try dsimp only); go_keep
                clear hK K
                try simp only [Act.put, List.setIfInBounds_toArray, List.set_cons_zero, List.set_cons_succ]
                refine only_at 13 (by kernel_rfl) rfl (fun K hK => ?_)
                (refine step_str rfl _ _ rfl rfl rfl (heap_alloc_new Y.drew _) ((OwnS.drew HO.out).alloc _) HXL.out HAL.out ?_ ?_
                 · first | omega | (simp; omega)
                 intro v' w2 hap
                 obtain ⟨v2, rfl⟩ : ∃ W, W = w2 := ⟨_, rfl⟩
                 have HAP := Lib.hid hap
                 have hbz := ((Below.refl Z.heap.size Y).drew.alloc (by simp; omega) _).trans hap.2.1
                 obtain ⟨z0, z1, z2, z3, z4⟩ := row5 ((hbz.block _ hlb).trans BY.out)
                 have zk := (hbz.cell (p := ⟨g, k, none⟩) hgl).trans kk
                 have zc := (hbz.cell (p := a9.add k) hzc).trans q9
                 have HBF := Lib.hid (HY.out.trans hbz)
                 clear hap hbz)
                refine hK.out _ _ ?_ (fun hHeld => ?_)
                · (try dsimp only); go_keep
                clear hK K
                try simp only [Act.put, List.setIfInBounds_toArray, List.set_cons_zero, List.set_cons_succ]
                refine take_at 14 (v := ?_) rfl (by kernel_rfl) (by kernel_rfl) (by kernel_rfl) (fun _ _ _ h => h) (by rfl) ?_ (by assumption) ?_
                rotate_left
                · intro w hSw; (try dsimp only at hSw); go_simp; (try rw [if_neg (by assumption)]); (try rw [if_pos (by omega)]); (try simp only [hSw]); (try with_reducible rfl)
                try simp only [Act.put, List.setIfInBounds_toArray, List.set_cons_zero, List.set_cons_succ]
                refine wpAnyH_done (by kernel_rfl) ?_ _
                go_wp2_with fail
                go_roundg (min ks.length cs.length - (k + 1))
                case measure => have := HK2.out; omega
                case rel => exact ⟨k + 1, by omega, by go_num, by rw [HAR.out]; exact HAP.out.1, HBF.out⟩
              · have HAR := Lib.hid (armsS_over cs (ks.map txt) k (by rw [List.length_map]; omega))
                have hst := HO.out.strs
                rw [HAR.out] at hst
                have HPAD := Lib.hid (fun n => rPad124 hst (by rw [← str_size]; omega) n)
                obtain ⟨A9, n9, c9, rfl, hn9⟩ := HO.out.shape
                clear hn9
                clear hst
                by_cases hl1 : k < ks.length
                · have hl2 : ¬ k < cs.length := fun h => hlt ⟨hl1, h⟩
                  clear hlt
                  go_wp2_with fail
                  go_quiet ((go_at_call 24; exact Calls.quiet_of_same (HPAD.out _)))
                  go_wp2_with fail
                  go_ret
                  exact ⟨ret_strB (by rw [HR.out]; simp only [lit_str, str_append']; rfl), HW.out.trans (below_drewN (HY.out.mono hszw) _)⟩
                · clear hlt
                  go_wp2_with fail
                  go_quiet ((go_at_call 24; exact Calls.quiet_of_same (HPAD.out _)))
                  go_wp2_with fail
                  go_ret
                  exact ⟨ret_strB (by rw [HR.out]; simp only [lit_str, str_append']; rfl), HW.out.trans (below_drewN (HY.out.mono hszw) _)⟩
end Go.Proofs.YtjelhdjckdcbaaaGreatDoor
