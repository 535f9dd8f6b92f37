/-
  Show: more of them.
-/
import Derived.Test.YtjelhdjckdcbaaaGreatDoorTreeRShow
namespace Go.Proofs.YtjelhdjckdcbaaaGreatDoor
open Go.RowKit

set_option maxHeartbeats 4000000 in
set_option maxRecDepth 100000 in
theorem show_c {w0 : World} (htab : Tab w0) {op n : Int} {nm : Tx} {cs : List Tx} {ks : List Ex} {cv : Value} {A : Option Addr} {c : Nat} {C : Nat → List Value} (hop : i64B op) (hnm : nm.length ≤ maxLen) (hn : i64B n) (hcs : StrsAt w0 cv cs) (hl : ks.length ≤ c) (hc : c ≤ maxLen)
    (hk : ∀ (i : Nat) k, ks[i]? = some k → ElemAt w0 A i (C i)) (hx : ∀ (i : Nat) k, ks[i]? = some k → ExAt w0 (C i) k) (ih : ∀ (i : Nat) k, ks[i]? = some k → ShowC w0 (C i) k) (hops : op = 9 ∨ op = 10 ∨ op = 15) : ShowC w0 [.int .i64 op, .string (str nm), .int .i64 n, cv, .slice A ks.length c] (.mk op nm n cs ks) := by
  intro hwx w hb
  have hI : i64x (.mk op nm n cs ks) := (ExAt.mk hop hnm hn hcs hl hc hk hx).i64
  have HR := Lib.hid (show txt (.mk op nm n cs ks) = showS op nm n cs (ks.map txt) from (showS_X op nm n cs ks).symm)
  have HTOT := Lib.hid (show (showS op nm n cs (ks.map txt)).length ≤ 6291456 by have := txt_len hI; rw [HR.out] at this; omega)
  have HWK := Lib.hid (show ∀ k ∈ ks, wX k ≤ 1048576 ∧ (txt k).length ≤ 6291456 by
    intro k hk'
    have h1 := wX_kid (op := op) (n := n) (nm := nm) (cs := cs) hk'
    obtain ⟨i, hi⟩ := List.getElem?_of_mem hk'
    have h2 := txt_len (hx i k hi).i64
    omega)
  have hlk : ks.length ≤ 1048576 := by
    have := len_wXs ks
    rw [wX] at hwx
    omega
  have HB := Lib.hid hb
  have HOP := Lib.hid hop
  have HN := Lib.hid hn
  have HNM := Lib.hid hnm
  have HCS := Lib.hid hcs
  have HTB := Lib.hid htab
  have hsz0 := hb.size
  have HWC := Lib.hid (show ∀ c ∈ cs, c.length ≤ 1048576 by
    intro c hc'
    have h1 := wL_mem (f := fun x : Tx => x.length + 1) hc'
    rw [← wN_L] at h1
    rw [wX] at hwx
    omega)
  obtain ⟨A2, c2, rfl, hlc2, hmc2, hec2⟩ := hcs
  have hlc3 : cs.length ≤ 9223372036854775807 := by unfold maxLen at hmc2; omega
  clear hop hn hb hl hnm hI hwx htab hlc2 hmc2 hec2
  go_enter Tryz.func12, Tryz.ntmps12
  go_wp2_with fail
  go_loopg [3, 4] ks.length (fun g s v wr => ∃ k : Nat, k + g = ks.length ∧ v = .int .i64 k ∧ OwnS w.heap.size wr s ((ks.take k).map txt) ∧ Below w.heap.size w wr ∧ wr.heap[w.heap.size]? = some (.cells #[.int .i64 op, .string (str nm), .int .i64 n, .slice A2 cs.length c2, .slice A ks.length c] 25 (0, 0)))
  case atStart => exact ⟨0, by omega, rfl, OwnS.nil _ _, (Below.refl _ _).alloc (Nat.le_refl _) _, heap_alloc_new w _⟩
  case round =>
    obtain ⟨k, hkg, rfl, ho, hbw, hbox⟩ := hrel
    obtain ⟨wn, rfl⟩ : ∃ W, W = wr := ⟨_, rfl⟩
    have HX := Lib.hid hbox
    obtain ⟨b0, b1, b2, b3, b4⟩ := row5 hbox
    have hlb := lt_of_heap hbox
    have HK := Lib.hid hkg
    have HW := Lib.hid hbw
    have HO := Lib.hid ho
    have hszw := hbw.size
    have hkl : k ≤ ks.length := by omega
    clear hkg hbw hbox ho
    by_cases hlt : k < ks.length
    · obtain ⟨y, hy⟩ : ∃ y, ks[k]? = some y := ⟨_, List.getElem?_eq_getElem hlt⟩
      have hC := hk k y hy
      have hih := Lib.hid (ih k y hy (HWK.out y (List.mem_of_getElem? hy)).1)
      have hxk := hx k y hy
      have HS := Lib.hid (show (ks.take (k + 1)).map txt = (ks.take k).map txt ++ [txt y] by rw [take_snoc hy]; simp)
      have HTY := Lib.hid (show (txt y).length ≤ maxLen by have := (HWK.out y (List.mem_of_getElem? hy)).2; unfold maxLen; omega)
      have HLN := Lib.hid (show ((ks.take k).map txt).length ≤ 2097152 by simp; omega)
      obtain ⟨o1, s1, n1, A1, m1, k1, A2, m2, k2, hL⟩ := hxk.shape
      generalize C k = L at hC hih hxk hL
      subst hL
      clear hy hxk hk hx ih hc
      have hB0 := Lib.hid ((HB.out.trans (HW.out.mono hsz0)))
      obtain ⟨a, rfl, ha, haa, d0, d1, d2, d3, d4⟩ := elem5 (hC.under hB0.out)
      clear hC
      go_wp2_with (first
        | (go_at_call 12
           (with_reducible refine (hih.out _ hB0.out).mono ?_)
           rintro e w1 ⟨rfl, hb1⟩
           obtain ⟨v1, rfl⟩ : ∃ W, W = w1 := ⟨_, rfl⟩
           have HO1 := Lib.hid (HO.out.under hb1)
           have HW1 := Lib.hid (HW.out.trans (hb1.mono hszw))
           have HX1 := Lib.hid (box_next hb1 HX.out)
           have hs1 := HW1.out.size
           clear hb1)
        | (at_builtin; refine append_str rfl _ _ rfl rfl rfl (heap_alloc_new v1 _) (HO1.out.alloc _) HTY.out HLN.out ?_ ?_; (first | omega | (simp; omega)); (intro v' w2 hap; obtain ⟨v2, rfl⟩ : ∃ W, W = w2 := ⟨_, rfl⟩; have HAP := Lib.hid hap; clear hap)))
      go_roundg (ks.length - (k + 1))
      case measure => have := HK.out; omega
      case rel => exact ⟨k + 1, by omega, by go_num, by rw [HS.out]; exact HAP.out.1, (HW1.out.alloc (by omega) _).trans HAP.out.2.1, HAP.out.2.2 _ _ _ (by decide) (heap_one' HX1.out _)⟩
    · have hke : k = ks.length := by omega
      have HO2 := Lib.hid (own_all hke HO.out)
      have HCC := Lib.hid hc
      clear hke hk hx ih hc
      go_wp2_with fail
      go_loopg [3] (3 - ks.length) (fun g s wr => ∃ j : Nat, j + g = 3 - ks.length ∧ OwnS w.heap.size wr s (ks.map txt ++ List.replicate j [63]) ∧ Below w.heap.size w wr ∧ wr.heap[w.heap.size]? = some (.cells #[.int .i64 op, .string (str nm), .int .i64 n, .slice A2 cs.length c2, .slice A ks.length c] 25 (0, 0)))
      case atStart => exact ⟨0, by omega, HO2.out, HW.out, HX.out⟩
      case round =>
        clear HO HO2 HK HW HX hszw hkl hlb b0 b1 b2 b3 b4 hlt
        obtain ⟨j, hkg, ho, hbw, hbox⟩ := hrel
        obtain ⟨Z, rfl⟩ : ∃ W, W = wr := ⟨_, rfl⟩
        have HX := Lib.hid hbox
        obtain ⟨b0, b1, b2, b3, b4⟩ := row5 hbox
        have hlb := lt_of_heap hbox
        have HK := Lib.hid hkg
        have HW := Lib.hid hbw
        have hszw := hbw.size
        by_cases hlt3 : j < 3 - ks.length
        · have HO := Lib.hid ho
          obtain ⟨A3, n3, c3, rfl, hn3⟩ := ho.shape
          have hn3' : n3 < 3 := by rw [hn3]; simp; omega
          have H63 := Lib.hid (show ([63] : Tx).length ≤ maxLen by unfold maxLen; decide)
          have HLN := Lib.hid (show (ks.map txt ++ List.replicate j [63]).length ≤ 2097152 by simp; omega)
          clear hkg hbw hbox ho hn3
          go_wp2_with (at_builtin; refine append_str rfl _ _ rfl rfl rfl (heap_alloc_new Z _) (HO.out.alloc _) H63.out HLN.out ?_ ?_; (first | omega | (simp; omega)); (intro v' w2 hap; obtain ⟨v2, rfl⟩ : ∃ W, W = w2 := ⟨_, rfl⟩; have HAP := Lib.hid hap; clear hap))
          go_roundg (3 - ks.length - (j + 1))
          case measure => have := HK.out; omega
          case rel => exact ⟨j + 1, by omega, by rw [List.replicate_succ', ← List.append_assoc]; exact HAP.out.1, (HW.out.alloc (by omega) _).trans HAP.out.2.1, HAP.out.2.2 _ _ _ (by decide) (heap_one' HX.out _)⟩
        · have hje : j = 3 - (ks.map txt).length := by simp; omega
          have ho' := own_kids hje ho
          have hk3 := (kidsS_len (ks.map txt)).1
          have hkn := (kidsS_len (ks.map txt)).2
          rw [List.length_map] at hkn
          obtain ⟨g, cap, rfl, hcap, hm, hg, hgl, hcells⟩ := ho'.row (by intro h; rw [h] at hk3; simp at hk3)
          have k0 := hcells 0 _ (kidsS_get _ (by omega))
          have k1 := hcells 1 _ (kidsS_get _ (by omega))
          have k2 := hcells 2 _ (kidsS_get _ (by omega))
          have HCELL := Lib.hid hcells
          have HHM := Lib.hid hm
          have HGG := Lib.hid hg
          have hm2 : cap ≤ 9223372036854775807 := by unfold maxLen at hm; omega
          generalize (kidsS (ks.map txt)).length = N3 at *
          clear hkg hbw hbox ho ho' hje hcells hm hg hlt3
          have HBZ := Lib.hid (HB.out.trans (HW.out.mono hsz0))
          rcases hops with rfl | rfl | rfl
          · have ht : 6 + (str (kS (ks.map txt) 0)).size + 2 ≤ 6291456 := by have := HTOT.out; simp only [showS, Int.reduceEq, if_true, if_false, List.length_append, List.length_cons, List.length_nil] at this; simp only [str_size]; omega
            go_wp2_with fail
            go_ret
            exact ⟨ret_strB (by rw [HR.out]; simp only [lit_str, str_append']; rfl), HW.out⟩
          · have ht : 2 + (str (kS (ks.map txt) 0)).size + 4 + (str (kS (ks.map txt) 1)).size + 2 ≤ 6291456 := by have := HTOT.out; simp only [showS, Int.reduceEq, if_true, if_false, List.length_append, List.length_cons, List.length_nil] at this; simp only [str_size]; omega
            go_wp2_with fail
            go_quiet (fail)
            go_wp2_with fail
            go_ret
            exact ⟨ret_strB (by rw [HR.out]; simp only [lit_str, str_append']; rfl), below_drewN HW.out _⟩
          · have ht : 2 + (str (kS (ks.map txt) 0)).size + 7 + (str (kS (ks.map txt) 1)).size + 2 ≤ 6291456 := by have := HTOT.out; simp only [showS, Int.reduceEq, if_true, if_false, List.length_append, List.length_cons, List.length_nil] at this; simp only [str_size]; omega
            go_wp2_with fail
            go_quiet (fail)
            go_wp2_with fail
            go_ret
            exact ⟨ret_strB (by rw [HR.out]; simp only [lit_str, str_append']; rfl), below_drewN HW.out _⟩
set_option maxHeartbeats 4000000 in
set_option maxRecDepth 100000 in
theorem show_d {w0 : World} (htab : Tab w0) {op n : Int} {nm : Tx} {cs : List Tx} {ks : List Ex} {cv : Value} {A : Option Addr} {c : Nat} {C : Nat → List Value} (hop : i64B op) (hnm : nm.length ≤ maxLen) (hn : i64B n) (hcs : StrsAt w0 cv cs) (hl : ks.length ≤ c) (hc : c ≤ maxLen)
    (hk : ∀ (i : Nat) k, ks[i]? = some k → ElemAt w0 A i (C i)) (hx : ∀ (i : Nat) k, ks[i]? = some k → ExAt w0 (C i) k) (ih : ∀ (i : Nat) k, ks[i]? = some k → ShowC w0 (C i) k) (h1 : op ≠ 1) (h2 : op ≠ 2) (h3 : op ≠ 3) (h4 : op ≠ 4) (h5 : op ≠ 5) (h6 : op ≠ 6) (h7 : op ≠ 7) (h8 : op ≠ 8) (h9 : op ≠ 9) (h10 : op ≠ 10) (h11 : op ≠ 11) (h12 : op ≠ 12) (h13 : op ≠ 13) (h14 : op ≠ 14) (h15 : op ≠ 15) : ShowC w0 [.int .i64 op, .string (str nm), .int .i64 n, cv, .slice A ks.length c] (.mk op nm n cs ks) := by
  intro hwx w hb
  have hI : i64x (.mk op nm n cs ks) := (ExAt.mk hop hnm hn hcs hl hc hk hx).i64
  have HR := Lib.hid (show txt (.mk op nm n cs ks) = showS op nm n cs (ks.map txt) from (showS_X op nm n cs ks).symm)
  have HTOT := Lib.hid (show (showS op nm n cs (ks.map txt)).length ≤ 6291456 by have := txt_len hI; rw [HR.out] at this; omega)
  have HWK := Lib.hid (show ∀ k ∈ ks, wX k ≤ 1048576 ∧ (txt k).length ≤ 6291456 by
    intro k hk'
    have h1 := wX_kid (op := op) (n := n) (nm := nm) (cs := cs) hk'
    obtain ⟨i, hi⟩ := List.getElem?_of_mem hk'
    have h2 := txt_len (hx i k hi).i64
    omega)
  have hlk : ks.length ≤ 1048576 := by
    have := len_wXs ks
    rw [wX] at hwx
    omega
  have HB := Lib.hid hb
  have HOP := Lib.hid hop
  have HN := Lib.hid hn
  have HNM := Lib.hid hnm
  have HCS := Lib.hid hcs
  have HTB := Lib.hid htab
  have hsz0 := hb.size
  have HWC := Lib.hid (show ∀ c ∈ cs, c.length ≤ 1048576 by
    intro c hc'
    have h1 := wL_mem (f := fun x : Tx => x.length + 1) hc'
    rw [← wN_L] at h1
    rw [wX] at hwx
    omega)
  obtain ⟨A2, c2, rfl, hlc2, hmc2, hec2⟩ := hcs
  have hlc3 : cs.length ≤ 9223372036854775807 := by unfold maxLen at hmc2; omega
  clear hop hn hb hl hnm hI hwx htab hlc2 hmc2 hec2
  go_enter Tryz.func12, Tryz.ntmps12
  go_wp2_with fail
  go_loopg [3, 4] ks.length (fun g s v wr => ∃ k : Nat, k + g = ks.length ∧ v = .int .i64 k ∧ OwnS w.heap.size wr s ((ks.take k).map txt) ∧ Below w.heap.size w wr ∧ wr.heap[w.heap.size]? = some (.cells #[.int .i64 op, .string (str nm), .int .i64 n, .slice A2 cs.length c2, .slice A ks.length c] 25 (0, 0)))
  case atStart => exact ⟨0, by omega, rfl, OwnS.nil _ _, (Below.refl _ _).alloc (Nat.le_refl _) _, heap_alloc_new w _⟩
  case round =>
    obtain ⟨k, hkg, rfl, ho, hbw, hbox⟩ := hrel
    obtain ⟨wn, rfl⟩ : ∃ W, W = wr := ⟨_, rfl⟩
    have HX := Lib.hid hbox
    obtain ⟨b0, b1, b2, b3, b4⟩ := row5 hbox
    have hlb := lt_of_heap hbox
    have HK := Lib.hid hkg
    have HW := Lib.hid hbw
    have HO := Lib.hid ho
    have hszw := hbw.size
    have hkl : k ≤ ks.length := by omega
    clear hkg hbw hbox ho
    by_cases hlt : k < ks.length
    · obtain ⟨y, hy⟩ : ∃ y, ks[k]? = some y := ⟨_, List.getElem?_eq_getElem hlt⟩
      have hC := hk k y hy
      have hih := Lib.hid (ih k y hy (HWK.out y (List.mem_of_getElem? hy)).1)
      have hxk := hx k y hy
      have HS := Lib.hid (show (ks.take (k + 1)).map txt = (ks.take k).map txt ++ [txt y] by rw [take_snoc hy]; simp)
      have HTY := Lib.hid (show (txt y).length ≤ maxLen by have := (HWK.out y (List.mem_of_getElem? hy)).2; unfold maxLen; omega)
      have HLN := Lib.hid (show ((ks.take k).map txt).length ≤ 2097152 by simp; omega)
      obtain ⟨o1, s1, n1, A1, m1, k1, A2, m2, k2, hL⟩ := hxk.shape
      generalize C k = L at hC hih hxk hL
      subst hL
      clear hy hxk hk hx ih hc
      have hB0 := Lib.hid ((HB.out.trans (HW.out.mono hsz0)))
      obtain ⟨a, rfl, ha, haa, d0, d1, d2, d3, d4⟩ := elem5 (hC.under hB0.out)
      clear hC
      go_wp2_with (first
        | (go_at_call 12
           (with_reducible refine (hih.out _ hB0.out).mono ?_)
           rintro e w1 ⟨rfl, hb1⟩
           obtain ⟨v1, rfl⟩ : ∃ W, W = w1 := ⟨_, rfl⟩
           have HO1 := Lib.hid (HO.out.under hb1)
           have HW1 := Lib.hid (HW.out.trans (hb1.mono hszw))
           have HX1 := Lib.hid (box_next hb1 HX.out)
           have hs1 := HW1.out.size
           clear hb1)
        | (at_builtin; refine append_str rfl _ _ rfl rfl rfl (heap_alloc_new v1 _) (HO1.out.alloc _) HTY.out HLN.out ?_ ?_; (first | omega | (simp; omega)); (intro v' w2 hap; obtain ⟨v2, rfl⟩ : ∃ W, W = w2 := ⟨_, rfl⟩; have HAP := Lib.hid hap; clear hap)))
      go_roundg (ks.length - (k + 1))
      case measure => have := HK.out; omega
      case rel => exact ⟨k + 1, by omega, by go_num, by rw [HS.out]; exact HAP.out.1, (HW1.out.alloc (by omega) _).trans HAP.out.2.1, HAP.out.2.2 _ _ _ (by decide) (heap_one' HX1.out _)⟩
    · have hke : k = ks.length := by omega
      have HO2 := Lib.hid (own_all hke HO.out)
      have HCC := Lib.hid hc
      clear hke hk hx ih hc
      go_wp2_with fail
      go_loopg [3] (3 - ks.length) (fun g s wr => ∃ j : Nat, j + g = 3 - ks.length ∧ OwnS w.heap.size wr s (ks.map txt ++ List.replicate j [63]) ∧ Below w.heap.size w wr ∧ wr.heap[w.heap.size]? = some (.cells #[.int .i64 op, .string (str nm), .int .i64 n, .slice A2 cs.length c2, .slice A ks.length c] 25 (0, 0)))
      case atStart => exact ⟨0, by omega, HO2.out, HW.out, HX.out⟩
      case round =>
        clear HO HO2 HK HW HX hszw hkl hlb b0 b1 b2 b3 b4 hlt
        obtain ⟨j, hkg, ho, hbw, hbox⟩ := hrel
        obtain ⟨Z, rfl⟩ : ∃ W, W = wr := ⟨_, rfl⟩
        have HX := Lib.hid hbox
        obtain ⟨b0, b1, b2, b3, b4⟩ := row5 hbox
        have hlb := lt_of_heap hbox
        have HK := Lib.hid hkg
        have HW := Lib.hid hbw
        have hszw := hbw.size
        by_cases hlt3 : j < 3 - ks.length
        · have HO := Lib.hid ho
          obtain ⟨A3, n3, c3, rfl, hn3⟩ := ho.shape
          have hn3' : n3 < 3 := by rw [hn3]; simp; omega
          have H63 := Lib.hid (show ([63] : Tx).length ≤ maxLen by unfold maxLen; decide)
          have HLN := Lib.hid (show (ks.map txt ++ List.replicate j [63]).length ≤ 2097152 by simp; omega)
          clear hkg hbw hbox ho hn3
          go_wp2_with (at_builtin; refine append_str rfl _ _ rfl rfl rfl (heap_alloc_new Z _) (HO.out.alloc _) H63.out HLN.out ?_ ?_; (first | omega | (simp; omega)); (intro v' w2 hap; obtain ⟨v2, rfl⟩ : ∃ W, W = w2 := ⟨_, rfl⟩; have HAP := Lib.hid hap; clear hap))
          go_roundg (3 - ks.length - (j + 1))
          case measure => have := HK.out; omega
          case rel => exact ⟨j + 1, by omega, by rw [List.replicate_succ', ← List.append_assoc]; exact HAP.out.1, (HW.out.alloc (by omega) _).trans HAP.out.2.1, HAP.out.2.2 _ _ _ (by decide) (heap_one' HX.out _)⟩
        · have hje : j = 3 - (ks.map txt).length := by simp; omega
          have ho' := own_kids hje ho
          have hk3 := (kidsS_len (ks.map txt)).1
          have hkn := (kidsS_len (ks.map txt)).2
          rw [List.length_map] at hkn
          obtain ⟨g, cap, rfl, hcap, hm, hg, hgl, hcells⟩ := ho'.row (by intro h; rw [h] at hk3; simp at hk3)
          have k0 := hcells 0 _ (kidsS_get _ (by omega))
          have k1 := hcells 1 _ (kidsS_get _ (by omega))
          have k2 := hcells 2 _ (kidsS_get _ (by omega))
          have HCELL := Lib.hid hcells
          have HHM := Lib.hid hm
          have HGG := Lib.hid hg
          have hm2 : cap ≤ 9223372036854775807 := by unfold maxLen at hm; omega
          generalize (kidsS (ks.map txt)).length = N3 at *
          clear hkg hbw hbox ho ho' hje hcells hm hg hlt3
          have HBZ := Lib.hid (HB.out.trans (HW.out.mono hsz0))
          go_wp2_with fail
          go_ret
          exact ⟨ret_strB (by rw [HR.out]; simp only [showS, h1, h2, h3, h4, h5, h6, h7, h8, h9, h10, h11, h12, h13, h14, h15, if_false]; rfl), HW.out⟩
set_option maxHeartbeats 4000000 in
set_option maxRecDepth 100000 in
theorem show_e {w0 : World} (htab : Tab w0) {op n : Int} {nm : Tx} {cs : List Tx} {ks : List Ex} {cv : Value} {A : Option Addr} {c : Nat} {C : Nat → List Value} (hop : i64B op) (hnm : nm.length ≤ maxLen) (hn : i64B n) (hcs : StrsAt w0 cv cs) (hl : ks.length ≤ c) (hc : c ≤ maxLen)
    (hk : ∀ (i : Nat) k, ks[i]? = some k → ElemAt w0 A i (C i)) (hx : ∀ (i : Nat) k, ks[i]? = some k → ExAt w0 (C i) k) (ih : ∀ (i : Nat) k, ks[i]? = some k → ShowC w0 (C i) k) (hops : op = 11 ∨ op = 14) : ShowC w0 [.int .i64 op, .string (str nm), .int .i64 n, cv, .slice A ks.length c] (.mk op nm n cs ks) := by
  intro hwx w hb
  have hI : i64x (.mk op nm n cs ks) := (ExAt.mk hop hnm hn hcs hl hc hk hx).i64
  have HR := Lib.hid (show txt (.mk op nm n cs ks) = showS op nm n cs (ks.map txt) from (showS_X op nm n cs ks).symm)
  have HTOT := Lib.hid (show (showS op nm n cs (ks.map txt)).length ≤ 6291456 by have := txt_len hI; rw [HR.out] at this; omega)
  have HWK := Lib.hid (show ∀ k ∈ ks, wX k ≤ 1048576 ∧ (txt k).length ≤ 6291456 by
    intro k hk'
    have h1 := wX_kid (op := op) (n := n) (nm := nm) (cs := cs) hk'
    obtain ⟨i, hi⟩ := List.getElem?_of_mem hk'
    have h2 := txt_len (hx i k hi).i64
    omega)
  have hlk : ks.length ≤ 1048576 := by
    have := len_wXs ks
    rw [wX] at hwx
    omega
  have HB := Lib.hid hb
  have HOP := Lib.hid hop
  have HN := Lib.hid hn
  have HNM := Lib.hid hnm
  have HCS := Lib.hid hcs
  have HTB := Lib.hid htab
  have hsz0 := hb.size
  have HWC := Lib.hid (show ∀ c ∈ cs, c.length ≤ 1048576 by
    intro c hc'
    have h1 := wL_mem (f := fun x : Tx => x.length + 1) hc'
    rw [← wN_L] at h1
    rw [wX] at hwx
    omega)
  obtain ⟨A2, c2, rfl, hlc2, hmc2, hec2⟩ := hcs
  have hlc3 : cs.length ≤ 9223372036854775807 := by unfold maxLen at hmc2; omega
  clear hop hn hb hl hnm hI hwx htab hlc2 hmc2 hec2
  go_enter Tryz.func12, Tryz.ntmps12
  go_wp2_with fail
  go_loopg [3, 4] ks.length (fun g s v wr => ∃ k : Nat, k + g = ks.length ∧ v = .int .i64 k ∧ OwnS w.heap.size wr s ((ks.take k).map txt) ∧ Below w.heap.size w wr ∧ wr.heap[w.heap.size]? = some (.cells #[.int .i64 op, .string (str nm), .int .i64 n, .slice A2 cs.length c2, .slice A ks.length c] 25 (0, 0)))
  case atStart => exact ⟨0, by omega, rfl, OwnS.nil _ _, (Below.refl _ _).alloc (Nat.le_refl _) _, heap_alloc_new w _⟩
  case round =>
    obtain ⟨k, hkg, rfl, ho, hbw, hbox⟩ := hrel
    obtain ⟨wn, rfl⟩ : ∃ W, W = wr := ⟨_, rfl⟩
    have HX := Lib.hid hbox
    obtain ⟨b0, b1, b2, b3, b4⟩ := row5 hbox
    have hlb := lt_of_heap hbox
    have HK := Lib.hid hkg
    have HW := Lib.hid hbw
    have HO := Lib.hid ho
    have hszw := hbw.size
    have hkl : k ≤ ks.length := by omega
    clear hkg hbw hbox ho
    by_cases hlt : k < ks.length
    · obtain ⟨y, hy⟩ : ∃ y, ks[k]? = some y := ⟨_, List.getElem?_eq_getElem hlt⟩
      have hC := hk k y hy
      have hih := Lib.hid (ih k y hy (HWK.out y (List.mem_of_getElem? hy)).1)
      have hxk := hx k y hy
      have HS := Lib.hid (show (ks.take (k + 1)).map txt = (ks.take k).map txt ++ [txt y] by rw [take_snoc hy]; simp)
      have HTY := Lib.hid (show (txt y).length ≤ maxLen by have := (HWK.out y (List.mem_of_getElem? hy)).2; unfold maxLen; omega)
      have HLN := Lib.hid (show ((ks.take k).map txt).length ≤ 2097152 by simp; omega)
      obtain ⟨o1, s1, n1, A1, m1, k1, A2, m2, k2, hL⟩ := hxk.shape
      generalize C k = L at hC hih hxk hL
      subst hL
      clear hy hxk hk hx ih hc
      have hB0 := Lib.hid ((HB.out.trans (HW.out.mono hsz0)))
      obtain ⟨a, rfl, ha, haa, d0, d1, d2, d3, d4⟩ := elem5 (hC.under hB0.out)
      clear hC
      go_wp2_with (first
        | (go_at_call 12
           (with_reducible refine (hih.out _ hB0.out).mono ?_)
           rintro e w1 ⟨rfl, hb1⟩
           obtain ⟨v1, rfl⟩ : ∃ W, W = w1 := ⟨_, rfl⟩
           have HO1 := Lib.hid (HO.out.under hb1)
           have HW1 := Lib.hid (HW.out.trans (hb1.mono hszw))
           have HX1 := Lib.hid (box_next hb1 HX.out)
           have hs1 := HW1.out.size
           clear hb1)
        | (at_builtin; refine append_str rfl _ _ rfl rfl rfl (heap_alloc_new v1 _) (HO1.out.alloc _) HTY.out HLN.out ?_ ?_; (first | omega | (simp; omega)); (intro v' w2 hap; obtain ⟨v2, rfl⟩ : ∃ W, W = w2 := ⟨_, rfl⟩; have HAP := Lib.hid hap; clear hap)))
      go_roundg (ks.length - (k + 1))
      case measure => have := HK.out; omega
      case rel => exact ⟨k + 1, by omega, by go_num, by rw [HS.out]; exact HAP.out.1, (HW1.out.alloc (by omega) _).trans HAP.out.2.1, HAP.out.2.2 _ _ _ (by decide) (heap_one' HX1.out _)⟩
    · have hke : k = ks.length := by omega
      have HO2 := Lib.hid (own_all hke HO.out)
      have HCC := Lib.hid hc
      clear hke hk hx ih hc
      go_wp2_with fail
      go_loopg [3] (3 - ks.length) (fun g s wr => ∃ j : Nat, j + g = 3 - ks.length ∧ OwnS w.heap.size wr s (ks.map txt ++ List.replicate j [63]) ∧ Below w.heap.size w wr ∧ wr.heap[w.heap.size]? = some (.cells #[.int .i64 op, .string (str nm), .int .i64 n, .slice A2 cs.length c2, .slice A ks.length c] 25 (0, 0)))
      case atStart => exact ⟨0, by omega, HO2.out, HW.out, HX.out⟩
      case round =>
        clear HO HO2 HK HW HX hszw hkl hlb b0 b1 b2 b3 b4 hlt
        obtain ⟨j, hkg, ho, hbw, hbox⟩ := hrel
        obtain ⟨Z, rfl⟩ : ∃ W, W = wr := ⟨_, rfl⟩
        have HX := Lib.hid hbox
        obtain ⟨b0, b1, b2, b3, b4⟩ := row5 hbox
        have hlb := lt_of_heap hbox
        have HK := Lib.hid hkg
        have HW := Lib.hid hbw
        have hszw := hbw.size
        by_cases hlt3 : j < 3 - ks.length
        · have HO := Lib.hid ho
          obtain ⟨A3, n3, c3, rfl, hn3⟩ := ho.shape
          have hn3' : n3 < 3 := by rw [hn3]; simp; omega
          have H63 := Lib.hid (show ([63] : Tx).length ≤ maxLen by unfold maxLen; decide)
          have HLN := Lib.hid (show (ks.map txt ++ List.replicate j [63]).length ≤ 2097152 by simp; omega)
          clear hkg hbw hbox ho hn3
          go_wp2_with (at_builtin; refine append_str rfl _ _ rfl rfl rfl (heap_alloc_new Z _) (HO.out.alloc _) H63.out HLN.out ?_ ?_; (first | omega | (simp; omega)); (intro v' w2 hap; obtain ⟨v2, rfl⟩ : ∃ W, W = w2 := ⟨_, rfl⟩; have HAP := Lib.hid hap; clear hap))
          go_roundg (3 - ks.length - (j + 1))
          case measure => have := HK.out; omega
          case rel => exact ⟨j + 1, by omega, by rw [List.replicate_succ', ← List.append_assoc]; exact HAP.out.1, (HW.out.alloc (by omega) _).trans HAP.out.2.1, HAP.out.2.2 _ _ _ (by decide) (heap_one' HX.out _)⟩
        · have hje : j = 3 - (ks.map txt).length := by simp; omega
          have ho' := own_kids hje ho
          have hk3 := (kidsS_len (ks.map txt)).1
          have hkn := (kidsS_len (ks.map txt)).2
          rw [List.length_map] at hkn
          obtain ⟨g, cap, rfl, hcap, hm, hg, hgl, hcells⟩ := ho'.row (by intro h; rw [h] at hk3; simp at hk3)
          have k0 := hcells 0 _ (kidsS_get _ (by omega))
          have k1 := hcells 1 _ (kidsS_get _ (by omega))
          have k2 := hcells 2 _ (kidsS_get _ (by omega))
          have HCELL := Lib.hid hcells
          have HHM := Lib.hid hm
          have HGG := Lib.hid hg
          have hm2 : cap ≤ 9223372036854775807 := by unfold maxLen at hm; omega
          generalize (kidsS (ks.map txt)).length = N3 at *
          clear hkg hbw hbox ho ho' hje hcells hm hg hlt3
          have HBZ := Lib.hid (HB.out.trans (HW.out.mono hsz0))
          rcases hops with rfl | rfl
          · have hst := HCS.out.under HBZ.out
            have ht : 2 + (str (kS (ks.map txt) 0)).size + 5 + (str (padL [44] cs)).size + 3 + (str nm).size + 4 ≤ 6291456 := by have := HTOT.out; simp only [showS, Int.reduceEq, if_true, if_false, List.length_append, List.length_cons, List.length_nil] at this; simp only [str_size]; omega
            have HPAD := Lib.hid (fun n => rPad44 hst (by rw [← str_size]; omega) n)
            clear hst
            go_wp2_with fail
            go_quiet ((go_at_call 24; exact Calls.quiet_of_same (HPAD.out _)))
            go_wp2_with fail
            go_ret
            exact ⟨ret_strB (by rw [HR.out]; simp only [lit_str, str_append']; rfl), below_drewN HW.out _⟩
          · have hst := HCELL.out.strs0 (cap := cap) (by rw [List.length_map]; omega) HHM.out (by intro x hx; obtain ⟨k, hk, rfl⟩ := List.mem_map.1 hx; have := (HWK.out k hk).2; unfold maxLen; omega)
            have HLK := Lib.hid (show (ks.map txt).length = ks.length from List.length_map ..)
            rw [HLK.out] at hst
            have hsc := HCS.out.under HBZ.out
            by_cases hc0 : cs = []
            · subst hc0
              have ht : (str nm).size + 2 + (str (padL [44] (ks.map txt))).size + 2 ≤ 6291456 := by have := HTOT.out; simp only [showS, Int.reduceEq, if_true, if_false, List.length_append, List.length_cons, List.length_nil] at this; simp only [str_size]; omega
              have HPAD := Lib.hid (rPad44s hst (by rw [← str_size]; omega))
              clear hst hsc
              simp only [List.length_nil] at *
              go_wp2_with (go_at_call 24; (with_reducible refine HPAD.out.mono ?_); rintro e w' ⟨rfl, rfl⟩)
              go_ret
              exact ⟨ret_strB (by rw [HR.out]; simp only [lit_str, str_append']; rfl), HW.out⟩
            · have hpos : 0 < cs.length := List.length_pos_iff.2 hc0
              have HR2 := Lib.hid (show txt (.mk 14 nm n cs ks) = nm ++ ([32, 91, 32] ++ listL [44] cs ++ [32, 93]) ++ [32, 40] ++ padL [44] (ks.map txt) ++ [32, 41] by rw [HR.out]; simp only [showS, Int.reduceEq, if_true, if_false, if_neg hc0])
              have ht : (str nm).size + (3 + (str (listL [44] cs)).size + 2) + 2 + (str (padL [44] (ks.map txt))).size + 2 ≤ 6291456 := by have := HTOT.out; rw [← HR.out, HR2.out] at this; simp only [List.length_append, List.length_cons, List.length_nil] at this; simp only [str_size]; omega
              have HPAD := Lib.hid (rPad44s hst (by rw [← str_size]; omega))
              have HLIST := Lib.hid (rList44s hsc (by rw [← str_size]; omega))
              clear hst hsc hc0
              go_wp2_with (first | (go_at_call 24; (with_reducible refine HPAD.out.mono ?_); rintro e w' ⟨rfl, rfl⟩) | (go_at_call 25; (with_reducible refine HLIST.out.mono ?_); rintro e w' ⟨rfl, rfl⟩))
              go_ret
              exact ⟨ret_strB (by rw [HR2.out]; simp only [lit_str, str_append']), HW.out⟩
end Go.Proofs.YtjelhdjckdcbaaaGreatDoor
