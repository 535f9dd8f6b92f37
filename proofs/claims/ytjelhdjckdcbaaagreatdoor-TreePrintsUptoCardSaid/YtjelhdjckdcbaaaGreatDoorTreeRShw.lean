/-
  The reference's Show: an expression's text.
  Show: what has no list.
  Show: more of them.
  Show: arms.
  Show: arms of a match; Show of every expression.
-/
import Derived.Test.YtjelhdjckdcbaaaGreatDoorTreeOwnS
import Derived.Test.YtjelhdjckdcbaaaGreatDoorHeld
namespace Go.Proofs.YtjelhdjckdcbaaaGreatDoor
open Go.RowKit

/-- the kids' texts, at least three -/
def kidsS (K : List Tx) : List Tx := K ++ List.replicate (3 - K.length) [63]
theorem kidsS_len (K : List Tx) : 3 ≤ (kidsS K).length ∧ K.length ≤ (kidsS K).length := by simp [kidsS]; omega
theorem kidsS_get (K : List Tx) {i : Nat} (h : i < 3) : (kidsS K)[i]? = some (kS K i) := by
  unfold kidsS kS
  rw [List.getD_eq_getElem?_getD]
  by_cases hi : i < K.length
  · rw [List.getElem?_append_left hi, List.getElem?_eq_getElem hi]; rfl
  · rw [List.getElem?_append_right (by omega), List.getElem?_eq_none (l := K) (by omega), List.getElem?_replicate, if_pos (by omega)]; rfl
theorem wX_kid {op n : Int} {nm : Tx} {cs : List Tx} {ks : List Ex} {k : Ex} (h : k ∈ ks) : wX k + 6 ≤ wX (.mk op nm n cs ks) := by
  rw [wX, wXs_L]
  have := wL_mem (f := wX) h
  omega
theorem len_wXs (ks : List Ex) : ks.length ≤ wXs ks := by
  rw [wXs_L]
  induction ks with
  | nil => simp [wL]
  | cons k r ih =>
    obtain ⟨o, a, n, c, l⟩ := k
    simp only [wL, wX, List.length_cons]
    omega
theorem OwnS.shape {B : Nat} {w : World} {v : Value} {l : List Tx} (h : OwnS B w v l) : ∃ A n c, v = .slice A n c ∧ n = l.length := by
  rcases h.1.2 with ⟨rfl, h0⟩ | ⟨g, cap, cur, rfl, _⟩
  · exact ⟨_, _, _, rfl, h0.symm⟩
  · exact ⟨_, _, _, rfl, rfl⟩
/-- the cells of a row of strings -/
def CellsS (w : World) (g : Nat) (l : List Tx) : Prop := ∀ (i : Nat) x, l[i]? = some x → w.cell? ⟨g, i, none⟩ = some (.string (str x))
theorem OwnS.row {B : Nat} {w : World} {v : Value} {l : List Tx} (h : OwnS B w v l) (h0 : l ≠ []) : ∃ g cap, v = .slice (some ⟨g, 0, none⟩) l.length cap ∧ l.length ≤ cap ∧ cap ≤ maxLen ∧ B ≤ g ∧ g < w.heap.size ∧ CellsS w g l := by
  obtain ⟨hown, hle⟩ := h
  rcases hown.2 with ⟨rfl, hn⟩ | ⟨g, cap, cur, rfl, hg, hh, hc, hm, _⟩
  · exact absurd (List.eq_nil_of_length_eq_zero hn) h0
  · refine ⟨g, cap, rfl, hc, hm, hg, lt_of_heap hh, fun i x hx => ?_⟩
    have := hown.cells (g := g) rfl i (.string (str x)) (by simp [hx])
    have hadd : (⟨g, 0, none⟩ : Addr).add i = ⟨g, i, none⟩ := by unfold Addr.add; split <;> simp_all
    rwa [hadd] at this
theorem CellsS.under {w w' : World} {g : Nat} {l : List Tx} (h : CellsS w g l) (hg : g < w.heap.size) (hb : Below w.heap.size w w') : CellsS w' g l := fun i x hx => (hb.cell (p := ⟨g, i, none⟩) hg).trans (h i x hx)
/-- the first of a row, as a slice whose strings are read -/
theorem CellsS.strs {w : World} {g cap : Nat} {l m : List Tx} (h : CellsS w g (l ++ m)) (hc : l.length ≤ cap) (hm : cap ≤ maxLen) (hl : ∀ x ∈ l, x.length ≤ maxLen) : StrsAt w (.slice (some ⟨g, 0, none⟩) l.length cap) l := by
  refine ⟨_, cap, rfl, hc, hm, fun i x hx => ⟨[.string (str x)], ⟨_, rfl, fun j u hu => ?_⟩, rfl, hl x (List.mem_of_getElem? hx)⟩⟩
  have hj : j = 0 := by
    have := (List.getElem?_eq_some_iff.1 hu).1
    simp at this; exact this
  subst hj
  simp only [List.getElem?_cons_zero, Option.some.injEq] at hu
  subst hu
  rw [add_add]
  have hadd : (⟨g, 0, none⟩ : Addr).add (i * [Value.string (str x)].length + 0) = ⟨g, i, none⟩ := by unfold Addr.add; split <;> simp_all
  rw [hadd]
  exact h i x (by rw [List.getElem?_append_left (List.getElem?_eq_some_iff.1 hx).1]; exact hx)
theorem heap_one' {w : World} {g : Nat} {o : Obj} (h : w.heap[g]? = some o) (A : Obj) : (w.alloc A).heap[g]? = some o := (Below.heap_alloc _ _ _ (lt_of_heap h)).trans h
theorem CellsS.strs0 {w : World} {g cap : Nat} {K : List Tx} (h : CellsS w g (kidsS K)) (hc : K.length ≤ cap) (hm : cap ≤ maxLen) (hl : ∀ x ∈ K, x.length ≤ maxLen := by assumption) : StrsAt w (.slice (some ⟨g, 0, none⟩) K.length cap) K := CellsS.strs (m := List.replicate (3 - K.length) [63]) h hc hm hl
theorem armsS_len : ∀ (cs K : List Tx), (armsS cs K).length ≤ cs.length
  | [], _ => by simp [armsS]
  | _ :: _, [] => by simp [armsS]
  | c :: cs, k :: K => by simp only [armsS, List.length_cons]; have := armsS_len cs K; omega
theorem own_all {B : Nat} {w : World} {v : Value} {ks : List Ex} {k : Nat} (hk : k = ks.length) (h : OwnS B w v ((ks.take k).map txt)) : OwnS B w v (ks.map txt ++ List.replicate 0 [63]) := by
  rw [hk, List.take_length] at h; simpa using h
theorem own_kids {B : Nat} {w : World} {v : Value} {K : List Tx} {j : Nat} (hj : j = 3 - K.length) (h : OwnS B w v (K ++ List.replicate j [63])) : OwnS B w v (kidsS K) := by
  rw [kidsS, ← hj]; exact h
def ShowC (w0 : World) (L : List Value) (x : Ex) : Prop := wX x ≤ 1048576 → ∀ w, Below w0.heap.size w0 w → Calls Tryz.prog 12 #[.agg L.toArray] w (StrPost (txt x) w)
end Go.Proofs.YtjelhdjckdcbaaaGreatDoor
namespace Go.Proofs.YtjelhdjckdcbaaaGreatDoor
open Go.RowKit

set_option maxHeartbeats 4000000 in
set_option maxRecDepth 100000 in
theorem show_a {w0 : World} (htab : Tab w0) {op n : Int} {nm : Tx} {cs : List Tx} {ks : List Ex} {cv : Value} {A : Option Addr} {c : Nat} {C : Nat → List Value} (hop : i64B op) (hnm : nm.length ≤ maxLen) (hn : i64B n) (hcs : StrsAt w0 cv cs) (hl : ks.length ≤ c) (hc : c ≤ maxLen)
    (hk : ∀ (i : Nat) k, ks[i]? = some k → ElemAt w0 A i (C i)) (hx : ∀ (i : Nat) k, ks[i]? = some k → ExAt w0 (C i) k) (ih : ∀ (i : Nat) k, ks[i]? = some k → ShowC w0 (C i) k) (hops : op = 1 ∨ op = 2 ∨ op = 3 ∨ op = 4 ∨ op = 5) : ShowC w0 [.int .i64 op, .string (str nm), .int .i64 n, cv, .slice A ks.length c] (.mk op nm n cs ks) := by
  intro hwx w hb
  have hI : i64x (.mk op nm n cs ks) := (ExAt.mk hop hnm hn hcs hl hc hk hx).i64
  have HR := Lib.hid (show txt (.mk op nm n cs ks) = showS op nm n cs (ks.map txt) from (showS_X op nm n cs ks).symm)
  have HTOT := Lib.hid (show (showS op nm n cs (ks.map txt)).length ≤ 6291456 by have := txt_len hI; rw [HR.out] at this; omega)
  have HWK := Lib.hid (show ∀ k ∈ ks, wX k ≤ 1048576 ∧ (txt k).length ≤ 6291456 by
    intro k hk'
    have h1 := wX_kid (op := op) (n := n) (nm := nm) (cs := cs) hk'
    obtain ⟨i, hi⟩ := List.getElem?_of_mem hk'
    have h2 := txt_len (hx i k hi).i64
    omega)
  have hlk : ks.length ≤ 1048576 := by
    have := len_wXs ks
    rw [wX] at hwx
    omega
  have HB := Lib.hid hb
  have HOP := Lib.hid hop
  have HN := Lib.hid hn
  have HNM := Lib.hid hnm
  have HCS := Lib.hid hcs
  have HTB := Lib.hid htab
  have hsz0 := hb.size
  have HWC := Lib.hid (show ∀ c ∈ cs, c.length ≤ 1048576 by
    intro c hc'
    have h1 := wL_mem (f := fun x : Tx => x.length + 1) hc'
    rw [← wN_L] at h1
    rw [wX] at hwx
    omega)
  obtain ⟨A2, c2, rfl, hlc2, hmc2, hec2⟩ := hcs
  have hlc3 : cs.length ≤ 9223372036854775807 := by unfold maxLen at hmc2; omega
  clear hop hn hb hl hnm hI hwx htab hlc2 hmc2 hec2
  go_enter Tryz.func12, Tryz.ntmps12
  go_wp2_with fail
  go_loopg [3, 4] ks.length (fun g s v wr => ∃ k : Nat, k + g = ks.length ∧ v = .int .i64 k ∧ OwnS w.heap.size wr s ((ks.take k).map txt) ∧ Below w.heap.size w wr ∧ wr.heap[w.heap.size]? = some (.cells #[.int .i64 op, .string (str nm), .int .i64 n, .slice A2 cs.length c2, .slice A ks.length c] 25 (0, 0)))
  case atStart => exact ⟨0, by omega, rfl, OwnS.nil _ _, (Below.refl _ _).alloc (Nat.le_refl _) _, heap_alloc_new w _⟩
  case round =>
    obtain ⟨k, hkg, rfl, ho, hbw, hbox⟩ := hrel
    obtain ⟨wn, rfl⟩ : ∃ W, W = wr := ⟨_, rfl⟩
    have HX := Lib.hid hbox
    obtain ⟨b0, b1, b2, b3, b4⟩ := row5 hbox
    have hlb := lt_of_heap hbox
    have HK := Lib.hid hkg
    have HW := Lib.hid hbw
    have HO := Lib.hid ho
    have hszw := hbw.size
    have hkl : k ≤ ks.length := by omega
    clear hkg hbw hbox ho
    by_cases hlt : k < ks.length
    · obtain ⟨y, hy⟩ : ∃ y, ks[k]? = some y := ⟨_, List.getElem?_eq_getElem hlt⟩
      have hC := hk k y hy
      have hih := Lib.hid (ih k y hy (HWK.out y (List.mem_of_getElem? hy)).1)
      have hxk := hx k y hy
      have HS := Lib.hid (show (ks.take (k + 1)).map txt = (ks.take k).map txt ++ [txt y] by rw [take_snoc hy]; simp)
      have HTY := Lib.hid (show (txt y).length ≤ maxLen by have := (HWK.out y (List.mem_of_getElem? hy)).2; unfold maxLen; omega)
      have HLN := Lib.hid (show ((ks.take k).map txt).length ≤ 2097152 by simp; omega)
      obtain ⟨o1, s1, n1, A1, m1, k1, A2, m2, k2, hL⟩ := hxk.shape
      generalize C k = L at hC hih hxk hL
      subst hL
      clear hy hxk hk hx ih hc
      have hB0 := Lib.hid ((HB.out.trans (HW.out.mono hsz0)))
      obtain ⟨a, rfl, ha, haa, d0, d1, d2, d3, d4⟩ := elem5 (hC.under hB0.out)
      clear hC
      go_wp2_with (first
        | (go_at_call 12
           (with_reducible refine (hih.out _ hB0.out).mono ?_)
           rintro e w1 ⟨rfl, hb1⟩
           obtain ⟨v1, rfl⟩ : ∃ W, W = w1 := ⟨_, rfl⟩
           have HO1 := Lib.hid (HO.out.under hb1)
           have HW1 := Lib.hid (HW.out.trans (hb1.mono hszw))
           have HX1 := Lib.hid (box_next hb1 HX.out)
           have hs1 := HW1.out.size
           clear hb1)
        | (at_builtin; refine append_str rfl _ _ rfl rfl rfl (heap_alloc_new v1 _) (HO1.out.alloc _) HTY.out HLN.out ?_ ?_; (first | omega | (simp; omega)); (intro v' w2 hap; obtain ⟨v2, rfl⟩ : ∃ W, W = w2 := ⟨_, rfl⟩; have HAP := Lib.hid hap; clear hap)))
      go_roundg (ks.length - (k + 1))
      case measure => have := HK.out; omega
      case rel => exact ⟨k + 1, by omega, by go_num, by rw [HS.out]; exact HAP.out.1, (HW1.out.alloc (by omega) _).trans HAP.out.2.1, HAP.out.2.2 _ _ _ (by decide) (heap_one' HX1.out _)⟩
    · have hke : k = ks.length := by omega
      have HO2 := Lib.hid (own_all hke HO.out)
      have HCC := Lib.hid hc
      clear hke hk hx ih hc
      go_wp2_with fail
      go_loopg [3] (3 - ks.length) (fun g s wr => ∃ j : Nat, j + g = 3 - ks.length ∧ OwnS w.heap.size wr s (ks.map txt ++ List.replicate j [63]) ∧ Below w.heap.size w wr ∧ wr.heap[w.heap.size]? = some (.cells #[.int .i64 op, .string (str nm), .int .i64 n, .slice A2 cs.length c2, .slice A ks.length c] 25 (0, 0)))
      case atStart => exact ⟨0, by omega, HO2.out, HW.out, HX.out⟩
      case round =>
        clear HO HO2 HK HW HX hszw hkl hlb b0 b1 b2 b3 b4 hlt
        obtain ⟨j, hkg, ho, hbw, hbox⟩ := hrel
        obtain ⟨Z, rfl⟩ : ∃ W, W = wr := ⟨_, rfl⟩
        have HX := Lib.hid hbox
        obtain ⟨b0, b1, b2, b3, b4⟩ := row5 hbox
        have hlb := lt_of_heap hbox
        have HK := Lib.hid hkg
        have HW := Lib.hid hbw
        have hszw := hbw.size
        by_cases hlt3 : j < 3 - ks.length
        · have HO := Lib.hid ho
          obtain ⟨A3, n3, c3, rfl, hn3⟩ := ho.shape
          have hn3' : n3 < 3 := by rw [hn3]; simp; omega
          have H63 := Lib.hid (show ([63] : Tx).length ≤ maxLen by unfold maxLen; decide)
          have HLN := Lib.hid (show (ks.map txt ++ List.replicate j [63]).length ≤ 2097152 by simp; omega)
          clear hkg hbw hbox ho hn3
          go_wp2_with (at_builtin; refine append_str rfl _ _ rfl rfl rfl (heap_alloc_new Z _) (HO.out.alloc _) H63.out HLN.out ?_ ?_; (first | omega | (simp; omega)); (intro v' w2 hap; obtain ⟨v2, rfl⟩ : ∃ W, W = w2 := ⟨_, rfl⟩; have HAP := Lib.hid hap; clear hap))
          go_roundg (3 - ks.length - (j + 1))
          case measure => have := HK.out; omega
          case rel => exact ⟨j + 1, by omega, by rw [List.replicate_succ', ← List.append_assoc]; exact HAP.out.1, (HW.out.alloc (by omega) _).trans HAP.out.2.1, HAP.out.2.2 _ _ _ (by decide) (heap_one' HX.out _)⟩
        · have hje : j = 3 - (ks.map txt).length := by simp; omega
          have ho' := own_kids hje ho
          have hk3 := (kidsS_len (ks.map txt)).1
          have hkn := (kidsS_len (ks.map txt)).2
          rw [List.length_map] at hkn
          obtain ⟨g, cap, rfl, hcap, hm, hg, hgl, hcells⟩ := ho'.row (by intro h; rw [h] at hk3; simp at hk3)
          have k0 := hcells 0 _ (kidsS_get _ (by omega))
          have k1 := hcells 1 _ (kidsS_get _ (by omega))
          have k2 := hcells 2 _ (kidsS_get _ (by omega))
          have HCELL := Lib.hid hcells
          have HHM := Lib.hid hm
          have HGG := Lib.hid hg
          have hm2 : cap ≤ 9223372036854775807 := by unfold maxLen at hm; omega
          generalize (kidsS (ks.map txt)).length = N3 at *
          clear hkg hbw hbox ho ho' hje hcells hm hg hlt3
          have HBZ := Lib.hid (HB.out.trans (HW.out.mono hsz0))
          rcases hops with rfl | rfl | rfl | rfl | rfl
          · go_wp2_with (go_at_call 23; (with_reducible refine (fmtInt_any n HN.out _ (HTB.out.under HBZ.out)).mono ?_); rintro e w1 ⟨rfl, hb1⟩)
            go_ret
            exact ⟨ret_str' (by rw [HR.out]; rfl), HW.out.trans (hb1.mono hszw)⟩
          · by_cases hn1 : n = 1
            · have h1 : (n == 1) = true := by rw [hn1]; rfl
              have HR1 := Lib.hid (show txt (.mk 2 nm n cs ks) = trueT by rw [HR.out]; simp [showS, hn1])
              clear hn1
              go_wp2_with fail
              go_ret
              exact ⟨ret_strB (by rw [HR1.out]; rfl), HW.out⟩
            · have h1 : (n == 1) = false := by simp [hn1]
              have HR1 := Lib.hid (show txt (.mk 2 nm n cs ks) = falseT by rw [HR.out]; simp [showS, hn1])
              clear hn1
              go_wp2_with fail
              go_ret
              exact ⟨ret_strB (by rw [HR1.out]; rfl), HW.out⟩
          · go_wp2_with fail
            go_ret
            exact ⟨ret_str' (by rw [HR.out]; rfl), HW.out⟩
          · go_wp2_with fail
            go_ret
            exact ⟨ret_str' (by rw [HR.out]; rfl), HW.out⟩
          · have ht : 2 + (str nm).size + 1 + (str (kS (ks.map txt) 0)).size + 2 ≤ 6291456 := by have := HTOT.out; simp only [showS, Int.reduceEq, if_true, if_false, List.length_append, List.length_cons, List.length_nil] at this; simp only [str_size]; omega
            go_wp2_with fail
            go_quiet (fail)
            go_wp2_with fail
            go_ret
            exact ⟨ret_strB (by rw [HR.out]; simp only [lit_str, str_append']; rfl), below_drewN HW.out _⟩
set_option maxHeartbeats 4000000 in
set_option maxRecDepth 100000 in
theorem show_b {w0 : World} (htab : Tab w0) {op n : Int} {nm : Tx} {cs : List Tx} {ks : List Ex} {cv : Value} {A : Option Addr} {c : Nat} {C : Nat → List Value} (hop : i64B op) (hnm : nm.length ≤ maxLen) (hn : i64B n) (hcs : StrsAt w0 cv cs) (hl : ks.length ≤ c) (hc : c ≤ maxLen)
    (hk : ∀ (i : Nat) k, ks[i]? = some k → ElemAt w0 A i (C i)) (hx : ∀ (i : Nat) k, ks[i]? = some k → ExAt w0 (C i) k) (ih : ∀ (i : Nat) k, ks[i]? = some k → ShowC w0 (C i) k) (hops : op = 6 ∨ op = 7 ∨ op = 8) : ShowC w0 [.int .i64 op, .string (str nm), .int .i64 n, cv, .slice A ks.length c] (.mk op nm n cs ks) := by
  intro hwx w hb
  have hI : i64x (.mk op nm n cs ks) := (ExAt.mk hop hnm hn hcs hl hc hk hx).i64
  have HR := Lib.hid (show txt (.mk op nm n cs ks) = showS op nm n cs (ks.map txt) from (showS_X op nm n cs ks).symm)
  have HTOT := Lib.hid (show (showS op nm n cs (ks.map txt)).length ≤ 6291456 by have := txt_len hI; rw [HR.out] at this; omega)
  have HWK := Lib.hid (show ∀ k ∈ ks, wX k ≤ 1048576 ∧ (txt k).length ≤ 6291456 by
    intro k hk'
    have h1 := wX_kid (op := op) (n := n) (nm := nm) (cs := cs) hk'
    obtain ⟨i, hi⟩ := List.getElem?_of_mem hk'
    have h2 := txt_len (hx i k hi).i64
    omega)
  have hlk : ks.length ≤ 1048576 := by
    have := len_wXs ks
    rw [wX] at hwx
    omega
  have HB := Lib.hid hb
  have HOP := Lib.hid hop
  have HN := Lib.hid hn
  have HNM := Lib.hid hnm
  have HCS := Lib.hid hcs
  have HTB := Lib.hid htab
  have hsz0 := hb.size
  have HWC := Lib.hid (show ∀ c ∈ cs, c.length ≤ 1048576 by
    intro c hc'
    have h1 := wL_mem (f := fun x : Tx => x.length + 1) hc'
    rw [← wN_L] at h1
    rw [wX] at hwx
    omega)
  obtain ⟨A2, c2, rfl, hlc2, hmc2, hec2⟩ := hcs
  have hlc3 : cs.length ≤ 9223372036854775807 := by unfold maxLen at hmc2; omega
  clear hop hn hb hl hnm hI hwx htab hlc2 hmc2 hec2
  go_enter Tryz.func12, Tryz.ntmps12
  go_wp2_with fail
  go_loopg [3, 4] ks.length (fun g s v wr => ∃ k : Nat, k + g = ks.length ∧ v = .int .i64 k ∧ OwnS w.heap.size wr s ((ks.take k).map txt) ∧ Below w.heap.size w wr ∧ wr.heap[w.heap.size]? = some (.cells #[.int .i64 op, .string (str nm), .int .i64 n, .slice A2 cs.length c2, .slice A ks.length c] 25 (0, 0)))
  case atStart => exact ⟨0, by omega, rfl, OwnS.nil _ _, (Below.refl _ _).alloc (Nat.le_refl _) _, heap_alloc_new w _⟩
  case round =>
    obtain ⟨k, hkg, rfl, ho, hbw, hbox⟩ := hrel
    obtain ⟨wn, rfl⟩ : ∃ W, W = wr := ⟨_, rfl⟩
    have HX := Lib.hid hbox
    obtain ⟨b0, b1, b2, b3, b4⟩ := row5 hbox
    have hlb := lt_of_heap hbox
    have HK := Lib.hid hkg
    have HW := Lib.hid hbw
    have HO := Lib.hid ho
    have hszw := hbw.size
    have hkl : k ≤ ks.length := by omega
    clear hkg hbw hbox ho
    by_cases hlt : k < ks.length
    · obtain ⟨y, hy⟩ : ∃ y, ks[k]? = some y := ⟨_, List.getElem?_eq_getElem hlt⟩
      have hC := hk k y hy
      have hih := Lib.hid (ih k y hy (HWK.out y (List.mem_of_getElem? hy)).1)
      have hxk := hx k y hy
      have HS := Lib.hid (show (ks.take (k + 1)).map txt = (ks.take k).map txt ++ [txt y] by rw [take_snoc hy]; simp)
      have HTY := Lib.hid (show (txt y).length ≤ maxLen by have := (HWK.out y (List.mem_of_getElem? hy)).2; unfold maxLen; omega)
      have HLN := Lib.hid (show ((ks.take k).map txt).length ≤ 2097152 by simp; omega)
      obtain ⟨o1, s1, n1, A1, m1, k1, A2, m2, k2, hL⟩ := hxk.shape
      generalize C k = L at hC hih hxk hL
      subst hL
      clear hy hxk hk hx ih hc
      have hB0 := Lib.hid ((HB.out.trans (HW.out.mono hsz0)))
      obtain ⟨a, rfl, ha, haa, d0, d1, d2, d3, d4⟩ := elem5 (hC.under hB0.out)
      clear hC
      go_wp2_with (first
        | (go_at_call 12
           (with_reducible refine (hih.out _ hB0.out).mono ?_)
           rintro e w1 ⟨rfl, hb1⟩
           obtain ⟨v1, rfl⟩ : ∃ W, W = w1 := ⟨_, rfl⟩
           have HO1 := Lib.hid (HO.out.under hb1)
           have HW1 := Lib.hid (HW.out.trans (hb1.mono hszw))
           have HX1 := Lib.hid (box_next hb1 HX.out)
           have hs1 := HW1.out.size
           clear hb1)
        | (at_builtin; refine append_str rfl _ _ rfl rfl rfl (heap_alloc_new v1 _) (HO1.out.alloc _) HTY.out HLN.out ?_ ?_; (first | omega | (simp; omega)); (intro v' w2 hap; obtain ⟨v2, rfl⟩ : ∃ W, W = w2 := ⟨_, rfl⟩; have HAP := Lib.hid hap; clear hap)))
      go_roundg (ks.length - (k + 1))
      case measure => have := HK.out; omega
      case rel => exact ⟨k + 1, by omega, by go_num, by rw [HS.out]; exact HAP.out.1, (HW1.out.alloc (by omega) _).trans HAP.out.2.1, HAP.out.2.2 _ _ _ (by decide) (heap_one' HX1.out _)⟩
    · have hke : k = ks.length := by omega
      have HO2 := Lib.hid (own_all hke HO.out)
      have HCC := Lib.hid hc
      clear hke hk hx ih hc
      go_wp2_with fail
      go_loopg [3] (3 - ks.length) (fun g s wr => ∃ j : Nat, j + g = 3 - ks.length ∧ OwnS w.heap.size wr s (ks.map txt ++ List.replicate j [63]) ∧ Below w.heap.size w wr ∧ wr.heap[w.heap.size]? = some (.cells #[.int .i64 op, .string (str nm), .int .i64 n, .slice A2 cs.length c2, .slice A ks.length c] 25 (0, 0)))
      case atStart => exact ⟨0, by omega, HO2.out, HW.out, HX.out⟩
      case round =>
        clear HO HO2 HK HW HX hszw hkl hlb b0 b1 b2 b3 b4 hlt
        obtain ⟨j, hkg, ho, hbw, hbox⟩ := hrel
        obtain ⟨Z, rfl⟩ : ∃ W, W = wr := ⟨_, rfl⟩
        have HX := Lib.hid hbox
        obtain ⟨b0, b1, b2, b3, b4⟩ := row5 hbox
        have hlb := lt_of_heap hbox
        have HK := Lib.hid hkg
        have HW := Lib.hid hbw
        have hszw := hbw.size
        by_cases hlt3 : j < 3 - ks.length
        · have HO := Lib.hid ho
          obtain ⟨A3, n3, c3, rfl, hn3⟩ := ho.shape
          have hn3' : n3 < 3 := by rw [hn3]; simp; omega
          have H63 := Lib.hid (show ([63] : Tx).length ≤ maxLen by unfold maxLen; decide)
          have HLN := Lib.hid (show (ks.map txt ++ List.replicate j [63]).length ≤ 2097152 by simp; omega)
          clear hkg hbw hbox ho hn3
          go_wp2_with (at_builtin; refine append_str rfl _ _ rfl rfl rfl (heap_alloc_new Z _) (HO.out.alloc _) H63.out HLN.out ?_ ?_; (first | omega | (simp; omega)); (intro v' w2 hap; obtain ⟨v2, rfl⟩ : ∃ W, W = w2 := ⟨_, rfl⟩; have HAP := Lib.hid hap; clear hap))
          go_roundg (3 - ks.length - (j + 1))
          case measure => have := HK.out; omega
          case rel => exact ⟨j + 1, by omega, by rw [List.replicate_succ', ← List.append_assoc]; exact HAP.out.1, (HW.out.alloc (by omega) _).trans HAP.out.2.1, HAP.out.2.2 _ _ _ (by decide) (heap_one' HX.out _)⟩
        · have hje : j = 3 - (ks.map txt).length := by simp; omega
          have ho' := own_kids hje ho
          have hk3 := (kidsS_len (ks.map txt)).1
          have hkn := (kidsS_len (ks.map txt)).2
          rw [List.length_map] at hkn
          obtain ⟨g, cap, rfl, hcap, hm, hg, hgl, hcells⟩ := ho'.row (by intro h; rw [h] at hk3; simp at hk3)
          have k0 := hcells 0 _ (kidsS_get _ (by omega))
          have k1 := hcells 1 _ (kidsS_get _ (by omega))
          have k2 := hcells 2 _ (kidsS_get _ (by omega))
          have HCELL := Lib.hid hcells
          have HHM := Lib.hid hm
          have HGG := Lib.hid hg
          have hm2 : cap ≤ 9223372036854775807 := by unfold maxLen at hm; omega
          generalize (kidsS (ks.map txt)).length = N3 at *
          clear hkg hbw hbox ho ho' hje hcells hm hg hlt3
          have HBZ := Lib.hid (HB.out.trans (HW.out.mono hsz0))
          rcases hops with rfl | rfl | rfl
          · have ht : 2 + (str (kS (ks.map txt) 0)).size + 1 + (str nm).size + 1 + (str (kS (ks.map txt) 1)).size + 2 ≤ 6291456 := by have := HTOT.out; simp only [showS, Int.reduceEq, if_true, if_false, List.length_append, List.length_cons, List.length_nil] at this; simp only [str_size]; omega
            go_wp2_with fail
            go_quiet (fail)
            go_wp2_with fail
            go_ret
            exact ⟨ret_strB (by rw [HR.out]; simp only [lit_str, str_append']; rfl), below_drewN HW.out _⟩
          · have ht : 5 + (str (kS (ks.map txt) 0)).size + 6 + (str (kS (ks.map txt) 1)).size + 6 + (str (kS (ks.map txt) 2)).size + 2 ≤ 6291456 := by have := HTOT.out; simp only [showS, Int.reduceEq, if_true, if_false, List.length_append, List.length_cons, List.length_nil] at this; simp only [str_size]; omega
            go_wp2_with fail
            go_quiet (fail)
            go_wp2_with fail
            go_ret
            exact ⟨ret_strB (by rw [HR.out]; simp only [lit_str, str_append']; rfl), below_drewN HW.out _⟩
          · have ht : 2 + (str (kS (ks.map txt) 0)).size + 5 + (str (kS (ks.map txt) 1)).size + 2 ≤ 6291456 := by have := HTOT.out; simp only [showS, Int.reduceEq, if_true, if_false, List.length_append, List.length_cons, List.length_nil] at this; simp only [str_size]; omega
            go_wp2_with fail
            go_quiet (fail)
            go_wp2_with fail
            go_ret
            exact ⟨ret_strB (by rw [HR.out]; simp only [lit_str, str_append']; rfl), below_drewN HW.out _⟩
end Go.Proofs.YtjelhdjckdcbaaaGreatDoor
namespace Go.Proofs.YtjelhdjckdcbaaaGreatDoor
open Go.RowKit

set_option maxHeartbeats 4000000 in
set_option maxRecDepth 100000 in
theorem show_c {w0 : World} (htab : Tab w0) {op n : Int} {nm : Tx} {cs : List Tx} {ks : List Ex} {cv : Value} {A : Option Addr} {c : Nat} {C : Nat → List Value} (hop : i64B op) (hnm : nm.length ≤ maxLen) (hn : i64B n) (hcs : StrsAt w0 cv cs) (hl : ks.length ≤ c) (hc : c ≤ maxLen)
    (hk : ∀ (i : Nat) k, ks[i]? = some k → ElemAt w0 A i (C i)) (hx : ∀ (i : Nat) k, ks[i]? = some k → ExAt w0 (C i) k) (ih : ∀ (i : Nat) k, ks[i]? = some k → ShowC w0 (C i) k) (hops : op = 9 ∨ op = 10 ∨ op = 15) : ShowC w0 [.int .i64 op, .string (str nm), .int .i64 n, cv, .slice A ks.length c] (.mk op nm n cs ks) := by
  intro hwx w hb
  have hI : i64x (.mk op nm n cs ks) := (ExAt.mk hop hnm hn hcs hl hc hk hx).i64
  have HR := Lib.hid (show txt (.mk op nm n cs ks) = showS op nm n cs (ks.map txt) from (showS_X op nm n cs ks).symm)
  have HTOT := Lib.hid (show (showS op nm n cs (ks.map txt)).length ≤ 6291456 by have := txt_len hI; rw [HR.out] at this; omega)
  have HWK := Lib.hid (show ∀ k ∈ ks, wX k ≤ 1048576 ∧ (txt k).length ≤ 6291456 by
    intro k hk'
    have h1 := wX_kid (op := op) (n := n) (nm := nm) (cs := cs) hk'
    obtain ⟨i, hi⟩ := List.getElem?_of_mem hk'
    have h2 := txt_len (hx i k hi).i64
    omega)
  have hlk : ks.length ≤ 1048576 := by
    have := len_wXs ks
    rw [wX] at hwx
    omega
  have HB := Lib.hid hb
  have HOP := Lib.hid hop
  have HN := Lib.hid hn
  have HNM := Lib.hid hnm
  have HCS := Lib.hid hcs
  have HTB := Lib.hid htab
  have hsz0 := hb.size
  have HWC := Lib.hid (show ∀ c ∈ cs, c.length ≤ 1048576 by
    intro c hc'
    have h1 := wL_mem (f := fun x : Tx => x.length + 1) hc'
    rw [← wN_L] at h1
    rw [wX] at hwx
    omega)
  obtain ⟨A2, c2, rfl, hlc2, hmc2, hec2⟩ := hcs
  have hlc3 : cs.length ≤ 9223372036854775807 := by unfold maxLen at hmc2; omega
  clear hop hn hb hl hnm hI hwx htab hlc2 hmc2 hec2
  go_enter Tryz.func12, Tryz.ntmps12
  go_wp2_with fail
  go_loopg [3, 4] ks.length (fun g s v wr => ∃ k : Nat, k + g = ks.length ∧ v = .int .i64 k ∧ OwnS w.heap.size wr s ((ks.take k).map txt) ∧ Below w.heap.size w wr ∧ wr.heap[w.heap.size]? = some (.cells #[.int .i64 op, .string (str nm), .int .i64 n, .slice A2 cs.length c2, .slice A ks.length c] 25 (0, 0)))
  case atStart => exact ⟨0, by omega, rfl, OwnS.nil _ _, (Below.refl _ _).alloc (Nat.le_refl _) _, heap_alloc_new w _⟩
  case round =>
    obtain ⟨k, hkg, rfl, ho, hbw, hbox⟩ := hrel
    obtain ⟨wn, rfl⟩ : ∃ W, W = wr := ⟨_, rfl⟩
    have HX := Lib.hid hbox
    obtain ⟨b0, b1, b2, b3, b4⟩ := row5 hbox
    have hlb := lt_of_heap hbox
    have HK := Lib.hid hkg
    have HW := Lib.hid hbw
    have HO := Lib.hid ho
    have hszw := hbw.size
    have hkl : k ≤ ks.length := by omega
    clear hkg hbw hbox ho
    by_cases hlt : k < ks.length
    · obtain ⟨y, hy⟩ : ∃ y, ks[k]? = some y := ⟨_, List.getElem?_eq_getElem hlt⟩
      have hC := hk k y hy
      have hih := Lib.hid (ih k y hy (HWK.out y (List.mem_of_getElem? hy)).1)
      have hxk := hx k y hy
      have HS := Lib.hid (show (ks.take (k + 1)).map txt = (ks.take k).map txt ++ [txt y] by rw [take_snoc hy]; simp)
      have HTY := Lib.hid (show (txt y).length ≤ maxLen by have := (HWK.out y (List.mem_of_getElem? hy)).2; unfold maxLen; omega)
      have HLN := Lib.hid (show ((ks.take k).map txt).length ≤ 2097152 by simp; omega)
      obtain ⟨o1, s1, n1, A1, m1, k1, A2, m2, k2, hL⟩ := hxk.shape
      generalize C k = L at hC hih hxk hL
      subst hL
      clear hy hxk hk hx ih hc
      have hB0 := Lib.hid ((HB.out.trans (HW.out.mono hsz0)))
      obtain ⟨a, rfl, ha, haa, d0, d1, d2, d3, d4⟩ := elem5 (hC.under hB0.out)
      clear hC
      go_wp2_with (first
        | (go_at_call 12
           (with_reducible refine (hih.out _ hB0.out).mono ?_)
           rintro e w1 ⟨rfl, hb1⟩
           obtain ⟨v1, rfl⟩ : ∃ W, W = w1 := ⟨_, rfl⟩
           have HO1 := Lib.hid (HO.out.under hb1)
           have HW1 := Lib.hid (HW.out.trans (hb1.mono hszw))
           have HX1 := Lib.hid (box_next hb1 HX.out)
           have hs1 := HW1.out.size
           clear hb1)
        | (at_builtin; refine append_str rfl _ _ rfl rfl rfl (heap_alloc_new v1 _) (HO1.out.alloc _) HTY.out HLN.out ?_ ?_; (first | omega | (simp; omega)); (intro v' w2 hap; obtain ⟨v2, rfl⟩ : ∃ W, W = w2 := ⟨_, rfl⟩; have HAP := Lib.hid hap; clear hap)))
      go_roundg (ks.length - (k + 1))
      case measure => have := HK.out; omega
      case rel => exact ⟨k + 1, by omega, by go_num, by rw [HS.out]; exact HAP.out.1, (HW1.out.alloc (by omega) _).trans HAP.out.2.1, HAP.out.2.2 _ _ _ (by decide) (heap_one' HX1.out _)⟩
    · have hke : k = ks.length := by omega
      have HO2 := Lib.hid (own_all hke HO.out)
      have HCC := Lib.hid hc
      clear hke hk hx ih hc
      go_wp2_with fail
      go_loopg [3] (3 - ks.length) (fun g s wr => ∃ j : Nat, j + g = 3 - ks.length ∧ OwnS w.heap.size wr s (ks.map txt ++ List.replicate j [63]) ∧ Below w.heap.size w wr ∧ wr.heap[w.heap.size]? = some (.cells #[.int .i64 op, .string (str nm), .int .i64 n, .slice A2 cs.length c2, .slice A ks.length c] 25 (0, 0)))
      case atStart => exact ⟨0, by omega, HO2.out, HW.out, HX.out⟩
      case round =>
        clear HO HO2 HK HW HX hszw hkl hlb b0 b1 b2 b3 b4 hlt
        obtain ⟨j, hkg, ho, hbw, hbox⟩ := hrel
        obtain ⟨Z, rfl⟩ : ∃ W, W = wr := ⟨_, rfl⟩
        have HX := Lib.hid hbox
        obtain ⟨b0, b1, b2, b3, b4⟩ := row5 hbox
        have hlb := lt_of_heap hbox
        have HK := Lib.hid hkg
        have HW := Lib.hid hbw
        have hszw := hbw.size
        by_cases hlt3 : j < 3 - ks.length
        · have HO := Lib.hid ho
          obtain ⟨A3, n3, c3, rfl, hn3⟩ := ho.shape
          have hn3' : n3 < 3 := by rw [hn3]; simp; omega
          have H63 := Lib.hid (show ([63] : Tx).length ≤ maxLen by unfold maxLen; decide)
          have HLN := Lib.hid (show (ks.map txt ++ List.replicate j [63]).length ≤ 2097152 by simp; omega)
          clear hkg hbw hbox ho hn3
          go_wp2_with (at_builtin; refine append_str rfl _ _ rfl rfl rfl (heap_alloc_new Z _) (HO.out.alloc _) H63.out HLN.out ?_ ?_; (first | omega | (simp; omega)); (intro v' w2 hap; obtain ⟨v2, rfl⟩ : ∃ W, W = w2 := ⟨_, rfl⟩; have HAP := Lib.hid hap; clear hap))
          go_roundg (3 - ks.length - (j + 1))
          case measure => have := HK.out; omega
          case rel => exact ⟨j + 1, by omega, by rw [List.replicate_succ', ← List.append_assoc]; exact HAP.out.1, (HW.out.alloc (by omega) _).trans HAP.out.2.1, HAP.out.2.2 _ _ _ (by decide) (heap_one' HX.out _)⟩
        · have hje : j = 3 - (ks.map txt).length := by simp; omega
          have ho' := own_kids hje ho
          have hk3 := (kidsS_len (ks.map txt)).1
          have hkn := (kidsS_len (ks.map txt)).2
          rw [List.length_map] at hkn
          obtain ⟨g, cap, rfl, hcap, hm, hg, hgl, hcells⟩ := ho'.row (by intro h; rw [h] at hk3; simp at hk3)
          have k0 := hcells 0 _ (kidsS_get _ (by omega))
          have k1 := hcells 1 _ (kidsS_get _ (by omega))
          have k2 := hcells 2 _ (kidsS_get _ (by omega))
          have HCELL := Lib.hid hcells
          have HHM := Lib.hid hm
          have HGG := Lib.hid hg
          have hm2 : cap ≤ 9223372036854775807 := by unfold maxLen at hm; omega
          generalize (kidsS (ks.map txt)).length = N3 at *
          clear hkg hbw hbox ho ho' hje hcells hm hg hlt3
          have HBZ := Lib.hid (HB.out.trans (HW.out.mono hsz0))
          rcases hops with rfl | rfl | rfl
          · have ht : 6 + (str (kS (ks.map txt) 0)).size + 2 ≤ 6291456 := by have := HTOT.out; simp only [showS, Int.reduceEq, if_true, if_false, List.length_append, List.length_cons, List.length_nil] at this; simp only [str_size]; omega
            go_wp2_with fail
            go_ret
            exact ⟨ret_strB (by rw [HR.out]; simp only [lit_str, str_append']; rfl), HW.out⟩
          · have ht : 2 + (str (kS (ks.map txt) 0)).size + 4 + (str (kS (ks.map txt) 1)).size + 2 ≤ 6291456 := by have := HTOT.out; simp only [showS, Int.reduceEq, if_true, if_false, List.length_append, List.length_cons, List.length_nil] at this; simp only [str_size]; omega
            go_wp2_with fail
            go_quiet (fail)
            go_wp2_with fail
            go_ret
            exact ⟨ret_strB (by rw [HR.out]; simp only [lit_str, str_append']; rfl), below_drewN HW.out _⟩
          · have ht : 2 + (str (kS (ks.map txt) 0)).size + 7 + (str (kS (ks.map txt) 1)).size + 2 ≤ 6291456 := by have := HTOT.out; simp only [showS, Int.reduceEq, if_true, if_false, List.length_append, List.length_cons, List.length_nil] at this; simp only [str_size]; omega
            go_wp2_with fail
            go_quiet (fail)
            go_wp2_with fail
            go_ret
            exact ⟨ret_strB (by rw [HR.out]; simp only [lit_str, str_append']; rfl), below_drewN HW.out _⟩
set_option maxHeartbeats 4000000 in
set_option maxRecDepth 100000 in
theorem show_d {w0 : World} (htab : Tab w0) {op n : Int} {nm : Tx} {cs : List Tx} {ks : List Ex} {cv : Value} {A : Option Addr} {c : Nat} {C : Nat → List Value} (hop : i64B op) (hnm : nm.length ≤ maxLen) (hn : i64B n) (hcs : StrsAt w0 cv cs) (hl : ks.length ≤ c) (hc : c ≤ maxLen)
    (hk : ∀ (i : Nat) k, ks[i]? = some k → ElemAt w0 A i (C i)) (hx : ∀ (i : Nat) k, ks[i]? = some k → ExAt w0 (C i) k) (ih : ∀ (i : Nat) k, ks[i]? = some k → ShowC w0 (C i) k) (h1 : op ≠ 1) (h2 : op ≠ 2) (h3 : op ≠ 3) (h4 : op ≠ 4) (h5 : op ≠ 5) (h6 : op ≠ 6) (h7 : op ≠ 7) (h8 : op ≠ 8) (h9 : op ≠ 9) (h10 : op ≠ 10) (h11 : op ≠ 11) (h12 : op ≠ 12) (h13 : op ≠ 13) (h14 : op ≠ 14) (h15 : op ≠ 15) : ShowC w0 [.int .i64 op, .string (str nm), .int .i64 n, cv, .slice A ks.length c] (.mk op nm n cs ks) := by
  intro hwx w hb
  have hI : i64x (.mk op nm n cs ks) := (ExAt.mk hop hnm hn hcs hl hc hk hx).i64
  have HR := Lib.hid (show txt (.mk op nm n cs ks) = showS op nm n cs (ks.map txt) from (showS_X op nm n cs ks).symm)
  have HTOT := Lib.hid (show (showS op nm n cs (ks.map txt)).length ≤ 6291456 by have := txt_len hI; rw [HR.out] at this; omega)
  have HWK := Lib.hid (show ∀ k ∈ ks, wX k ≤ 1048576 ∧ (txt k).length ≤ 6291456 by
    intro k hk'
    have h1 := wX_kid (op := op) (n := n) (nm := nm) (cs := cs) hk'
    obtain ⟨i, hi⟩ := List.getElem?_of_mem hk'
    have h2 := txt_len (hx i k hi).i64
    omega)
  have hlk : ks.length ≤ 1048576 := by
    have := len_wXs ks
    rw [wX] at hwx
    omega
  have HB := Lib.hid hb
  have HOP := Lib.hid hop
  have HN := Lib.hid hn
  have HNM := Lib.hid hnm
  have HCS := Lib.hid hcs
  have HTB := Lib.hid htab
  have hsz0 := hb.size
  have HWC := Lib.hid (show ∀ c ∈ cs, c.length ≤ 1048576 by
    intro c hc'
    have h1 := wL_mem (f := fun x : Tx => x.length + 1) hc'
    rw [← wN_L] at h1
    rw [wX] at hwx
    omega)
  obtain ⟨A2, c2, rfl, hlc2, hmc2, hec2⟩ := hcs
  have hlc3 : cs.length ≤ 9223372036854775807 := by unfold maxLen at hmc2; omega
  clear hop hn hb hl hnm hI hwx htab hlc2 hmc2 hec2
  go_enter Tryz.func12, Tryz.ntmps12
  go_wp2_with fail
  go_loopg [3, 4] ks.length (fun g s v wr => ∃ k : Nat, k + g = ks.length ∧ v = .int .i64 k ∧ OwnS w.heap.size wr s ((ks.take k).map txt) ∧ Below w.heap.size w wr ∧ wr.heap[w.heap.size]? = some (.cells #[.int .i64 op, .string (str nm), .int .i64 n, .slice A2 cs.length c2, .slice A ks.length c] 25 (0, 0)))
  case atStart => exact ⟨0, by omega, rfl, OwnS.nil _ _, (Below.refl _ _).alloc (Nat.le_refl _) _, heap_alloc_new w _⟩
  case round =>
    obtain ⟨k, hkg, rfl, ho, hbw, hbox⟩ := hrel
    obtain ⟨wn, rfl⟩ : ∃ W, W = wr := ⟨_, rfl⟩
    have HX := Lib.hid hbox
    obtain ⟨b0, b1, b2, b3, b4⟩ := row5 hbox
    have hlb := lt_of_heap hbox
    have HK := Lib.hid hkg
    have HW := Lib.hid hbw
    have HO := Lib.hid ho
    have hszw := hbw.size
    have hkl : k ≤ ks.length := by omega
    clear hkg hbw hbox ho
    by_cases hlt : k < ks.length
    · obtain ⟨y, hy⟩ : ∃ y, ks[k]? = some y := ⟨_, List.getElem?_eq_getElem hlt⟩
      have hC := hk k y hy
      have hih := Lib.hid (ih k y hy (HWK.out y (List.mem_of_getElem? hy)).1)
      have hxk := hx k y hy
      have HS := Lib.hid (show (ks.take (k + 1)).map txt = (ks.take k).map txt ++ [txt y] by rw [take_snoc hy]; simp)
      have HTY := Lib.hid (show (txt y).length ≤ maxLen by have := (HWK.out y (List.mem_of_getElem? hy)).2; unfold maxLen; omega)
      have HLN := Lib.hid (show ((ks.take k).map txt).length ≤ 2097152 by simp; omega)
      obtain ⟨o1, s1, n1, A1, m1, k1, A2, m2, k2, hL⟩ := hxk.shape
      generalize C k = L at hC hih hxk hL
      subst hL
      clear hy hxk hk hx ih hc
      have hB0 := Lib.hid ((HB.out.trans (HW.out.mono hsz0)))
      obtain ⟨a, rfl, ha, haa, d0, d1, d2, d3, d4⟩ := elem5 (hC.under hB0.out)
      clear hC
      go_wp2_with (first
        | (go_at_call 12
           (with_reducible refine (hih.out _ hB0.out).mono ?_)
           rintro e w1 ⟨rfl, hb1⟩
           obtain ⟨v1, rfl⟩ : ∃ W, W = w1 := ⟨_, rfl⟩
           have HO1 := Lib.hid (HO.out.under hb1)
           have HW1 := Lib.hid (HW.out.trans (hb1.mono hszw))
           have HX1 := Lib.hid (box_next hb1 HX.out)
           have hs1 := HW1.out.size
           clear hb1)
        | (at_builtin; refine append_str rfl _ _ rfl rfl rfl (heap_alloc_new v1 _) (HO1.out.alloc _) HTY.out HLN.out ?_ ?_; (first | omega | (simp; omega)); (intro v' w2 hap; obtain ⟨v2, rfl⟩ : ∃ W, W = w2 := ⟨_, rfl⟩; have HAP := Lib.hid hap; clear hap)))
      go_roundg (ks.length - (k + 1))
      case measure => have := HK.out; omega
      case rel => exact ⟨k + 1, by omega, by go_num, by rw [HS.out]; exact HAP.out.1, (HW1.out.alloc (by omega) _).trans HAP.out.2.1, HAP.out.2.2 _ _ _ (by decide) (heap_one' HX1.out _)⟩
    · have hke : k = ks.length := by omega
      have HO2 := Lib.hid (own_all hke HO.out)
      have HCC := Lib.hid hc
      clear hke hk hx ih hc
      go_wp2_with fail
      go_loopg [3] (3 - ks.length) (fun g s wr => ∃ j : Nat, j + g = 3 - ks.length ∧ OwnS w.heap.size wr s (ks.map txt ++ List.replicate j [63]) ∧ Below w.heap.size w wr ∧ wr.heap[w.heap.size]? = some (.cells #[.int .i64 op, .string (str nm), .int .i64 n, .slice A2 cs.length c2, .slice A ks.length c] 25 (0, 0)))
      case atStart => exact ⟨0, by omega, HO2.out, HW.out, HX.out⟩
      case round =>
        clear HO HO2 HK HW HX hszw hkl hlb b0 b1 b2 b3 b4 hlt
        obtain ⟨j, hkg, ho, hbw, hbox⟩ := hrel
        obtain ⟨Z, rfl⟩ : ∃ W, W = wr := ⟨_, rfl⟩
        have HX := Lib.hid hbox
        obtain ⟨b0, b1, b2, b3, b4⟩ := row5 hbox
        have hlb := lt_of_heap hbox
        have HK := Lib.hid hkg
        have HW := Lib.hid hbw
        have hszw := hbw.size
        by_cases hlt3 : j < 3 - ks.length
        · have HO := Lib.hid ho
          obtain ⟨A3, n3, c3, rfl, hn3⟩ := ho.shape
          have hn3' : n3 < 3 := by rw [hn3]; simp; omega
          have H63 := Lib.hid (show ([63] : Tx).length ≤ maxLen by unfold maxLen; decide)
          have HLN := Lib.hid (show (ks.map txt ++ List.replicate j [63]).length ≤ 2097152 by simp; omega)
          clear hkg hbw hbox ho hn3
          go_wp2_with (at_builtin; refine append_str rfl _ _ rfl rfl rfl (heap_alloc_new Z _) (HO.out.alloc _) H63.out HLN.out ?_ ?_; (first | omega | (simp; omega)); (intro v' w2 hap; obtain ⟨v2, rfl⟩ : ∃ W, W = w2 := ⟨_, rfl⟩; have HAP := Lib.hid hap; clear hap))
          go_roundg (3 - ks.length - (j + 1))
          case measure => have := HK.out; omega
          case rel => exact ⟨j + 1, by omega, by rw [List.replicate_succ', ← List.append_assoc]; exact HAP.out.1, (HW.out.alloc (by omega) _).trans HAP.out.2.1, HAP.out.2.2 _ _ _ (by decide) (heap_one' HX.out _)⟩
        · have hje : j = 3 - (ks.map txt).length := by simp; omega
          have ho' := own_kids hje ho
          have hk3 := (kidsS_len (ks.map txt)).1
          have hkn := (kidsS_len (ks.map txt)).2
          rw [List.length_map] at hkn
          obtain ⟨g, cap, rfl, hcap, hm, hg, hgl, hcells⟩ := ho'.row (by intro h; rw [h] at hk3; simp at hk3)
          have k0 := hcells 0 _ (kidsS_get _ (by omega))
          have k1 := hcells 1 _ (kidsS_get _ (by omega))
          have k2 := hcells 2 _ (kidsS_get _ (by omega))
          have HCELL := Lib.hid hcells
          have HHM := Lib.hid hm
          have HGG := Lib.hid hg
          have hm2 : cap ≤ 9223372036854775807 := by unfold maxLen at hm; omega
          generalize (kidsS (ks.map txt)).length = N3 at *
          clear hkg hbw hbox ho ho' hje hcells hm hg hlt3
          have HBZ := Lib.hid (HB.out.trans (HW.out.mono hsz0))
          go_wp2_with fail
          go_ret
          exact ⟨ret_strB (by rw [HR.out]; simp only [showS, h1, h2, h3, h4, h5, h6, h7, h8, h9, h10, h11, h12, h13, h14, h15, if_false]; rfl), HW.out⟩
set_option maxHeartbeats 4000000 in
set_option maxRecDepth 100000 in
theorem show_e {w0 : World} (htab : Tab w0) {op n : Int} {nm : Tx} {cs : List Tx} {ks : List Ex} {cv : Value} {A : Option Addr} {c : Nat} {C : Nat → List Value} (hop : i64B op) (hnm : nm.length ≤ maxLen) (hn : i64B n) (hcs : StrsAt w0 cv cs) (hl : ks.length ≤ c) (hc : c ≤ maxLen)
    (hk : ∀ (i : Nat) k, ks[i]? = some k → ElemAt w0 A i (C i)) (hx : ∀ (i : Nat) k, ks[i]? = some k → ExAt w0 (C i) k) (ih : ∀ (i : Nat) k, ks[i]? = some k → ShowC w0 (C i) k) (hops : op = 11 ∨ op = 14) : ShowC w0 [.int .i64 op, .string (str nm), .int .i64 n, cv, .slice A ks.length c] (.mk op nm n cs ks) := by
  intro hwx w hb
  have hI : i64x (.mk op nm n cs ks) := (ExAt.mk hop hnm hn hcs hl hc hk hx).i64
  have HR := Lib.hid (show txt (.mk op nm n cs ks) = showS op nm n cs (ks.map txt) from (showS_X op nm n cs ks).symm)
  have HTOT := Lib.hid (show (showS op nm n cs (ks.map txt)).length ≤ 6291456 by have := txt_len hI; rw [HR.out] at this; omega)
  have HWK := Lib.hid (show ∀ k ∈ ks, wX k ≤ 1048576 ∧ (txt k).length ≤ 6291456 by
    intro k hk'
    have h1 := wX_kid (op := op) (n := n) (nm := nm) (cs := cs) hk'
    obtain ⟨i, hi⟩ := List.getElem?_of_mem hk'
    have h2 := txt_len (hx i k hi).i64
    omega)
  have hlk : ks.length ≤ 1048576 := by
    have := len_wXs ks
    rw [wX] at hwx
    omega
  have HB := Lib.hid hb
  have HOP := Lib.hid hop
  have HN := Lib.hid hn
  have HNM := Lib.hid hnm
  have HCS := Lib.hid hcs
  have HTB := Lib.hid htab
  have hsz0 := hb.size
  have HWC := Lib.hid (show ∀ c ∈ cs, c.length ≤ 1048576 by
    intro c hc'
    have h1 := wL_mem (f := fun x : Tx => x.length + 1) hc'
    rw [← wN_L] at h1
    rw [wX] at hwx
    omega)
  obtain ⟨A2, c2, rfl, hlc2, hmc2, hec2⟩ := hcs
  have hlc3 : cs.length ≤ 9223372036854775807 := by unfold maxLen at hmc2; omega
  clear hop hn hb hl hnm hI hwx htab hlc2 hmc2 hec2
  go_enter Tryz.func12, Tryz.ntmps12
  go_wp2_with fail
  go_loopg [3, 4] ks.length (fun g s v wr => ∃ k : Nat, k + g = ks.length ∧ v = .int .i64 k ∧ OwnS w.heap.size wr s ((ks.take k).map txt) ∧ Below w.heap.size w wr ∧ wr.heap[w.heap.size]? = some (.cells #[.int .i64 op, .string (str nm), .int .i64 n, .slice A2 cs.length c2, .slice A ks.length c] 25 (0, 0)))
  case atStart => exact ⟨0, by omega, rfl, OwnS.nil _ _, (Below.refl _ _).alloc (Nat.le_refl _) _, heap_alloc_new w _⟩
  case round =>
    obtain ⟨k, hkg, rfl, ho, hbw, hbox⟩ := hrel
    obtain ⟨wn, rfl⟩ : ∃ W, W = wr := ⟨_, rfl⟩
    have HX := Lib.hid hbox
    obtain ⟨b0, b1, b2, b3, b4⟩ := row5 hbox
    have hlb := lt_of_heap hbox
    have HK := Lib.hid hkg
    have HW := Lib.hid hbw
    have HO := Lib.hid ho
    have hszw := hbw.size
    have hkl : k ≤ ks.length := by omega
    clear hkg hbw hbox ho
    by_cases hlt : k < ks.length
    · obtain ⟨y, hy⟩ : ∃ y, ks[k]? = some y := ⟨_, List.getElem?_eq_getElem hlt⟩
      have hC := hk k y hy
      have hih := Lib.hid (ih k y hy (HWK.out y (List.mem_of_getElem? hy)).1)
      have hxk := hx k y hy
      have HS := Lib.hid (show (ks.take (k + 1)).map txt = (ks.take k).map txt ++ [txt y] by rw [take_snoc hy]; simp)
      have HTY := Lib.hid (show (txt y).length ≤ maxLen by have := (HWK.out y (List.mem_of_getElem? hy)).2; unfold maxLen; omega)
      have HLN := Lib.hid (show ((ks.take k).map txt).length ≤ 2097152 by simp; omega)
      obtain ⟨o1, s1, n1, A1, m1, k1, A2, m2, k2, hL⟩ := hxk.shape
      generalize C k = L at hC hih hxk hL
      subst hL
      clear hy hxk hk hx ih hc
      have hB0 := Lib.hid ((HB.out.trans (HW.out.mono hsz0)))
      obtain ⟨a, rfl, ha, haa, d0, d1, d2, d3, d4⟩ := elem5 (hC.under hB0.out)
      clear hC
      go_wp2_with (first
        | (go_at_call 12
           (with_reducible refine (hih.out _ hB0.out).mono ?_)
           rintro e w1 ⟨rfl, hb1⟩
           obtain ⟨v1, rfl⟩ : ∃ W, W = w1 := ⟨_, rfl⟩
           have HO1 := Lib.hid (HO.out.under hb1)
           have HW1 := Lib.hid (HW.out.trans (hb1.mono hszw))
           have HX1 := Lib.hid (box_next hb1 HX.out)
           have hs1 := HW1.out.size
           clear hb1)
        | (at_builtin; refine append_str rfl _ _ rfl rfl rfl (heap_alloc_new v1 _) (HO1.out.alloc _) HTY.out HLN.out ?_ ?_; (first | omega | (simp; omega)); (intro v' w2 hap; obtain ⟨v2, rfl⟩ : ∃ W, W = w2 := ⟨_, rfl⟩; have HAP := Lib.hid hap; clear hap)))
      go_roundg (ks.length - (k + 1))
      case measure => have := HK.out; omega
      case rel => exact ⟨k + 1, by omega, by go_num, by rw [HS.out]; exact HAP.out.1, (HW1.out.alloc (by omega) _).trans HAP.out.2.1, HAP.out.2.2 _ _ _ (by decide) (heap_one' HX1.out _)⟩
    · have hke : k = ks.length := by omega
      have HO2 := Lib.hid (own_all hke HO.out)
      have HCC := Lib.hid hc
      clear hke hk hx ih hc
      go_wp2_with fail
      go_loopg [3] (3 - ks.length) (fun g s wr => ∃ j : Nat, j + g = 3 - ks.length ∧ OwnS w.heap.size wr s (ks.map txt ++ List.replicate j [63]) ∧ Below w.heap.size w wr ∧ wr.heap[w.heap.size]? = some (.cells #[.int .i64 op, .string (str nm), .int .i64 n, .slice A2 cs.length c2, .slice A ks.length c] 25 (0, 0)))
      case atStart => exact ⟨0, by omega, HO2.out, HW.out, HX.out⟩
      case round =>
        clear HO HO2 HK HW HX hszw hkl hlb b0 b1 b2 b3 b4 hlt
        obtain ⟨j, hkg, ho, hbw, hbox⟩ := hrel
        obtain ⟨Z, rfl⟩ : ∃ W, W = wr := ⟨_, rfl⟩
        have HX := Lib.hid hbox
        obtain ⟨b0, b1, b2, b3, b4⟩ := row5 hbox
        have hlb := lt_of_heap hbox
        have HK := Lib.hid hkg
        have HW := Lib.hid hbw
        have hszw := hbw.size
        by_cases hlt3 : j < 3 - ks.length
        · have HO := Lib.hid ho
          obtain ⟨A3, n3, c3, rfl, hn3⟩ := ho.shape
          have hn3' : n3 < 3 := by rw [hn3]; simp; omega
          have H63 := Lib.hid (show ([63] : Tx).length ≤ maxLen by unfold maxLen; decide)
          have HLN := Lib.hid (show (ks.map txt ++ List.replicate j [63]).length ≤ 2097152 by simp; omega)
          clear hkg hbw hbox ho hn3
          go_wp2_with (at_builtin; refine append_str rfl _ _ rfl rfl rfl (heap_alloc_new Z _) (HO.out.alloc _) H63.out HLN.out ?_ ?_; (first | omega | (simp; omega)); (intro v' w2 hap; obtain ⟨v2, rfl⟩ : ∃ W, W = w2 := ⟨_, rfl⟩; have HAP := Lib.hid hap; clear hap))
          go_roundg (3 - ks.length - (j + 1))
          case measure => have := HK.out; omega
          case rel => exact ⟨j + 1, by omega, by rw [List.replicate_succ', ← List.append_assoc]; exact HAP.out.1, (HW.out.alloc (by omega) _).trans HAP.out.2.1, HAP.out.2.2 _ _ _ (by decide) (heap_one' HX.out _)⟩
        · have hje : j = 3 - (ks.map txt).length := by simp; omega
          have ho' := own_kids hje ho
          have hk3 := (kidsS_len (ks.map txt)).1
          have hkn := (kidsS_len (ks.map txt)).2
          rw [List.length_map] at hkn
          obtain ⟨g, cap, rfl, hcap, hm, hg, hgl, hcells⟩ := ho'.row (by intro h; rw [h] at hk3; simp at hk3)
          have k0 := hcells 0 _ (kidsS_get _ (by omega))
          have k1 := hcells 1 _ (kidsS_get _ (by omega))
          have k2 := hcells 2 _ (kidsS_get _ (by omega))
          have HCELL := Lib.hid hcells
          have HHM := Lib.hid hm
          have HGG := Lib.hid hg
          have hm2 : cap ≤ 9223372036854775807 := by unfold maxLen at hm; omega
          generalize (kidsS (ks.map txt)).length = N3 at *
          clear hkg hbw hbox ho ho' hje hcells hm hg hlt3
          have HBZ := Lib.hid (HB.out.trans (HW.out.mono hsz0))
          rcases hops with rfl | rfl
          · have hst := HCS.out.under HBZ.out
            have ht : 2 + (str (kS (ks.map txt) 0)).size + 5 + (str (padL [44] cs)).size + 3 + (str nm).size + 4 ≤ 6291456 := by have := HTOT.out; simp only [showS, Int.reduceEq, if_true, if_false, List.length_append, List.length_cons, List.length_nil] at this; simp only [str_size]; omega
            have HPAD := Lib.hid (fun n => rPad44 hst (by rw [← str_size]; omega) n)
            clear hst
            go_wp2_with fail
            go_quiet ((go_at_call 24; exact Calls.quiet_of_same (HPAD.out _)))
            go_wp2_with fail
            go_ret
            exact ⟨ret_strB (by rw [HR.out]; simp only [lit_str, str_append']; rfl), below_drewN HW.out _⟩
          · have hst := HCELL.out.strs0 (cap := cap) (by rw [List.length_map]; omega) HHM.out (by intro x hx; obtain ⟨k, hk, rfl⟩ := List.mem_map.1 hx; have := (HWK.out k hk).2; unfold maxLen; omega)
            have HLK := Lib.hid (show (ks.map txt).length = ks.length from List.length_map ..)
            rw [HLK.out] at hst
            have hsc := HCS.out.under HBZ.out
            by_cases hc0 : cs = []
            · subst hc0
              have ht : (str nm).size + 2 + (str (padL [44] (ks.map txt))).size + 2 ≤ 6291456 := by have := HTOT.out; simp only [showS, Int.reduceEq, if_true, if_false, List.length_append, List.length_cons, List.length_nil] at this; simp only [str_size]; omega
              have HPAD := Lib.hid (rPad44s hst (by rw [← str_size]; omega))
              clear hst hsc
              simp only [List.length_nil] at *
              go_wp2_with (go_at_call 24; (with_reducible refine HPAD.out.mono ?_); rintro e w' ⟨rfl, rfl⟩)
              go_ret
              exact ⟨ret_strB (by rw [HR.out]; simp only [lit_str, str_append']; rfl), HW.out⟩
            · have hpos : 0 < cs.length := List.length_pos_iff.2 hc0
              have HR2 := Lib.hid (show txt (.mk 14 nm n cs ks) = nm ++ ([32, 91, 32] ++ listL [44] cs ++ [32, 93]) ++ [32, 40] ++ padL [44] (ks.map txt) ++ [32, 41] by rw [HR.out]; simp only [showS, Int.reduceEq, if_true, if_false, if_neg hc0])
              have ht : (str nm).size + (3 + (str (listL [44] cs)).size + 2) + 2 + (str (padL [44] (ks.map txt))).size + 2 ≤ 6291456 := by have := HTOT.out; rw [← HR.out, HR2.out] at this; simp only [List.length_append, List.length_cons, List.length_nil] at this; simp only [str_size]; omega
              have HPAD := Lib.hid (rPad44s hst (by rw [← str_size]; omega))
              have HLIST := Lib.hid (rList44s hsc (by rw [← str_size]; omega))
              clear hst hsc hc0
              go_wp2_with (first | (go_at_call 24; (with_reducible refine HPAD.out.mono ?_); rintro e w' ⟨rfl, rfl⟩) | (go_at_call 25; (with_reducible refine HLIST.out.mono ?_); rintro e w' ⟨rfl, rfl⟩))
              go_ret
              exact ⟨ret_strB (by rw [HR2.out]; simp only [lit_str, str_append']), HW.out⟩
end Go.Proofs.YtjelhdjckdcbaaaGreatDoor
namespace Go.Proofs.YtjelhdjckdcbaaaGreatDoor
open Go.RowKit

set_option maxHeartbeats 4000000 in
set_option maxRecDepth 100000 in
theorem show_f {w0 : World} (htab : Tab w0) {op n : Int} {nm : Tx} {cs : List Tx} {ks : List Ex} {cv : Value} {A : Option Addr} {c : Nat} {C : Nat → List Value} (hop : i64B op) (hnm : nm.length ≤ maxLen) (hn : i64B n) (hcs : StrsAt w0 cv cs) (hl : ks.length ≤ c) (hc : c ≤ maxLen)
    (hk : ∀ (i : Nat) k, ks[i]? = some k → ElemAt w0 A i (C i)) (hx : ∀ (i : Nat) k, ks[i]? = some k → ExAt w0 (C i) k) (ih : ∀ (i : Nat) k, ks[i]? = some k → ShowC w0 (C i) k) (hops : op = 12) : ShowC w0 [.int .i64 op, .string (str nm), .int .i64 n, cv, .slice A ks.length c] (.mk op nm n cs ks) := by
  intro hwx w hb
  have HOPS := Lib.hid hops
  clear hops
  have hI : i64x (.mk op nm n cs ks) := (ExAt.mk hop hnm hn hcs hl hc hk hx).i64
  have HR := Lib.hid (show txt (.mk op nm n cs ks) = showS op nm n cs (ks.map txt) from (showS_X op nm n cs ks).symm)
  have HTOT := Lib.hid (show (showS op nm n cs (ks.map txt)).length ≤ 6291456 by have := txt_len hI; rw [HR.out] at this; omega)
  have HWK := Lib.hid (show ∀ k ∈ ks, wX k ≤ 1048576 ∧ (txt k).length ≤ 6291456 by
    intro k hk'
    have h1 := wX_kid (op := op) (n := n) (nm := nm) (cs := cs) hk'
    obtain ⟨i, hi⟩ := List.getElem?_of_mem hk'
    have h2 := txt_len (hx i k hi).i64
    omega)
  have hlk : ks.length ≤ 1048576 := by
    have := len_wXs ks
    rw [wX] at hwx
    omega
  have HB := Lib.hid hb
  have HOP := Lib.hid hop
  have HN := Lib.hid hn
  have HNM := Lib.hid hnm
  have HCS := Lib.hid hcs
  have HTB := Lib.hid htab
  have hsz0 := hb.size
  have HWC := Lib.hid (show ∀ c ∈ cs, c.length ≤ 1048576 by
    intro c hc'
    have h1 := wL_mem (f := fun x : Tx => x.length + 1) hc'
    rw [← wN_L] at h1
    rw [wX] at hwx
    omega)
  obtain ⟨A2, c2, rfl, hlc2, hmc2, hec2⟩ := hcs
  have hlc3 : cs.length ≤ 9223372036854775807 := by unfold maxLen at hmc2; omega
  clear hop hn hb hl hnm hI hwx htab hlc2 hmc2 hec2
  go_enter Tryz.func12, Tryz.ntmps12
  go_wp2_with fail
  go_loopg [3, 4] ks.length (fun g s v wr => ∃ k : Nat, k + g = ks.length ∧ v = .int .i64 k ∧ OwnS w.heap.size wr s ((ks.take k).map txt) ∧ Below w.heap.size w wr ∧ wr.heap[w.heap.size]? = some (.cells #[.int .i64 op, .string (str nm), .int .i64 n, .slice A2 cs.length c2, .slice A ks.length c] 25 (0, 0)))
  case atStart => exact ⟨0, by omega, rfl, OwnS.nil _ _, (Below.refl _ _).alloc (Nat.le_refl _) _, heap_alloc_new w _⟩
  case round =>
    obtain ⟨k, hkg, rfl, ho, hbw, hbox⟩ := hrel
    obtain ⟨wn, rfl⟩ : ∃ W, W = wr := ⟨_, rfl⟩
    have HX := Lib.hid hbox
    obtain ⟨b0, b1, b2, b3, b4⟩ := row5 hbox
    have hlb := lt_of_heap hbox
    have HK := Lib.hid hkg
    have HW := Lib.hid hbw
    have HO := Lib.hid ho
    have hszw := hbw.size
    have hkl : k ≤ ks.length := by omega
    clear hkg hbw hbox ho
    by_cases hlt : k < ks.length
    · obtain ⟨y, hy⟩ : ∃ y, ks[k]? = some y := ⟨_, List.getElem?_eq_getElem hlt⟩
      have hC := hk k y hy
      have hih := Lib.hid (ih k y hy (HWK.out y (List.mem_of_getElem? hy)).1)
      have hxk := hx k y hy
      have HS := Lib.hid (show (ks.take (k + 1)).map txt = (ks.take k).map txt ++ [txt y] by rw [take_snoc hy]; simp)
      have HTY := Lib.hid (show (txt y).length ≤ maxLen by have := (HWK.out y (List.mem_of_getElem? hy)).2; unfold maxLen; omega)
      have HLN := Lib.hid (show ((ks.take k).map txt).length ≤ 2097152 by simp; omega)
      obtain ⟨o1, s1, n1, A1, m1, k1, A2, m2, k2, hL⟩ := hxk.shape
      generalize C k = L at hC hih hxk hL
      subst hL
      clear hy hxk hk hx ih hc
      have hB0 := Lib.hid ((HB.out.trans (HW.out.mono hsz0)))
      obtain ⟨a, rfl, ha, haa, d0, d1, d2, d3, d4⟩ := elem5 (hC.under hB0.out)
      clear hC
      go_wp2_with (first
        | (go_at_call 12
           (with_reducible refine (hih.out _ hB0.out).mono ?_)
           rintro e w1 ⟨rfl, hb1⟩
           obtain ⟨v1, rfl⟩ : ∃ W, W = w1 := ⟨_, rfl⟩
           have HO1 := Lib.hid (HO.out.under hb1)
           have HW1 := Lib.hid (HW.out.trans (hb1.mono hszw))
           have HX1 := Lib.hid (box_next hb1 HX.out)
           have hs1 := HW1.out.size
           clear hb1)
        | (at_builtin; refine append_str rfl _ _ rfl rfl rfl (heap_alloc_new v1 _) (HO1.out.alloc _) HTY.out HLN.out ?_ ?_; (first | omega | (simp; omega)); (intro v' w2 hap; obtain ⟨v2, rfl⟩ : ∃ W, W = w2 := ⟨_, rfl⟩; have HAP := Lib.hid hap; clear hap)))
      go_roundg (ks.length - (k + 1))
      case measure => have := HK.out; omega
      case rel => exact ⟨k + 1, by omega, by go_num, by rw [HS.out]; exact HAP.out.1, (HW1.out.alloc (by omega) _).trans HAP.out.2.1, HAP.out.2.2 _ _ _ (by decide) (heap_one' HX1.out _)⟩
    · have hke : k = ks.length := by omega
      have HO2 := Lib.hid (own_all hke HO.out)
      have HCC := Lib.hid hc
      clear hke hk hx ih hc
      go_wp2_with fail
      go_loopg [3] (3 - ks.length) (fun g s wr => ∃ j : Nat, j + g = 3 - ks.length ∧ OwnS w.heap.size wr s (ks.map txt ++ List.replicate j [63]) ∧ Below w.heap.size w wr ∧ wr.heap[w.heap.size]? = some (.cells #[.int .i64 op, .string (str nm), .int .i64 n, .slice A2 cs.length c2, .slice A ks.length c] 25 (0, 0)))
      case atStart => exact ⟨0, by omega, HO2.out, HW.out, HX.out⟩
      case round =>
        clear HO HO2 HK HW HX hszw hkl hlb b0 b1 b2 b3 b4 hlt
        obtain ⟨j, hkg, ho, hbw, hbox⟩ := hrel
        obtain ⟨Z, rfl⟩ : ∃ W, W = wr := ⟨_, rfl⟩
        have HX := Lib.hid hbox
        obtain ⟨b0, b1, b2, b3, b4⟩ := row5 hbox
        have hlb := lt_of_heap hbox
        have HK := Lib.hid hkg
        have HW := Lib.hid hbw
        have hszw := hbw.size
        by_cases hlt3 : j < 3 - ks.length
        · have HO := Lib.hid ho
          obtain ⟨A3, n3, c3, rfl, hn3⟩ := ho.shape
          have hn3' : n3 < 3 := by rw [hn3]; simp; omega
          have H63 := Lib.hid (show ([63] : Tx).length ≤ maxLen by unfold maxLen; decide)
          have HLN := Lib.hid (show (ks.map txt ++ List.replicate j [63]).length ≤ 2097152 by simp; omega)
          clear hkg hbw hbox ho hn3
          go_wp2_with (at_builtin; refine append_str rfl _ _ rfl rfl rfl (heap_alloc_new Z _) (HO.out.alloc _) H63.out HLN.out ?_ ?_; (first | omega | (simp; omega)); (intro v' w2 hap; obtain ⟨v2, rfl⟩ : ∃ W, W = w2 := ⟨_, rfl⟩; have HAP := Lib.hid hap; clear hap))
          go_roundg (3 - ks.length - (j + 1))
          case measure => have := HK.out; omega
          case rel => exact ⟨j + 1, by omega, by rw [List.replicate_succ', ← List.append_assoc]; exact HAP.out.1, (HW.out.alloc (by omega) _).trans HAP.out.2.1, HAP.out.2.2 _ _ _ (by decide) (heap_one' HX.out _)⟩
        · have hje : j = 3 - (ks.map txt).length := by simp; omega
          have ho' := own_kids hje ho
          have hk3 := (kidsS_len (ks.map txt)).1
          have hkn := (kidsS_len (ks.map txt)).2
          rw [List.length_map] at hkn
          obtain ⟨g, cap, rfl, hcap, hm, hg, hgl, hcells⟩ := ho'.row (by intro h; rw [h] at hk3; simp at hk3)
          have k0 := hcells 0 _ (kidsS_get _ (by omega))
          have k1 := hcells 1 _ (kidsS_get _ (by omega))
          have k2 := hcells 2 _ (kidsS_get _ (by omega))
          have HCELL := Lib.hid hcells
          have HHM := Lib.hid hm
          have HGG := Lib.hid hg
          have hm2 : cap ≤ 9223372036854775807 := by unfold maxLen at hm; omega
          generalize (kidsS (ks.map txt)).length = N3 at *
          clear hkg hbw hbox ho ho' hje hcells hm hg hlt3
          have HBZ := Lib.hid (HB.out.trans (HW.out.mono hsz0))
          have hops := HOPS.out
          subst hops
          · have ht : 5 + 1 + (str nm).size + 2 + (str (padL [124] (armsS cs (ks.map txt)))).size + 2 ≤ 6291456 := by have := HTOT.out; simp only [showS, mergeT, Int.reduceEq, if_true, if_false, List.length_append, List.length_cons, List.length_nil] at this; simp only [str_size]; omega
            go_wp2_with fail
            go_loopg [6, 7] (min ks.length cs.length) (fun g s v wr => ∃ k : Nat, k + g = min ks.length cs.length ∧ v = .int .i64 k ∧ OwnS Z.heap.size wr s (armsS (cs.take k) ((ks.map txt).take k)) ∧ Below Z.heap.size Z wr)
            case atStart => exact ⟨0, by omega, rfl, by simpa [armsS] using OwnS.nil _ _, Below.refl _ _⟩
            case round =>
              obtain ⟨k, hkg, rfl, ho, hbw⟩ := hrel
              obtain ⟨Y, rfl⟩ : ∃ W, W = wr := ⟨_, rfl⟩
              have HK2 := Lib.hid hkg
              have HY := Lib.hid hbw
              have HO := Lib.hid ho
              have hszy := hbw.size
              clear b0 b1 b2 b3 b4 k0 k1 k2
              have BY := Lib.hid (box_next hbw HX.out)
              obtain ⟨b0, b1, b2, b3, b4⟩ := row5 BY.out
              have HCY := Lib.hid (HCELL.out.under hgl hbw)
              have HSY := Lib.hid (HCS.out.under HBZ.out)
              have hkm : k ≤ ks.length := by omega
              have hkc : k ≤ cs.length := by omega
              clear hkg hbw ho
              by_cases hlt : k < ks.length ∧ k < cs.length
              · obtain ⟨hl1, hl2⟩ := hlt
                obtain ⟨y, hy⟩ : ∃ y, ks[k]? = some y := ⟨_, List.getElem?_eq_getElem hl1⟩
                obtain ⟨cc, hcc⟩ : ∃ y, cs[k]? = some y := ⟨_, List.getElem?_eq_getElem hl2⟩
                have hcl := HWC.out cc (List.mem_of_getElem? hcc)
                have hyl := (HWK.out y (List.mem_of_getElem? hy)).2
                have hky : (ks.map txt)[k]? = some (txt y) := by simp [hy]
                have HAR := Lib.hid (armsS_take cs (ks.map txt) k cc (txt y) hcc hky)
                have HKX := Lib.hid (show (kidsS (ks.map txt))[k]? = some (txt y) by rw [kidsS, List.getElem?_append_left (by simp; omega)]; exact hky)
                have kk := HCY.out k (txt y) (by rw [kidsS, List.getElem?_append_left (by simp; omega)]; exact hky)
                have kk' : Y.cell? ((⟨g, 0, none⟩ : Addr).add k) = some (.string (str (txt y))) := by
                  have hadd : (⟨g, 0, none⟩ : Addr).add k = ⟨g, k, none⟩ := by unfold Addr.add; split <;> simp_all
                  rw [hadd]; exact kk
                obtain ⟨A9, c9, e9, _, _, he9⟩ := HSY.out
                obtain ⟨L9, hE9, hR9⟩ := he9 k cc hcc
                obtain ⟨rfl, _⟩ := hR9
                injection e9 with e9 e10 e11
                clear e10 e11
                obtain ⟨a9, ea9, _, hzc, q9z⟩ := elem1 hE9
                rw [ea9] at e9
                subst e9
                simp only [Nat.mul_one] at q9z hzc
                have q9 := (HY.out.cell (p := a9.add k) hzc).trans q9z
                clear q9z
                have hsum : (str cc).size + 4 + (str (txt y)).size ≤ 10000000 := by rw [str_size, str_size]; omega
                have q1 : ¬ 9223372036854775807 < (str cc).size + 4 := by omega
                have q2 : ¬ 9223372036854775807 < (str cc).size + 4 + (str (txt y)).size := by omega
                have HXL := Lib.hid (show (cc ++ [32, 45, 62, 32] ++ txt y).length ≤ maxLen by simp only [List.length_append, List.length_cons, List.length_nil]; unfold maxLen; omega)
                have HAL := Lib.hid (show (armsS (cs.take k) ((ks.map txt).take k)).length ≤ 2097152 by have := armsS_len (cs.take k) ((ks.map txt).take k); rw [List.length_take] at this; omega)
                clear hy hcc hky hE9 he9 ea9
                go_wp2_with fail
                refine wp_region_held_drew (S := (fun W => W.cell? ⟨w.heap.size, 3, none⟩ = some (.slice (some a9) cs.length c2) ∧ W.cell? ⟨g, k, none⟩ = some (.string (str (txt y))) ∧ W.cell? (a9.add k) = some (.string (str cc)))) (by kernel_rfl) ?_ (fun hHeld => ?_)
                · (try dsimp only); go_keep
                refine take_at 0 (v := ?_) rfl (by kernel_rfl) (by kernel_rfl) (by kernel_rfl) (fun _ _ _ h => h) (by rfl) ?_ (by assumption) ?_
                rotate_left
                · intro w hSw; (try dsimp only at hSw); go_simp; (try rw [if_neg (by assumption)]); (try rw [if_pos (by omega)]); (try simp only [hSw]); (try with_reducible rfl)
                try simp only [Act.put, List.setIfInBounds_toArray, List.set_cons_zero, List.set_cons_succ]
                refine take_at 1 (v := ?_) rfl (by kernel_rfl) (by kernel_rfl) (by kernel_rfl) (fun _ _ _ h => h) (by rfl) ?_ (by assumption) ?_
                rotate_left
                · intro w hSw; (try dsimp only at hSw); go_simp; (try rw [if_neg (by assumption)]); (try rw [if_pos (by omega)]); (try simp only [hSw]); (try with_reducible rfl)
                try simp only [Act.put, List.setIfInBounds_toArray, List.set_cons_zero, List.set_cons_succ]
                refine take_at 2 (v := ?_) rfl (by kernel_rfl) (by kernel_rfl) (by kernel_rfl) (fun _ _ _ h => h) (by rfl) ?_ (by assumption) ?_
                rotate_left
                · intro w hSw; (try dsimp only at hSw); go_simp; (try rw [if_neg (by assumption)]); (try rw [if_pos (by omega)]); (try simp only [hSw]); (try with_reducible rfl)
                try simp only [Act.put, List.setIfInBounds_toArray, List.set_cons_zero, List.set_cons_succ]
                refine take_at 3 (v := ?_) rfl (by kernel_rfl) (by kernel_rfl) (by kernel_rfl) (fun _ _ _ h => h) (by rfl) ?_ (by assumption) ?_
                rotate_left
                · intro w hSw; (try dsimp only at hSw); go_simp; (try rw [if_neg (by assumption)]); (try rw [if_pos (by omega)]); (try simp only [hSw]); (try with_reducible rfl)
                try simp only [Act.put, List.setIfInBounds_toArray, List.set_cons_zero, List.set_cons_succ]
                refine take_at 4 (v := ?_) rfl (by kernel_rfl) (by kernel_rfl) (by kernel_rfl) (fun _ _ _ h => h) (by rfl) ?_ (by assumption) ?_
                rotate_left
                · intro w hSw; (try dsimp only at hSw); go_simp; (try rw [if_neg (by assumption)]); (try rw [if_pos (by omega)]); (try simp only [hSw]); (try with_reducible rfl)
                try simp only [Act.put, List.setIfInBounds_toArray, List.set_cons_zero, List.set_cons_succ]
                refine take_at 5 (v := ?_) rfl (by kernel_rfl) (by kernel_rfl) (by kernel_rfl) (fun _ _ _ h => h) (by rfl) ?_ (by assumption) ?_
                rotate_left
                · intro w hSw; (try dsimp only at hSw); go_simp; (try rw [if_neg (by assumption)]); (try rw [if_pos (by omega)]); (try simp only [hSw]); (try with_reducible rfl)
                try simp only [Act.put, List.setIfInBounds_toArray, List.set_cons_zero, List.set_cons_succ]
                refine take_at 6 (v := ?_) rfl (by kernel_rfl) (by kernel_rfl) (by kernel_rfl) (fun _ _ _ h => h) (by rfl) ?_ (by assumption) ?_
                rotate_left
                · intro w hSw; (try dsimp only at hSw); go_simp; (try rw [if_neg (by assumption)]); (try rw [if_pos (by omega)]); (try simp only [hSw]); (try with_reducible rfl)
                try simp only [Act.put, List.setIfInBounds_toArray, List.set_cons_zero, List.set_cons_succ]
                refine take_at 7 (v := ?_) rfl (by kernel_rfl) (by kernel_rfl) (by kernel_rfl) (fun _ _ _ h => h) (by rfl) ?_ (by assumption) ?_
                rotate_left
                · intro w hSw; (try dsimp only at hSw); go_simp; (try rw [if_neg (by assumption)]); (try rw [if_pos (by omega)]); (try simp only [hSw]); (try with_reducible rfl)
                try simp only [Act.put, List.setIfInBounds_toArray, List.set_cons_zero, List.set_cons_succ]
                refine take_at 8 (v := ?_) rfl (by kernel_rfl) (by kernel_rfl) (by kernel_rfl) (fun _ _ _ h => h) (by rfl) ?_ (by assumption) ?_
                rotate_left
                · intro w hSw; (try dsimp only at hSw); go_simp; (try rw [if_neg (by assumption)]); (try rw [if_pos (by omega)]); (try simp only [hSw]); (try with_reducible rfl)
                try simp only [Act.put, List.setIfInBounds_toArray, List.set_cons_zero, List.set_cons_succ]
                refine take_at 9 (v := ?_) rfl (by kernel_rfl) (by kernel_rfl) (by kernel_rfl) (fun _ _ _ h => h) (by rfl) ?_ (by assumption) ?_
                rotate_left
                · intro w hSw; (try dsimp only at hSw); go_simp; (try rw [if_neg (by assumption)]); (try rw [if_pos (by omega)]); (try simp only [hSw]); (try with_reducible rfl)
                try simp only [Act.put, List.setIfInBounds_toArray, List.set_cons_zero, List.set_cons_succ]
                refine take_at 10 (v := ?_) rfl (by kernel_rfl) (by kernel_rfl) (by kernel_rfl) (fun _ _ _ h => h) (by rfl) ?_ (by assumption) ?_
                rotate_left
                · intro w hSw; (try dsimp only at hSw); go_simp; (try rw [if_neg (by assumption)]); (try rw [if_pos (by omega)]); (try simp only [hSw]); (try with_reducible rfl)
                try simp only [Act.put, List.setIfInBounds_toArray, List.set_cons_zero, List.set_cons_succ]
                refine take_at 11 (v := ?_) rfl (by kernel_rfl) (by kernel_rfl) (by kernel_rfl) (fun _ _ _ h => h) (by rfl) ?_ (by assumption) ?_
                rotate_left
                · intro w hSw; (try dsimp only at hSw); go_simp; (try rw [if_neg (by assumption)]); (try rw [if_pos (by omega)]); (try simp only [hSw]); (try with_reducible rfl)
                try simp only [Act.put, List.setIfInBounds_toArray, List.set_cons_zero, List.set_cons_succ]
                refine only_at 12 (by kernel_rfl) rfl (fun K hK => ?_)
                go_simp
                refine hK.out _ _ ?_ (fun hHeld => ?_)
                · (try dsimp only); go_keep
                clear hK K
                try simp only [Act.put, List.setIfInBounds_toArray, List.set_cons_zero, List.set_cons_succ]
                refine only_at 13 (by kernel_rfl) rfl (fun K hK => ?_)
                (refine step_str rfl _ _ rfl rfl rfl (heap_alloc_new Y.drew _) ((OwnS.drew HO.out).alloc _) HXL.out HAL.out ?_ ?_
                 · first | omega | (simp; omega)
                 intro v' w2 hap
                 obtain ⟨v2, rfl⟩ : ∃ W, W = w2 := ⟨_, rfl⟩
                 have HAP := Lib.hid hap
                 have hbz := ((Below.refl Z.heap.size Y).drew.alloc (by simp; omega) _).trans hap.2.1
                 obtain ⟨z0, z1, z2, z3, z4⟩ := row5 ((hbz.block _ hlb).trans BY.out)
                 have zk := (hbz.cell (p := ⟨g, k, none⟩) hgl).trans kk
                 have zc := (hbz.cell (p := a9.add k) hzc).trans q9
                 have HBF := Lib.hid (HY.out.trans hbz)
                 clear hap hbz)
                refine hK.out _ _ ?_ (fun hHeld => ?_)
                · (try dsimp only); go_keep
                clear hK K
                try simp only [Act.put, List.setIfInBounds_toArray, List.set_cons_zero, List.set_cons_succ]
                refine take_at 14 (v := ?_) rfl (by kernel_rfl) (by kernel_rfl) (by kernel_rfl) (fun _ _ _ h => h) (by rfl) ?_ (by assumption) ?_
                rotate_left
                · intro w hSw; (try dsimp only at hSw); go_simp; (try rw [if_neg (by assumption)]); (try rw [if_pos (by omega)]); (try simp only [hSw]); (try with_reducible rfl)
                try simp only [Act.put, List.setIfInBounds_toArray, List.set_cons_zero, List.set_cons_succ]
                refine wpAnyH_done (by kernel_rfl) ?_ _
                go_wp2_with fail
                go_roundg (min ks.length cs.length - (k + 1))
                case measure => have := HK2.out; omega
                case rel => exact ⟨k + 1, by omega, by go_num, by rw [HAR.out]; exact HAP.out.1, HBF.out⟩
              · have HAR := Lib.hid (armsS_over cs (ks.map txt) k (by rw [List.length_map]; omega))
                have hst := HO.out.strs
                rw [HAR.out] at hst
                have HPAD := Lib.hid (fun n => rPad124 hst (by rw [← str_size]; omega) n)
                obtain ⟨A9, n9, c9, rfl, hn9⟩ := HO.out.shape
                clear hn9
                clear hst
                by_cases hl1 : k < ks.length
                · have hl2 : ¬ k < cs.length := fun h => hlt ⟨hl1, h⟩
                  clear hlt
                  go_wp2_with fail
                  go_quiet ((go_at_call 24; exact Calls.quiet_of_same (HPAD.out _)))
                  go_wp2_with fail
                  go_ret
                  exact ⟨ret_strB (by rw [HR.out]; simp only [lit_str, str_append']; rfl), HW.out.trans (below_drewN (HY.out.mono hszw) _)⟩
                · clear hlt
                  go_wp2_with fail
                  go_quiet ((go_at_call 24; exact Calls.quiet_of_same (HPAD.out _)))
                  go_wp2_with fail
                  go_ret
                  exact ⟨ret_strB (by rw [HR.out]; simp only [lit_str, str_append']; rfl), HW.out.trans (below_drewN (HY.out.mono hszw) _)⟩
end Go.Proofs.YtjelhdjckdcbaaaGreatDoor
namespace Go.Proofs.YtjelhdjckdcbaaaGreatDoor
open Go.RowKit

set_option maxHeartbeats 4000000 in
set_option maxRecDepth 100000 in
theorem show_g {w0 : World} (htab : Tab w0) {op n : Int} {nm : Tx} {cs : List Tx} {ks : List Ex} {cv : Value} {A : Option Addr} {c : Nat} {C : Nat → List Value} (hop : i64B op) (hnm : nm.length ≤ maxLen) (hn : i64B n) (hcs : StrsAt w0 cv cs) (hl : ks.length ≤ c) (hc : c ≤ maxLen)
    (hk : ∀ (i : Nat) k, ks[i]? = some k → ElemAt w0 A i (C i)) (hx : ∀ (i : Nat) k, ks[i]? = some k → ExAt w0 (C i) k) (ih : ∀ (i : Nat) k, ks[i]? = some k → ShowC w0 (C i) k) (hops : op = 13) : ShowC w0 [.int .i64 op, .string (str nm), .int .i64 n, cv, .slice A ks.length c] (.mk op nm n cs ks) := by
  intro hwx w hb
  have HOPS := Lib.hid hops
  clear hops
  have hI : i64x (.mk op nm n cs ks) := (ExAt.mk hop hnm hn hcs hl hc hk hx).i64
  have HR := Lib.hid (show txt (.mk op nm n cs ks) = showS op nm n cs (ks.map txt) from (showS_X op nm n cs ks).symm)
  have HTOT := Lib.hid (show (showS op nm n cs (ks.map txt)).length ≤ 6291456 by have := txt_len hI; rw [HR.out] at this; omega)
  have HWK := Lib.hid (show ∀ k ∈ ks, wX k ≤ 1048576 ∧ (txt k).length ≤ 6291456 by
    intro k hk'
    have h1 := wX_kid (op := op) (n := n) (nm := nm) (cs := cs) hk'
    obtain ⟨i, hi⟩ := List.getElem?_of_mem hk'
    have h2 := txt_len (hx i k hi).i64
    omega)
  have hlk : ks.length ≤ 1048576 := by
    have := len_wXs ks
    rw [wX] at hwx
    omega
  have HB := Lib.hid hb
  have HOP := Lib.hid hop
  have HN := Lib.hid hn
  have HNM := Lib.hid hnm
  have HCS := Lib.hid hcs
  have HTB := Lib.hid htab
  have hsz0 := hb.size
  have HWC := Lib.hid (show ∀ c ∈ cs, c.length ≤ 1048576 by
    intro c hc'
    have h1 := wL_mem (f := fun x : Tx => x.length + 1) hc'
    rw [← wN_L] at h1
    rw [wX] at hwx
    omega)
  obtain ⟨A2, c2, rfl, hlc2, hmc2, hec2⟩ := hcs
  have hlc3 : cs.length ≤ 9223372036854775807 := by unfold maxLen at hmc2; omega
  clear hop hn hb hl hnm hI hwx htab hlc2 hmc2 hec2
  go_enter Tryz.func12, Tryz.ntmps12
  go_wp2_with fail
  go_loopg [3, 4] ks.length (fun g s v wr => ∃ k : Nat, k + g = ks.length ∧ v = .int .i64 k ∧ OwnS w.heap.size wr s ((ks.take k).map txt) ∧ Below w.heap.size w wr ∧ wr.heap[w.heap.size]? = some (.cells #[.int .i64 op, .string (str nm), .int .i64 n, .slice A2 cs.length c2, .slice A ks.length c] 25 (0, 0)))
  case atStart => exact ⟨0, by omega, rfl, OwnS.nil _ _, (Below.refl _ _).alloc (Nat.le_refl _) _, heap_alloc_new w _⟩
  case round =>
    obtain ⟨k, hkg, rfl, ho, hbw, hbox⟩ := hrel
    obtain ⟨wn, rfl⟩ : ∃ W, W = wr := ⟨_, rfl⟩
    have HX := Lib.hid hbox
    obtain ⟨b0, b1, b2, b3, b4⟩ := row5 hbox
    have hlb := lt_of_heap hbox
    have HK := Lib.hid hkg
    have HW := Lib.hid hbw
    have HO := Lib.hid ho
    have hszw := hbw.size
    have hkl : k ≤ ks.length := by omega
    clear hkg hbw hbox ho
    by_cases hlt : k < ks.length
    · obtain ⟨y, hy⟩ : ∃ y, ks[k]? = some y := ⟨_, List.getElem?_eq_getElem hlt⟩
      have hC := hk k y hy
      have hih := Lib.hid (ih k y hy (HWK.out y (List.mem_of_getElem? hy)).1)
      have hxk := hx k y hy
      have HS := Lib.hid (show (ks.take (k + 1)).map txt = (ks.take k).map txt ++ [txt y] by rw [take_snoc hy]; simp)
      have HTY := Lib.hid (show (txt y).length ≤ maxLen by have := (HWK.out y (List.mem_of_getElem? hy)).2; unfold maxLen; omega)
      have HLN := Lib.hid (show ((ks.take k).map txt).length ≤ 2097152 by simp; omega)
      obtain ⟨o1, s1, n1, A1, m1, k1, A2, m2, k2, hL⟩ := hxk.shape
      generalize C k = L at hC hih hxk hL
      subst hL
      clear hy hxk hk hx ih hc
      have hB0 := Lib.hid ((HB.out.trans (HW.out.mono hsz0)))
      obtain ⟨a, rfl, ha, haa, d0, d1, d2, d3, d4⟩ := elem5 (hC.under hB0.out)
      clear hC
      go_wp2_with (first
        | (go_at_call 12
           (with_reducible refine (hih.out _ hB0.out).mono ?_)
           rintro e w1 ⟨rfl, hb1⟩
           obtain ⟨v1, rfl⟩ : ∃ W, W = w1 := ⟨_, rfl⟩
           have HO1 := Lib.hid (HO.out.under hb1)
           have HW1 := Lib.hid (HW.out.trans (hb1.mono hszw))
           have HX1 := Lib.hid (box_next hb1 HX.out)
           have hs1 := HW1.out.size
           clear hb1)
        | (at_builtin; refine append_str rfl _ _ rfl rfl rfl (heap_alloc_new v1 _) (HO1.out.alloc _) HTY.out HLN.out ?_ ?_; (first | omega | (simp; omega)); (intro v' w2 hap; obtain ⟨v2, rfl⟩ : ∃ W, W = w2 := ⟨_, rfl⟩; have HAP := Lib.hid hap; clear hap)))
      go_roundg (ks.length - (k + 1))
      case measure => have := HK.out; omega
      case rel => exact ⟨k + 1, by omega, by go_num, by rw [HS.out]; exact HAP.out.1, (HW1.out.alloc (by omega) _).trans HAP.out.2.1, HAP.out.2.2 _ _ _ (by decide) (heap_one' HX1.out _)⟩
    · have hke : k = ks.length := by omega
      have HO2 := Lib.hid (own_all hke HO.out)
      have HCC := Lib.hid hc
      clear hke hk hx ih hc
      go_wp2_with fail
      go_loopg [3] (3 - ks.length) (fun g s wr => ∃ j : Nat, j + g = 3 - ks.length ∧ OwnS w.heap.size wr s (ks.map txt ++ List.replicate j [63]) ∧ Below w.heap.size w wr ∧ wr.heap[w.heap.size]? = some (.cells #[.int .i64 op, .string (str nm), .int .i64 n, .slice A2 cs.length c2, .slice A ks.length c] 25 (0, 0)))
      case atStart => exact ⟨0, by omega, HO2.out, HW.out, HX.out⟩
      case round =>
        clear HO HO2 HK HW HX hszw hkl hlb b0 b1 b2 b3 b4 hlt
        obtain ⟨j, hkg, ho, hbw, hbox⟩ := hrel
        obtain ⟨Z, rfl⟩ : ∃ W, W = wr := ⟨_, rfl⟩
        have HX := Lib.hid hbox
        obtain ⟨b0, b1, b2, b3, b4⟩ := row5 hbox
        have hlb := lt_of_heap hbox
        have HK := Lib.hid hkg
        have HW := Lib.hid hbw
        have hszw := hbw.size
        by_cases hlt3 : j < 3 - ks.length
        · have HO := Lib.hid ho
          obtain ⟨A3, n3, c3, rfl, hn3⟩ := ho.shape
          have hn3' : n3 < 3 := by rw [hn3]; simp; omega
          have H63 := Lib.hid (show ([63] : Tx).length ≤ maxLen by unfold maxLen; decide)
          have HLN := Lib.hid (show (ks.map txt ++ List.replicate j [63]).length ≤ 2097152 by simp; omega)
          clear hkg hbw hbox ho hn3
          go_wp2_with (at_builtin; refine append_str rfl _ _ rfl rfl rfl (heap_alloc_new Z _) (HO.out.alloc _) H63.out HLN.out ?_ ?_; (first | omega | (simp; omega)); (intro v' w2 hap; obtain ⟨v2, rfl⟩ : ∃ W, W = w2 := ⟨_, rfl⟩; have HAP := Lib.hid hap; clear hap))
          go_roundg (3 - ks.length - (j + 1))
          case measure => have := HK.out; omega
          case rel => exact ⟨j + 1, by omega, by rw [List.replicate_succ', ← List.append_assoc]; exact HAP.out.1, (HW.out.alloc (by omega) _).trans HAP.out.2.1, HAP.out.2.2 _ _ _ (by decide) (heap_one' HX.out _)⟩
        · have hje : j = 3 - (ks.map txt).length := by simp; omega
          have ho' := own_kids hje ho
          have hk3 := (kidsS_len (ks.map txt)).1
          have hkn := (kidsS_len (ks.map txt)).2
          rw [List.length_map] at hkn
          obtain ⟨g, cap, rfl, hcap, hm, hg, hgl, hcells⟩ := ho'.row (by intro h; rw [h] at hk3; simp at hk3)
          have k0 := hcells 0 _ (kidsS_get _ (by omega))
          have k1 := hcells 1 _ (kidsS_get _ (by omega))
          have k2 := hcells 2 _ (kidsS_get _ (by omega))
          have HCELL := Lib.hid hcells
          have HHM := Lib.hid hm
          have HGG := Lib.hid hg
          have hm2 : cap ≤ 9223372036854775807 := by unfold maxLen at hm; omega
          generalize (kidsS (ks.map txt)).length = N3 at *
          clear hkg hbw hbox ho ho' hje hcells hm hg hlt3
          have HBZ := Lib.hid (HB.out.trans (HW.out.mono hsz0))
          have hops := HOPS.out
          subst hops
          · have ht : 5 + 1 + (str nm).size + 2 + (str (padL [124] (armsS cs (ks.map txt)))).size + 2 ≤ 6291456 := by have := HTOT.out; simp only [showS, matchT, Int.reduceEq, if_true, if_false, List.length_append, List.length_cons, List.length_nil] at this; simp only [str_size]; omega
            go_wp2_with fail
            go_loopg [6, 7] (min ks.length cs.length) (fun g s v wr => ∃ k : Nat, k + g = min ks.length cs.length ∧ v = .int .i64 k ∧ OwnS Z.heap.size wr s (armsS (cs.take k) ((ks.map txt).take k)) ∧ Below Z.heap.size Z wr)
            case atStart => exact ⟨0, by omega, rfl, by simpa [armsS] using OwnS.nil _ _, Below.refl _ _⟩
            case round =>
              obtain ⟨k, hkg, rfl, ho, hbw⟩ := hrel
              obtain ⟨Y, rfl⟩ : ∃ W, W = wr := ⟨_, rfl⟩
              have HK2 := Lib.hid hkg
              have HY := Lib.hid hbw
              have HO := Lib.hid ho
              have hszy := hbw.size
              clear b0 b1 b2 b3 b4 k0 k1 k2
              have BY := Lib.hid (box_next hbw HX.out)
              obtain ⟨b0, b1, b2, b3, b4⟩ := row5 BY.out
              have HCY := Lib.hid (HCELL.out.under hgl hbw)
              have HSY := Lib.hid (HCS.out.under HBZ.out)
              have hkm : k ≤ ks.length := by omega
              have hkc : k ≤ cs.length := by omega
              clear hkg hbw ho
              by_cases hlt : k < ks.length ∧ k < cs.length
              · obtain ⟨hl1, hl2⟩ := hlt
                obtain ⟨y, hy⟩ : ∃ y, ks[k]? = some y := ⟨_, List.getElem?_eq_getElem hl1⟩
                obtain ⟨cc, hcc⟩ : ∃ y, cs[k]? = some y := ⟨_, List.getElem?_eq_getElem hl2⟩
                have hcl := HWC.out cc (List.mem_of_getElem? hcc)
                have hyl := (HWK.out y (List.mem_of_getElem? hy)).2
                have hky : (ks.map txt)[k]? = some (txt y) := by simp [hy]
                have HAR := Lib.hid (armsS_take cs (ks.map txt) k cc (txt y) hcc hky)
                have HKX := Lib.hid (show (kidsS (ks.map txt))[k]? = some (txt y) by rw [kidsS, List.getElem?_append_left (by simp; omega)]; exact hky)
                have kk := HCY.out k (txt y) (by rw [kidsS, List.getElem?_append_left (by simp; omega)]; exact hky)
                have kk' : Y.cell? ((⟨g, 0, none⟩ : Addr).add k) = some (.string (str (txt y))) := by
                  have hadd : (⟨g, 0, none⟩ : Addr).add k = ⟨g, k, none⟩ := by unfold Addr.add; split <;> simp_all
                  rw [hadd]; exact kk
                obtain ⟨A9, c9, e9, _, _, he9⟩ := HSY.out
                obtain ⟨L9, hE9, hR9⟩ := he9 k cc hcc
                obtain ⟨rfl, _⟩ := hR9
                injection e9 with e9 e10 e11
                clear e10 e11
                obtain ⟨a9, ea9, _, hzc, q9z⟩ := elem1 hE9
                rw [ea9] at e9
                subst e9
                simp only [Nat.mul_one] at q9z hzc
                have q9 := (HY.out.cell (p := a9.add k) hzc).trans q9z
                clear q9z
                have hsum : (str cc).size + 4 + (str (txt y)).size ≤ 10000000 := by rw [str_size, str_size]; omega
                have q1 : ¬ 9223372036854775807 < (str cc).size + 4 := by omega
                have q2 : ¬ 9223372036854775807 < (str cc).size + 4 + (str (txt y)).size := by omega
                have HXL := Lib.hid (show (cc ++ [32, 45, 62, 32] ++ txt y).length ≤ maxLen by simp only [List.length_append, List.length_cons, List.length_nil]; unfold maxLen; omega)
                have HAL := Lib.hid (show (armsS (cs.take k) ((ks.map txt).take k)).length ≤ 2097152 by have := armsS_len (cs.take k) ((ks.map txt).take k); rw [List.length_take] at this; omega)
                clear hy hcc hky hE9 he9 ea9
                go_wp2_with fail
                refine wp_region_held_drew (S := (fun W => W.cell? ⟨w.heap.size, 3, none⟩ = some (.slice (some a9) cs.length c2) ∧ W.cell? ⟨g, k, none⟩ = some (.string (str (txt y))) ∧ W.cell? (a9.add k) = some (.string (str cc)))) (by kernel_rfl) ?_ (fun hHeld => ?_)
                · (try dsimp only); go_keep
                refine take_at 0 (v := ?_) rfl (by kernel_rfl) (by kernel_rfl) (by kernel_rfl) (fun _ _ _ h => h) (by rfl) ?_ (by assumption) ?_
                rotate_left
                · intro w hSw; (try dsimp only at hSw); go_simp; (try rw [if_neg (by assumption)]); (try rw [if_pos (by omega)]); (try simp only [hSw]); (try with_reducible rfl)
                try simp only [Act.put, List.setIfInBounds_toArray, List.set_cons_zero, List.set_cons_succ]
                refine take_at 1 (v := ?_) rfl (by kernel_rfl) (by kernel_rfl) (by kernel_rfl) (fun _ _ _ h => h) (by rfl) ?_ (by assumption) ?_
                rotate_left
                · intro w hSw; (try dsimp only at hSw); go_simp; (try rw [if_neg (by assumption)]); (try rw [if_pos (by omega)]); (try simp only [hSw]); (try with_reducible rfl)
                try simp only [Act.put, List.setIfInBounds_toArray, List.set_cons_zero, List.set_cons_succ]
                refine take_at 2 (v := ?_) rfl (by kernel_rfl) (by kernel_rfl) (by kernel_rfl) (fun _ _ _ h => h) (by rfl) ?_ (by assumption) ?_
                rotate_left
                · intro w hSw; (try dsimp only at hSw); go_simp; (try rw [if_neg (by assumption)]); (try rw [if_pos (by omega)]); (try simp only [hSw]); (try with_reducible rfl)
                try simp only [Act.put, List.setIfInBounds_toArray, List.set_cons_zero, List.set_cons_succ]
                refine take_at 3 (v := ?_) rfl (by kernel_rfl) (by kernel_rfl) (by kernel_rfl) (fun _ _ _ h => h) (by rfl) ?_ (by assumption) ?_
                rotate_left
                · intro w hSw; (try dsimp only at hSw); go_simp; (try rw [if_neg (by assumption)]); (try rw [if_pos (by omega)]); (try simp only [hSw]); (try with_reducible rfl)
                try simp only [Act.put, List.setIfInBounds_toArray, List.set_cons_zero, List.set_cons_succ]
                refine take_at 4 (v := ?_) rfl (by kernel_rfl) (by kernel_rfl) (by kernel_rfl) (fun _ _ _ h => h) (by rfl) ?_ (by assumption) ?_
                rotate_left
                · intro w hSw; (try dsimp only at hSw); go_simp; (try rw [if_neg (by assumption)]); (try rw [if_pos (by omega)]); (try simp only [hSw]); (try with_reducible rfl)
                try simp only [Act.put, List.setIfInBounds_toArray, List.set_cons_zero, List.set_cons_succ]
                refine take_at 5 (v := ?_) rfl (by kernel_rfl) (by kernel_rfl) (by kernel_rfl) (fun _ _ _ h => h) (by rfl) ?_ (by assumption) ?_
                rotate_left
                · intro w hSw; (try dsimp only at hSw); go_simp; (try rw [if_neg (by assumption)]); (try rw [if_pos (by omega)]); (try simp only [hSw]); (try with_reducible rfl)
                try simp only [Act.put, List.setIfInBounds_toArray, List.set_cons_zero, List.set_cons_succ]
                refine take_at 6 (v := ?_) rfl (by kernel_rfl) (by kernel_rfl) (by kernel_rfl) (fun _ _ _ h => h) (by rfl) ?_ (by assumption) ?_
                rotate_left
                · intro w hSw; (try dsimp only at hSw); go_simp; (try rw [if_neg (by assumption)]); (try rw [if_pos (by omega)]); (try simp only [hSw]); (try with_reducible rfl)
                try simp only [Act.put, List.setIfInBounds_toArray, List.set_cons_zero, List.set_cons_succ]
                refine take_at 7 (v := ?_) rfl (by kernel_rfl) (by kernel_rfl) (by kernel_rfl) (fun _ _ _ h => h) (by rfl) ?_ (by assumption) ?_
                rotate_left
                · intro w hSw; (try dsimp only at hSw); go_simp; (try rw [if_neg (by assumption)]); (try rw [if_pos (by omega)]); (try simp only [hSw]); (try with_reducible rfl)
                try simp only [Act.put, List.setIfInBounds_toArray, List.set_cons_zero, List.set_cons_succ]
                refine take_at 8 (v := ?_) rfl (by kernel_rfl) (by kernel_rfl) (by kernel_rfl) (fun _ _ _ h => h) (by rfl) ?_ (by assumption) ?_
                rotate_left
                · intro w hSw; (try dsimp only at hSw); go_simp; (try rw [if_neg (by assumption)]); (try rw [if_pos (by omega)]); (try simp only [hSw]); (try with_reducible rfl)
                try simp only [Act.put, List.setIfInBounds_toArray, List.set_cons_zero, List.set_cons_succ]
                refine take_at 9 (v := ?_) rfl (by kernel_rfl) (by kernel_rfl) (by kernel_rfl) (fun _ _ _ h => h) (by rfl) ?_ (by assumption) ?_
                rotate_left
                · intro w hSw; (try dsimp only at hSw); go_simp; (try rw [if_neg (by assumption)]); (try rw [if_pos (by omega)]); (try simp only [hSw]); (try with_reducible rfl)
                try simp only [Act.put, List.setIfInBounds_toArray, List.set_cons_zero, List.set_cons_succ]
                refine take_at 10 (v := ?_) rfl (by kernel_rfl) (by kernel_rfl) (by kernel_rfl) (fun _ _ _ h => h) (by rfl) ?_ (by assumption) ?_
                rotate_left
                · intro w hSw; (try dsimp only at hSw); go_simp; (try rw [if_neg (by assumption)]); (try rw [if_pos (by omega)]); (try simp only [hSw]); (try with_reducible rfl)
                try simp only [Act.put, List.setIfInBounds_toArray, List.set_cons_zero, List.set_cons_succ]
                refine take_at 11 (v := ?_) rfl (by kernel_rfl) (by kernel_rfl) (by kernel_rfl) (fun _ _ _ h => h) (by rfl) ?_ (by assumption) ?_
                rotate_left
                · intro w hSw; (try dsimp only at hSw); go_simp; (try rw [if_neg (by assumption)]); (try rw [if_pos (by omega)]); (try simp only [hSw]); (try with_reducible rfl)
                try simp only [Act.put, List.setIfInBounds_toArray, List.set_cons_zero, List.set_cons_succ]
                refine only_at 12 (by kernel_rfl) rfl (fun K hK => ?_)
                go_simp
                refine hK.out _ _ ?_ (fun hHeld => ?_)
                · (try dsimp only); go_keep
                clear hK K
                try simp only [Act.put, List.setIfInBounds_toArray, List.set_cons_zero, List.set_cons_succ]
                refine only_at 13 (by kernel_rfl) rfl (fun K hK => ?_)
                (refine step_str rfl _ _ rfl rfl rfl (heap_alloc_new Y.drew _) ((OwnS.drew HO.out).alloc _) HXL.out HAL.out ?_ ?_
                 · first | omega | (simp; omega)
                 intro v' w2 hap
                 obtain ⟨v2, rfl⟩ : ∃ W, W = w2 := ⟨_, rfl⟩
                 have HAP := Lib.hid hap
                 have hbz := ((Below.refl Z.heap.size Y).drew.alloc (by simp; omega) _).trans hap.2.1
                 obtain ⟨z0, z1, z2, z3, z4⟩ := row5 ((hbz.block _ hlb).trans BY.out)
                 have zk := (hbz.cell (p := ⟨g, k, none⟩) hgl).trans kk
                 have zc := (hbz.cell (p := a9.add k) hzc).trans q9
                 have HBF := Lib.hid (HY.out.trans hbz)
                 clear hap hbz)
                refine hK.out _ _ ?_ (fun hHeld => ?_)
                · (try dsimp only); go_keep
                clear hK K
                try simp only [Act.put, List.setIfInBounds_toArray, List.set_cons_zero, List.set_cons_succ]
                refine take_at 14 (v := ?_) rfl (by kernel_rfl) (by kernel_rfl) (by kernel_rfl) (fun _ _ _ h => h) (by rfl) ?_ (by assumption) ?_
                rotate_left
                · intro w hSw; (try dsimp only at hSw); go_simp; (try rw [if_neg (by assumption)]); (try rw [if_pos (by omega)]); (try simp only [hSw]); (try with_reducible rfl)
                try simp only [Act.put, List.setIfInBounds_toArray, List.set_cons_zero, List.set_cons_succ]
                refine wpAnyH_done (by kernel_rfl) ?_ _
                go_wp2_with fail
                go_roundg (min ks.length cs.length - (k + 1))
                case measure => have := HK2.out; omega
                case rel => exact ⟨k + 1, by omega, by go_num, by rw [HAR.out]; exact HAP.out.1, HBF.out⟩
              · have HAR := Lib.hid (armsS_over cs (ks.map txt) k (by rw [List.length_map]; omega))
                have hst := HO.out.strs
                rw [HAR.out] at hst
                have HPAD := Lib.hid (fun n => rPad124 hst (by rw [← str_size]; omega) n)
                obtain ⟨A9, n9, c9, rfl, hn9⟩ := HO.out.shape
                clear hn9
                clear hst
                by_cases hl1 : k < ks.length
                · have hl2 : ¬ k < cs.length := fun h => hlt ⟨hl1, h⟩
                  clear hlt
                  go_wp2_with fail
                  go_quiet ((go_at_call 24; exact Calls.quiet_of_same (HPAD.out _)))
                  go_wp2_with fail
                  go_ret
                  exact ⟨ret_strB (by rw [HR.out]; simp only [lit_str, str_append']; rfl), HW.out.trans (below_drewN (HY.out.mono hszw) _)⟩
                · clear hlt
                  go_wp2_with fail
                  go_quiet ((go_at_call 24; exact Calls.quiet_of_same (HPAD.out _)))
                  go_wp2_with fail
                  go_ret
                  exact ⟨ret_strB (by rw [HR.out]; simp only [lit_str, str_append']; rfl), HW.out.trans (below_drewN (HY.out.mono hszw) _)⟩
theorem rShow_any {w0 : World} (htab : Tab w0) {L : List Value} {x : Ex} (h : ExAt w0 L x) : ShowC w0 L x := by
  induction h with
  | @mk op nm n cs ks cv A c C hop hnm hn hcs hl hc hk hx ih =>
    rcases op_cases' op with h | h | h | h | h | h | h | h | h | h | h | h | h | h | h | ⟨h1, h2, h3, h4, h5, h6, h7, h8, h9, h10, h11, h12, h13, h14, h15⟩
    · exact show_a htab hop hnm hn hcs hl hc hk hx ih (by simp [h])
    · exact show_a htab hop hnm hn hcs hl hc hk hx ih (by simp [h])
    · exact show_a htab hop hnm hn hcs hl hc hk hx ih (by simp [h])
    · exact show_a htab hop hnm hn hcs hl hc hk hx ih (by simp [h])
    · exact show_a htab hop hnm hn hcs hl hc hk hx ih (by simp [h])
    · exact show_b htab hop hnm hn hcs hl hc hk hx ih (by simp [h])
    · exact show_b htab hop hnm hn hcs hl hc hk hx ih (by simp [h])
    · exact show_b htab hop hnm hn hcs hl hc hk hx ih (by simp [h])
    · exact show_c htab hop hnm hn hcs hl hc hk hx ih (by simp [h])
    · exact show_c htab hop hnm hn hcs hl hc hk hx ih (by simp [h])
    · exact show_e htab hop hnm hn hcs hl hc hk hx ih (by simp [h])
    · exact show_f htab hop hnm hn hcs hl hc hk hx ih h
    · exact show_g htab hop hnm hn hcs hl hc hk hx ih h
    · exact show_e htab hop hnm hn hcs hl hc hk hx ih (by simp [h])
    · exact show_c htab hop hnm hn hcs hl hc hk hx ih (by simp [h])
    · exact show_d htab hop hnm hn hcs hl hc hk hx ih h1 h2 h3 h4 h5 h6 h7 h8 h9 h10 h11 h12 h13 h14 h15
end Go.Proofs.YtjelhdjckdcbaaaGreatDoor
