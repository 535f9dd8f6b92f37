/-
  sugar.rebuilt, where nothing takes the place of an expression: it is copied, and its kids are rebuilt.
-/
import Derived.Test.YtaimagfdjbedeaaGreatDoorSugReb
namespace Go.Proofs.YtaimagfdjbedeaaGreatDoor
open Go.RowKit

/-- a row of expressions of the call's own: what the cells of each are -/
def KRow (B : Nat) (w : World) (v : Value) (n : Nat) (C : Nat → List Value) : Prop :=
  (v = .slice none 0 0 ∧ n = 0) ∨ ∃ g cap cur, v = .slice (some ⟨g, 0, none⟩) n cap ∧ B ≤ g ∧ w.heap[g]? = some (.cells cur 25 (0, 0)) ∧ n ≤ cap ∧ cap ≤ maxLen ∧ cur.size = cap * 5 ∧ ∀ (i j : Nat) u, i < n → j < 5 → (C i)[j]? = some u → cur[i * 5 + j]? = some u
theorem KRow.of_own {w0 w : World} {B : Nat} {v : Value} {ks : List Ex} (h : OwnG (ExAt w0) B 25 5 w v ks) : ∃ C : Nat → List Value, KRow B w v ks.length C ∧ ∀ (i : Nat) k, ks[i]? = some k → ExAt w0 (C i) k := by
  obtain ⟨Ls, hown, hl, hn, hr⟩ := h
  refine ⟨fun i => Ls.getD i [], ?_, fun i k hk => ?_⟩
  · rcases hown.2 with ⟨rfl, h0⟩ | ⟨g, cap, cur, rfl, hg, hh, hc, hm, hs, ht⟩
    · exact .inl ⟨rfl, h0⟩
    · refine .inr ⟨g, cap, cur, rfl, hg, hh, hc, hm, hs, fun i j u hi _ hu => ?_⟩
      have hi' : i < Ls.length := by omega
      have hL : Ls[i]? = some Ls[i] := List.getElem?_eq_getElem hi'
      have hu : Ls[i][j]? = some u := by simpa [List.getD_eq_getElem?_getD, hL] using hu
      have hlen := hn Ls[i] (List.getElem_mem hi')
      have hcell := hown.cells (g := g) rfl _ u (flatN Ls hn i j _ hL (by rw [← hlen]; exact (List.getElem?_eq_some_iff.1 hu).1) u hu)
      have hadd : (⟨g, 0, none⟩ : Addr).add (i * 5 + j) = ⟨g, i * 5 + j, none⟩ := by unfold Addr.add; split <;> simp_all
      rw [hadd, cell_of_row _ _ _ _ _ _ hh] at hcell
      exact hcell
  · have hi : i < Ls.length := by rw [hl]; exact (List.getElem?_eq_some_iff.1 hk).1
    have hL : Ls[i]? = some Ls[i] := List.getElem?_eq_getElem hi
    have := hr i _ k hL hk
    simpa [List.getD_eq_getElem?_getD, hL] using this
theorem KRow.keep {B : Nat} {w w' : World} {v : Value} {n : Nat} {C : Nat → List Value} (h : KRow B w v n C) (hk : ∀ b, B ≤ b → b < w.heap.size → w'.heap[b]? = w.heap[b]?) : KRow B w' v n C := by
  rcases h with h | ⟨g, cap, cur, rfl, hg, hh, h3⟩
  · exact .inl h
  · exact .inr ⟨g, cap, cur, rfl, hg, (hk g hg (lt_of_heap hh)).trans hh, h3⟩
theorem KRow.put {B : Nat} {w : World} {g cap n k : Nat} {C : Nat → List Value} (h : KRow B w (.slice (some ⟨g, 0, none⟩) n cap) n C) (hk : k < n) (a b c d e : Value) :
    KRow B (((((w.setCell ⟨g, k * 5, none⟩ a).setCell ⟨g, k * 5 + 1, none⟩ b).setCell ⟨g, k * 5 + 2, none⟩ c).setCell ⟨g, k * 5 + 3, none⟩ d).setCell ⟨g, k * 5 + 4, none⟩ e) (.slice (some ⟨g, 0, none⟩) n cap) n (fun i => if i = k then [a, b, c, d, e] else C i) := by
  rcases h with ⟨h, _⟩ | ⟨g', cap', cur, hv, hg, hh, hc, hm, hs, ht⟩
  · cases h
  · cases hv
    have h1 := heap_setCell_same w g (k * 5) _ _ a hh
    have h2 := heap_setCell_same _ g (k * 5 + 1) _ _ b h1
    have h3 := heap_setCell_same _ g (k * 5 + 2) _ _ c h2
    have h4 := heap_setCell_same _ g (k * 5 + 3) _ _ d h3
    have h5 := heap_setCell_same _ g (k * 5 + 4) _ _ e h4
    refine .inr ⟨g, cap, _, rfl, hg, h5, hc, hm, by simp [hs], fun i j u hi hj hu => ?_⟩
    have hsz : k * 5 + 4 < cur.size := by omega
    by_cases hik : i = k
    · subst hik
      replace hu : [a, b, c, d, e][j]? = some u := by simpa using hu
      match j, hj with
      | 0, _ =>
        simp at hu
        subst hu
        rw [show i * 5 + 0 = i * 5 by omega, Array.getElem?_setIfInBounds_ne (by omega), Array.getElem?_setIfInBounds_ne (by omega), Array.getElem?_setIfInBounds_ne (by omega), Array.getElem?_setIfInBounds_ne (by omega), Array.getElem?_setIfInBounds_self]
        exact if_pos (by first | omega | (simp only [Array.size_setIfInBounds]; omega))
      | 1, _ =>
        simp at hu
        subst hu
        rw [Array.getElem?_setIfInBounds_ne (by omega), Array.getElem?_setIfInBounds_ne (by omega), Array.getElem?_setIfInBounds_ne (by omega), Array.getElem?_setIfInBounds_self]
        exact if_pos (by first | omega | (simp only [Array.size_setIfInBounds]; omega))
      | 2, _ =>
        simp at hu
        subst hu
        rw [Array.getElem?_setIfInBounds_ne (by omega), Array.getElem?_setIfInBounds_ne (by omega), Array.getElem?_setIfInBounds_self]
        exact if_pos (by first | omega | (simp only [Array.size_setIfInBounds]; omega))
      | 3, _ =>
        simp at hu
        subst hu
        rw [Array.getElem?_setIfInBounds_ne (by omega), Array.getElem?_setIfInBounds_self]
        exact if_pos (by first | omega | (simp only [Array.size_setIfInBounds]; omega))
      | 4, _ =>
        simp at hu
        subst hu
        rw [Array.getElem?_setIfInBounds_self]
        exact if_pos (by first | omega | (simp only [Array.size_setIfInBounds]; omega))
    · replace hu : (C i)[j]? = some u := by simpa [hik] using hu
      rw [Array.getElem?_setIfInBounds_ne (by omega), Array.getElem?_setIfInBounds_ne (by omega), Array.getElem?_setIfInBounds_ne (by omega), Array.getElem?_setIfInBounds_ne (by omega), Array.getElem?_setIfInBounds_ne (by omega)]
      exact ht i j u hi hj hu
theorem KRow.cells {B : Nat} {w : World} {A : Option Addr} {cap n k : Nat} {C : Nat → List Value} {a b c d e : Value} (h : KRow B w (.slice A n cap) n C) (hk : k < n) (hC : C k = [a, b, c, d, e]) :
    ∃ g cur, A = some ⟨g, 0, none⟩ ∧ B ≤ g ∧ g < w.heap.size ∧ w.heap[g]? = some (.cells cur 25 (0, 0)) ∧ w.cell? ⟨g, k * 5, none⟩ = some a ∧ w.cell? ⟨g, k * 5 + 1, none⟩ = some b ∧ w.cell? ⟨g, k * 5 + 2, none⟩ = some c ∧ w.cell? ⟨g, k * 5 + 3, none⟩ = some d ∧ w.cell? ⟨g, k * 5 + 4, none⟩ = some e := by
  rcases h with ⟨h, h0⟩ | ⟨g', cap', cur, hv, hg, hh, hc, hm, hs, ht⟩
  · omega
  · cases hv
    have key : ∀ j u, j < 5 → (C k)[j]? = some u → w.cell? ⟨g', k * 5 + j, none⟩ = some u := fun j u hj hu => by
      rw [cell_of_row _ _ _ _ _ _ hh]
      exact ht k j u hk hj hu
    rw [hC] at key
    exact ⟨g', cur, rfl, hg, lt_of_heap hh, hh, key 0 _ (by omega) rfl, key 1 _ (by omega) rfl, key 2 _ (by omega) rfl, key 3 _ (by omega) rfl, key 4 _ (by omega) rfl⟩
theorem KRow.slice {B B' : Nat} {w : World} {A : Option Addr} {cap n : Nat} {C : Nat → List Value} {R : List Value → Ex → Prop} {ys : List Ex} (h : KRow B w (.slice A n cap) n C) (hB : B' ≤ B) (hn : ys.length = n) (hR : ∀ (i : Nat) y, ys[i]? = some y → R (C i) y) (h5 : ∀ L y, R L y → L.length = 5) :
    SliceAt (newW B' w) R (.slice A n cap) ys := by
  rcases h with ⟨h, h0⟩ | ⟨g, cap', cur, hv, hg, hh, hc, hm, hs, ht⟩
  · cases h
    have : ys = [] := List.eq_nil_of_length_eq_zero (by omega)
    subst this
    exact ⟨none, 0, rfl, Nat.le_refl _, by unfold maxLen; omega, fun i x h => by simp at h⟩
  · cases hv
    refine ⟨some ⟨g, 0, none⟩, cap, by rw [hn], by omega, hm, fun i y hy => ⟨C i, ⟨_, rfl, fun j u hu => ?_⟩, hR i y hy⟩⟩
    have hlen := h5 _ _ (hR i y hy)
    have hj : j < 5 := by rw [← hlen]; exact (List.getElem?_eq_some_iff.1 hu).1
    have hi : i < n := by rw [← hn]; exact (List.getElem?_eq_some_iff.1 hy).1
    rw [hlen, add_add, new_mk (by rw [add_block]; show B' ≤ g; omega)]
    have hadd : (⟨g, 0, none⟩ : Addr).add (i * 5 + j) = ⟨g, i * 5 + j, none⟩ := by unfold Addr.add; split <;> simp_all
    rw [hadd, cell_of_row _ _ _ _ _ _ hh]
    exact ht i j u hi hj hu
theorem OwnS.newS {B : Nat} {w : World} {v : Value} {l : List Tx} (h : OwnS B w v l) : StrsAt (newW B w) v l := by
  obtain ⟨A, c, hv, h1, h2, h3⟩ := h.strs
  subst hv
  refine ⟨A, c, rfl, h1, h2, fun i x hx => ?_⟩
  obtain ⟨L, ⟨a, ha, hc⟩, hL⟩ := h3 i x hx
  refine ⟨L, ⟨a, ha, fun j u hu => ?_⟩, hL⟩
  have hb : B ≤ a.block := by
    rcases h.1.2 with ⟨h4, _⟩ | ⟨g, cap, cur, h4, hg, _⟩
    · rw [ha] at h4; cases h4
    · rw [ha] at h4; cases h4; exact hg
  rw [new_mk (by rw [add_block, add_block]; exact hb)]
  exact hc j u hu
theorem set3_row5 {w : World} {N : Nat} {T0 : TypeId} {a b c d e : Value} (u : Value) (h : w.heap[N]? = some (.cells #[a, b, c, d, e] T0 (0, 0))) : (w.setCell ⟨N, 3, none⟩ u).heap[N]? = some (.cells #[a, b, c, u, e] T0 (0, 0)) := by simpa using heap_setCell_same w N 3 _ _ u h
theorem set4_row5 {w : World} {N : Nat} {T0 : TypeId} {a b c d e : Value} (u : Value) (h : w.heap[N]? = some (.cells #[a, b, c, d, e] T0 (0, 0))) : (w.setCell ⟨N, 4, none⟩ u).heap[N]? = some (.cells #[a, b, c, d, u] T0 (0, 0)) := by simpa using heap_setCell_same w N 4 _ _ u h
theorem cell_setG {w : World} {G k : Nat} {a : Addr} (h : a.block ≠ G) (x y z u v : Value) : (((((w.setCell ⟨G, k * 5, none⟩ x).setCell ⟨G, k * 5 + 1, none⟩ y).setCell ⟨G, k * 5 + 2, none⟩ z).setCell ⟨G, k * 5 + 3, none⟩ u).setCell ⟨G, k * 5 + 4, none⟩ v).cell? a = w.cell? a := by
  have h1 : ∀ (b : Addr) (w : World) (x : Value), b.block = G → (w.setCell b x).cell? a = w.cell? a := fun b w x hb => World.cell?_of_block (Below.heap_setCell _ _ _ _ (by rw [hb]; exact h))
  rw [h1 _ _ _ rfl, h1 _ _ _ rfl, h1 _ _ _ rfl, h1 _ _ _ rfl, h1 _ _ _ rfl]
theorem heap_setG {w : World} {G k M : Nat} (h : M ≠ G) (x y z u v : Value) : (((((w.setCell ⟨G, k * 5, none⟩ x).setCell ⟨G, k * 5 + 1, none⟩ y).setCell ⟨G, k * 5 + 2, none⟩ z).setCell ⟨G, k * 5 + 3, none⟩ u).setCell ⟨G, k * 5 + 4, none⟩ v).heap[M]? = w.heap[M]? := by
  rw [Below.heap_setCell _ _ _ _ h, Below.heap_setCell _ _ _ _ h, Below.heap_setCell _ _ _ _ h, Below.heap_setCell _ _ _ _ h, Below.heap_setCell _ _ _ _ h]
theorem below_setG {B G k : Nat} {a w : World} (h : Below B a w) (hN : B ≤ G) (x y z u v : Value) : Below B a (((((w.setCell ⟨G, k * 5, none⟩ x).setCell ⟨G, k * 5 + 1, none⟩ y).setCell ⟨G, k * 5 + 2, none⟩ z).setCell ⟨G, k * 5 + 3, none⟩ u).setCell ⟨G, k * 5 + 4, none⟩ v) :=
  ((((h.setCell hN x).setCell hN y).setCell hN z).setCell hN u).setCell hN v
theorem same_setG {B G k : Nat} {a w : World} (h : Same B a w) (hN : G < B ∨ a.heap.size ≤ G) (x y z u v : Value) : Same B a (((((w.setCell ⟨G, k * 5, none⟩ x).setCell ⟨G, k * 5 + 1, none⟩ y).setCell ⟨G, k * 5 + 2, none⟩ z).setCell ⟨G, k * 5 + 3, none⟩ u).setCell ⟨G, k * 5 + 4, none⟩ v) :=
  ((((h.set hN x).set hN y).set hN z).set hN u).set hN v
theorem ExAt.of_parts {w : World} {op n : Int} {nm : Tx} {cs : List Tx} {ks : List Ex} {cv : Value} {A : Option Addr} {m c : Nat} (h0 : i64B op ∧ nm.length ≤ maxLen ∧ i64B n) (hcs : StrsAt w cv cs) (hks : SliceAt w (ExAt w) (.slice A m c) ks) :
    ExAt w [.int .i64 op, .string (str nm), .int .i64 n, cv, .slice A m c] (.mk op nm n cs ks) := ex_node h0.1 h0.2.2 h0.2.1 hcs hks
theorem below_set1 {B N : Nat} {a w : World} (h : Below B a w) (hN : B ≤ N) (j : Nat) (x : Value) : Below B a (w.setCell ⟨N, j, none⟩ x) := h.setCell hN x
theorem heap_setCell_other (w : World) (N M j : Nat) (u : Value) (h : M ≠ N) : (w.setCell ⟨N, j, none⟩ u).heap[M]? = w.heap[M]? := Below.heap_setCell _ _ _ _ h
theorem KRow.shape {B : Nat} {w : World} {v : Value} {n : Nat} {C : Nat → List Value} (h : KRow B w v n C) : ∃ A c, v = .slice A n c := by
  rcases h with ⟨rfl, rfl⟩ | ⟨g, cap, cur, rfl, _⟩
  · exact ⟨_, _, rfl⟩
  · exact ⟨_, _, rfl⟩
set_option maxRecDepth 100000 in
set_option maxHeartbeats 8000000 in
theorem rebuilt_no {w0 : World} {g : FuncId} {cap : Array Value} {r : Ex → Option Ex} (H : RepOk w0 g cap r) {op n : Int} {nm : Tx} {cs : List Tx} {ks : List Ex} {cv : Value} {A : Option Addr} {c : Nat} {C : Nat → List Value}
    (hop : i64B op) (hnm : nm.length ≤ maxLen) (hn : i64B n) (hcs : StrsAt w0 cv cs) (hl : ks.length ≤ c) (hc : c ≤ maxLen)
    (hk : ∀ (i : Nat) k, ks[i]? = some k → ElemAt w0 A i (C i)) (hx : ∀ (i : Nat) k, ks[i]? = some k → ExAt w0 (C i) k)
    (ih : ∀ (i : Nat) k, ks[i]? = some k → ∀ L, ExAt w0 L k → ∀ w, Below w0.heap.size w0 w → Calls Tryz.prog 13 #[.agg L.toArray, .func (.func g) #[] cap] w (RebPost (rebQ r k) w))
    (hs : Slim (.mk op nm n cs ks)) (hr : r (.mk op nm n cs ks) = none) (w : World) (hb : Below w0.heap.size w0 w) :
    Calls Tryz.prog 13 #[.agg #[.int .i64 op, .string (str nm), .int .i64 n, cv, .slice A ks.length c], .func (.func g) #[] cap] w (RebPost (.mk op nm n cs (ks.map (rebQ r))) w) := by
  obtain ⟨eg, hf⟩ := H
  have HF := Lib.hid (hf _ _ (.mk hop hnm hn hcs hl hc hk hx) hs)
  rw [hr] at HF
  have HX0 := Lib.hid (show i64B op ∧ nm.length ≤ maxLen ∧ i64B n from ⟨hop, hnm, hn⟩)
  rw [Slim] at hs
  obtain ⟨hs1, hs2, _⟩ := hs
  have hsz0 := hb.size
  have HB := Lib.hid hb
  have HCS := Lib.hid hcs
  obtain ⟨A3, c3, rfl, _⟩ := hcs
  have b2 := ((Below.refl w.heap.size w).alloc (Nat.le_refl _) (.cells #[.int .i64 op, .string (str nm), .int .i64 n, .slice A3 cs.length c3, .slice A ks.length c] 25)).alloc (by simp) (.cells #[.int .i64 0, .string ⟨#[]⟩, .int .i64 0, .slice none 0 0, .slice none 0 0] 25)
  have HB2 := Lib.hid b2
  have E0 := Lib.hid (alloc_below (o := .cells #[.int .i64 0, .string ⟨#[]⟩, .int .i64 0, .slice none 0 0, .slice none 0 0] 25) (heap_alloc_new w (.cells #[.int .i64 op, .string (str nm), .int .i64 n, .slice A3 cs.length c3, .slice A ks.length c] 25)))
  have R0 := Lib.hid (alloc_at (w := w.alloc (.cells #[.int .i64 op, .string (str nm), .int .i64 n, .slice A3 cs.length c3, .slice A ks.length c] 25)) (o := .cells #[.int .i64 0, .string ⟨#[]⟩, .int .i64 0, .slice none 0 0, .slice none 0 0] 25) (n := w.heap.size + 1) (by simp))
  have HKS := Lib.hid (show ∀ W, Below w0.heap.size w0 W → SliceAt W (ExAt w0) (.slice A ks.length c) ks from fun W hW => ⟨A, c, rfl, hl, hc, fun i k hki => ⟨C i, (hk i k hki).under hW, hx i k hki⟩⟩)
  have hlm : ks.length ≤ 9223372036854775807 := by unfold maxLen at hc; omega
  clear hf hr hb b2 hk hx hop hn hnm hl hc
  go_enter Tryz.func13, Tryz.ntmps13
  go_wp2_with (first
    | (go_at_fn g
       refine (HF.out _ (HB.out.trans (HB2.out.mono hsz0))).mono ?_
       rintro e w1 ⟨hb1, rfl⟩
       unfold zeroX
       obtain ⟨V1, rfl⟩ : ∃ W, W = w1 := ⟨_, rfl⟩
       have hz1 := hb1.size
       simp at hz1
       have E1 := Lib.hid (alloc_below (o := .cells #[.int .i64 0, .string ⟨#[]⟩, .int .i64 0, .slice none 0 0, .slice none 0 0] 25) (box_next hb1 E0.out))
       have R1 := Lib.hid (alloc_below (o := .cells #[.int .i64 0, .string ⟨#[]⟩, .int .i64 0, .slice none 0 0, .slice none 0 0] 25) (box_next hb1 R0.out))
       have HB1 := Lib.hid (((HB2.out.trans (hb1.mono HB2.out.size))).alloc (by omega) (.cells #[.int .i64 0, .string ⟨#[]⟩, .int .i64 0, .slice none 0 0, .slice none 0 0] 25))
       obtain ⟨p0, p1, p2, p3, p4⟩ := row5 E1.out
       clear hb1)
    | (go_at_call 24
       (with_reducible refine (clone_str (HCS.out.under (HB.out.trans (HB1.out.mono hsz0))) hs1).mono ?_)
       rintro e w3 ⟨v3, rfl, ho3, hb3⟩
       obtain ⟨B3, j3, l3, rfl, rfl⟩ := ho3.shape
       obtain ⟨V3, rfl⟩ : ∃ W, W = w3 := ⟨_, rfl⟩
       have hz3 := hb3.size
       simp at hz3
       have E3 := Lib.hid (box_next hb3 E1.out)
       have R3 := Lib.hid (box_next hb3 R1.out)
       have E4 := Lib.hid (set3_row5 (.slice B3 cs.length l3) E3.out)
       have HB3 := Lib.hid (HB1.out.trans (hb3.mono HB1.out.size))
       have HO3 := Lib.hid (ho3)
       have f3 := row_frz E3.out 3
       obtain ⟨q0, q1, q2, q3, q4⟩ := row5 E3.out
       clear ho3 hb3)
    | (go_at_call 25
       (with_reducible refine (clone_exs (w0 := w0) (HKS.out _ (below_set1 (HB.out.trans (HB3.out.mono hsz0)) (show w0.heap.size ≤ w.heap.size by omega) 3 (.slice B3 cs.length l3))) hs2).mono ?_)
       rintro e w5 ⟨v5, rfl, ho5, hb5⟩
       obtain ⟨C5, hr5, hx5⟩ := KRow.of_own ho5
       obtain ⟨B5, l5, rfl⟩ := hr5.shape
       obtain ⟨V5, rfl⟩ : ∃ W, W = w5 := ⟨_, rfl⟩
       have hz5 := hb5.size
       simp at hz5
       have E5 := Lib.hid (box_next hb5 E4.out)
       have R5 := Lib.hid (box_next hb5 ((heap_setCell_other V3 w.heap.size (w.heap.size + 1) 3 _ (by omega)).trans R3.out))
       have E6 := Lib.hid (set4_row5 (.slice B5 ks.length l5) E5.out)
       have HB5 := Lib.hid ((below_set1 HB3.out (Nat.le_refl _) 3 (.slice B3 cs.length l3)).trans (hb5.mono (by have := HB3.out.size; simp; omega)))
       have HR5 := Lib.hid hr5
       have HX5 := Lib.hid hx5
       have hKeep5 := hb5
       have g4 := row_frz E5.out 4
       obtain ⟨u0, u1, u2, u3, u4⟩ := row5 E5.out
       clear ho5 hr5 hx5))
  have HS5 := Lib.hid (show Same (w.heap.size + 2) V3 (V5.setCell ⟨w.heap.size, 4, none⟩ (.slice B5 ks.length l5)) from (((Same.refl _ _).set (a := ⟨w.heap.size, 3, none⟩) (.inl (by simp; try omega)) (.slice B3 cs.length l3)).trans (Same.below hKeep5)).set (.inl (by simp; try omega)) _)
  have HN3 := Lib.hid (HO3.out.newS)
  go_loopg [28] ks.length (fun gh i wr => ∃ (k : Nat) (Cf : Nat → List Value), k + gh = ks.length ∧ i = .int .i64 k ∧ Below w.heap.size w wr ∧ V5.heap.size ≤ wr.heap.size ∧ Same (w.heap.size + 2) V3 wr ∧
    wr.heap[w.heap.size]? = some (.cells #[.int .i64 op, .string (str nm), .int .i64 n, .slice B3 cs.length l3, .slice B5 ks.length l5] 25 (0, 0)) ∧
    wr.heap[w.heap.size + 1]? = some (.cells #[.int .i64 0, .string ⟨#[]⟩, .int .i64 0, .slice none 0 0, .slice none 0 0] 25 (0, 0)) ∧
    KRow V3.heap.size wr (.slice B5 ks.length l5) ks.length Cf ∧ ∀ (j : Nat) y, ks[j]? = some y → (j < k → ExAt (newW V5.heap.size wr) (Cf j) (rebQ r y)) ∧ (k ≤ j → ExAt w0 (Cf j) y))
  case atStart =>
    refine ⟨0, C5, by omega, rfl, below_set1 HB5.out (Nat.le_refl _) _ _, by simp, HS5.out, E6.out, (heap_setCell_other _ _ _ _ _ (by omega)).trans R5.out, ?_, fun j y hy => ⟨fun h => by omega, fun _ => HX5.out j y hy⟩⟩
    have := HR5.out
    simp at this
    exact this.keep fun b hb _ => heap_setCell_other _ _ _ _ _ (by have := HB1.out.size; omega)
  case round =>
    obtain ⟨U, rfl⟩ : ∃ W, W = wr := ⟨_, rfl⟩
    obtain ⟨k, Cf, hkg, rfl, hbw, hz, hsm, hN, hR, hrow, hel⟩ := hrel
    have HG := Lib.hid hkg
    have HBW := Lib.hid hbw
    have HSM := Lib.hid hsm
    have HNN := Lib.hid hN
    have HRR := Lib.hid hR
    have HROW := Lib.hid hrow
    have HEL := Lib.hid hel
    have hkl : k ≤ ks.length := by omega
    have hV1 := hbw.size
    by_cases hlt : k < ks.length
    · obtain ⟨y, hy⟩ : ∃ y, ks[k]? = some y := ⟨_, List.getElem?_eq_getElem hlt⟩
      have hxk := (hel k y hy).2 (Nat.le_refl _)
      obtain ⟨o1, s1, n1, A1, m1, k1, A2, m2, k2, hL⟩ := hxk.shape
      obtain ⟨gb, cur, rfl, hg1, hg2, hg3, d0, d1, d2, d3, d4⟩ := hrow.cells hlt hL
      have IH := Lib.hid (ih k y hy _ hxk)
      rw [hL] at IH
      have HY := Lib.hid hy
      obtain ⟨n0, n1', n2', n3', n4⟩ := row5 hN
      have K0 := Lib.hid (heap_alloc_new U (.cells #[.int .i64 o1, .string s1, .int .i64 n1, .slice A1 m1 k1, .slice A2 m2 k2] 25))
      clear hkg hbw hsm hN hR hrow hel hxk hy hL
      go_wp2_with fail
      refine wp_region_held_drew (S := (fun W => W.cell? ⟨w.heap.size, 4, none⟩ = some (.slice (some ⟨gb, 0, none⟩) ks.length l5) ∧ W.cell? ⟨U.heap.size, 0, none⟩ = some (.int .i64 o1) ∧ W.cell? ⟨U.heap.size, 1, none⟩ = some (.string s1) ∧ W.cell? ⟨U.heap.size, 2, none⟩ = some (.int .i64 n1) ∧ W.cell? ⟨U.heap.size, 3, none⟩ = some (.slice A1 m1 k1) ∧ W.cell? ⟨U.heap.size, 4, none⟩ = some (.slice A2 m2 k2))) (by kernel_rfl) ?_ (fun hHeld => ?_)
      · (try dsimp only); go_keep
      refine take_now 0 ?_
      refine take_now 1 ?_
      refine take_now 2 ?_
      refine take_now 3 ?_
      refine take_now 4 ?_
      refine only_at 5 (by kernel_rfl) rfl (fun K hK => ?_)
      go_simp
      (go_at_call 13
       (with_reducible refine (IH.out _ (HB.out.trans ((HBW.out.alloc HBW.out.size _).drew.mono hsz0))).mono ?_)
       rintro e w7 ⟨hb7, M, rfl, hM7⟩
       obtain ⟨V7, rfl⟩ : ∃ W, W = w7 := ⟨_, rfl⟩
       have hz7 := hb7.size
       simp at hz7
       obtain ⟨o7, s7, n7, A7, m7, k7, B7, j7, l7, rfl⟩ := hM7.shape
       have HM7 := Lib.hid hM7
       have HB7 := Lib.hid hb7
       have N7 := Lib.hid (box_next hb7 (alloc_below (o := .cells #[.int .i64 o1, .string s1, .int .i64 n1, .slice A1 m1 k1, .slice A2 m2 k2] 25) HNN.out))
       have K7 := Lib.hid (box_next hb7 K0.out)
       have G7 := Lib.hid (box_next hb7 (alloc_below (o := .cells #[.int .i64 o1, .string s1, .int .i64 n1, .slice A1 m1 k1, .slice A2 m2 k2] 25) hg3))
       obtain ⟨n0, n1', n2', n3', n4⟩ := row5 N7.out
       obtain ⟨t0, t1, t2, t3, t4⟩ := row5 K7.out
       have y0 := row_frz G7.out (k * 5)
       have y1 := row_frz G7.out (k * 5 + 1)
       have y2 := row_frz G7.out (k * 5 + 2)
       have y3 := row_frz G7.out (k * 5 + 3)
       have y4 := row_frz G7.out (k * 5 + 4)
       have c0 := (World.cell?_of_block (a := ⟨gb, k * 5, none⟩) (G7.out.trans hg3.symm)).trans d0
       have c1 := (World.cell?_of_block (a := ⟨gb, k * 5 + 1, none⟩) (G7.out.trans hg3.symm)).trans d1
       have c2 := (World.cell?_of_block (a := ⟨gb, k * 5 + 2, none⟩) (G7.out.trans hg3.symm)).trans d2
       have c3' := (World.cell?_of_block (a := ⟨gb, k * 5 + 3, none⟩) (G7.out.trans hg3.symm)).trans d3
       have c4 := (World.cell?_of_block (a := ⟨gb, k * 5 + 4, none⟩) (G7.out.trans hg3.symm)).trans d4
       clear hb7 hM7)
      refine hK.out _ _ ?_ (fun hHeld => ?_)
      · (try dsimp only); go_keep
      clear hK K
      try simp only [Act.put, setA, setZ, setS]
      refine take_now 6 ?_
      have hq1 := HB1.out.size
      have hgN : w.heap.size ≠ gb := by simp at hq1; omega
      have hgR : w.heap.size + 1 ≠ gb := by simp at hq1; omega
      have hgK : U.heap.size ≠ gb := by omega
      refine only_at 7 (by kernel_rfl) rfl (fun K hK => ?_)
      go_simp
      refine hK.out _ _ ⟨(cell_setG hgN _ _ _ _ _).trans hHeld.1, (cell_setG hgK _ _ _ _ _).trans hHeld.2.1, (cell_setG hgK _ _ _ _ _).trans hHeld.2.2.1, (cell_setG hgK _ _ _ _ _).trans hHeld.2.2.2.1, (cell_setG hgK _ _ _ _ _).trans hHeld.2.2.2.2.1, (cell_setG hgK _ _ _ _ _).trans hHeld.2.2.2.2.2⟩ (fun hHeld => ?_)
      clear hK K
      try simp only [Act.put, setA, setZ, setS]
      refine wpAnyH_done (by kernel_rfl) ?_ _
      go_wp2_with fail
      go_roundg (ks.length - (k + 1))
      case measure => have := HG.out; omega
      case rel =>
        have hb7' : Below U.heap.size U V7 := ((Below.refl _ U).alloc (Nat.le_refl _) _).drew.trans (HB7.out.mono (by simp [World.drew]))
        have hgV : gb < V5.heap.size := by
          rcases HR5.out with ⟨h, _⟩ | ⟨g', _, _, hv, _, hh, _⟩
          · cases h
          · cases hv; exact lt_of_heap hh
        have hs7 := hb7'.size
        refine ⟨k + 1, fun i => if i = k then [.int .i64 o7, .string s7, .int .i64 n7, .slice A7 m7 k7, .slice B7 j7 l7] else Cf i, by omega, by go_num, below_setG (HBW.out.trans (hb7'.mono hV1)) (by omega) _ _ _ _ _, by simp; omega, same_setG (HSM.out.trans (Same.below hb7')) (.inr hg1) _ _ _ _ _,
          (heap_setG hgN _ _ _ _ _).trans N7.out, (heap_setG hgR _ _ _ _ _).trans (box_next hb7' HRR.out), (HROW.out.keep fun b _ hb => hb7'.block b hb).put hlt _ _ _ _ _, fun j y' hy' => ⟨fun hj => ?_, fun hj => ?_⟩⟩
        · by_cases hjk : j = k
          · subst hjk
            rw [HY.out] at hy'
            cases hy'
            simp only [if_pos]
            exact HM7.out.sub (Sub.trans (Same.sub (same_setG (Same.refl _ V7) (.inl (by simp [World.drew]; omega)) _ _ _ _ _)) (new_mono (by simp [World.drew]; omega) _))
          · simp only [if_neg hjk]
            exact ((HEL.out j y' hy').1 (by omega)).sub (Same.sub (same_setG (Same.below hb7') (.inl hgV) _ _ _ _ _))
        · simp only [if_neg (show ¬ j = k by omega)]
          exact (HEL.out j y' hy').2 (by omega)
    · have hke : k = ks.length := by omega
      have HKE := Lib.hid hke
      clear hke hkg hbw hsm hN hR hrow hel
      obtain ⟨n0, n1, n2, n3, n4⟩ := row5 HNN.out
      obtain ⟨r0, r1, r2, r3, r4⟩ := row5 HRR.out
      have f0 := row_frz HRR.out 0
      have f1 := row_frz HRR.out 1
      have f2 := row_frz HRR.out 2
      have f3 := row_frz HRR.out 3
      have f4 := row_frz HRR.out 4
      go_wp2_with fail
      refine bodyPost_ret (rebuilt_results rfl (set_rowX _ _ _ _ _ HRR.out)) rfl ⟨below_setX HBW.out (by omega) _ _ _ _ _, [.int .i64 op, .string (str nm), .int .i64 n, .slice B3 cs.length l3, .slice B5 ks.length l5], rfl, ?_⟩
      have hs1' : Same (w.heap.size + 2) U _ := same_setX (N := w.heap.size + 1) (Same.refl (w.heap.size + 2) U) (.inl (by omega)) (.int .i64 op) (.string (str nm)) (.int .i64 n) (.slice B3 cs.length l3) (.slice B5 ks.length l5)
      have hq1 := HB1.out.size
      have hrow' : KRow V3.heap.size _ (.slice B5 ks.length l5) ks.length Cf := HROW.out.keep fun b hb1 hb2 => hs1'.2 b (by simp at hq1; omega) hb2
      refine ExAt.of_parts HX0.out ((HN3.out.sub (Sub.trans (new_mono (by simp at hq1 ⊢; omega) _) (Same.sub (HSM.out.trans hs1')))).sub (new_mono (by omega) _)) ((hrow'.slice (B' := w.heap.size) (R := ExAt (newW w.heap.size _)) (by simp at hq1; omega) (by simp) (fun i y hy => ?_) (fun L y h => h.len)))
      rw [List.getElem?_map] at hy
      cases hk0 : ks[i]? with
      | none => rw [hk0] at hy; cases hy
      | some y0 =>
        rw [hk0] at hy
        cases hy
        have hi := (List.getElem?_eq_some_iff.1 hk0).1
        exact ((HEL.out i y0 hk0).1 (by omega)).sub (Sub.trans (new_mono (by omega) _) (Sub.trans (Same.sub hs1') (new_mono (by omega) _)))
theorem rebuilt_upto {w0 : World} {g : FuncId} {cap : Array Value} {r : Ex → Option Ex} (H : RepOk w0 g cap r) : ∀ (m : Nat) (x : Ex) (L : List Value), SizeOf.sizeOf x < m → ExAt w0 L x → Slim x → ∀ w, Below w0.heap.size w0 w → Calls Tryz.prog 13 #[.agg L.toArray, .func (.func g) #[] cap] w (RebPost (rebQ r x) w)
  | 0, _, _, h, _ => by omega
  | m + 1, x, L, hm, h => by
    intro hs w hb
    cases hr : r x with
    | some z =>
      rw [rebQ_some hr]
      exact rebuilt_yes H h hs hr w hb
    | none =>
      cases h with
      | @mk op nm n cs ks cv A c C hop hnm hn hcs hl hc hk hx =>
        rw [rebQ_none hr]
        refine rebuilt_no H hop hnm hn hcs hl hc hk hx (fun i k hi L hL w' hb' => ?_) hs hr w hb
        have hlt : SizeOf.sizeOf k < SizeOf.sizeOf (Ex.mk op nm n cs ks) := by
          have := List.sizeOf_lt_of_mem (List.mem_of_getElem? hi)
          simp
          omega
        rw [Slim] at hs
        exact rebuilt_upto H m k L (by omega) hL (slimL_mem hs.2.2 i k hi) w' hb'
/-- whatever the tree -/
theorem rebuilt_any {w0 : World} {g : FuncId} {cap : Array Value} {r : Ex → Option Ex} (H : RepOk w0 g cap r) {L : List Value} {x : Ex} (h : ExAt w0 L x) (hs : Slim x) (w : World) (hb : Below w0.heap.size w0 w) : Calls Tryz.prog 13 #[.agg L.toArray, .func (.func g) #[] cap] w (RebPost (rebQ r x) w) :=
  rebuilt_upto H (SizeOf.sizeOf x + 1) x L (Nat.lt_succ_self _) h hs w hb
end Go.Proofs.YtaimagfdjbedeaaGreatDoor
