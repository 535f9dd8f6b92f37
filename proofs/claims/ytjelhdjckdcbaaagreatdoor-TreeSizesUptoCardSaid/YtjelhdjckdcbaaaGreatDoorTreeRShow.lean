/-
  The reference's Show: an expression's text.
-/
import Derived.Test.YtjelhdjckdcbaaaGreatDoorTreeOwnS
import Derived.Test.YtjelhdjckdcbaaaGreatDoorHeld
namespace Go.Proofs.YtjelhdjckdcbaaaGreatDoor
open Go.RowKit

/-- the kids' texts, at least three -/
def kidsS (K : List Tx) : List Tx := K ++ List.replicate (3 - K.length) [63]
theorem kidsS_len (K : List Tx) : 3 ≤ (kidsS K).length ∧ K.length ≤ (kidsS K).length := by simp [kidsS]; omega
theorem kidsS_get (K : List Tx) {i : Nat} (h : i < 3) : (kidsS K)[i]? = some (kS K i) := by
  unfold kidsS kS
  rw [List.getD_eq_getElem?_getD]
  by_cases hi : i < K.length
  · rw [List.getElem?_append_left hi, List.getElem?_eq_getElem hi]; rfl
  · rw [List.getElem?_append_right (by omega), List.getElem?_eq_none (l := K) (by omega), List.getElem?_replicate, if_pos (by omega)]; rfl
theorem wX_kid {op n : Int} {nm : Tx} {cs : List Tx} {ks : List Ex} {k : Ex} (h : k ∈ ks) : wX k + 6 ≤ wX (.mk op nm n cs ks) := by
  rw [wX, wXs_L]
  have := wL_mem (f := wX) h
  omega
theorem len_wXs (ks : List Ex) : ks.length ≤ wXs ks := by
  rw [wXs_L]
  induction ks with
  | nil => simp [wL]
  | cons k r ih =>
    obtain ⟨o, a, n, c, l⟩ := k
    simp only [wL, wX, List.length_cons]
    omega
theorem OwnS.shape {B : Nat} {w : World} {v : Value} {l : List Tx} (h : OwnS B w v l) : ∃ A n c, v = .slice A n c ∧ n = l.length := by
  rcases h.1.2 with ⟨rfl, h0⟩ | ⟨g, cap, cur, rfl, _⟩
  · exact ⟨_, _, _, rfl, h0.symm⟩
  · exact ⟨_, _, _, rfl, rfl⟩
/-- the cells of a row of strings -/
def CellsS (w : World) (g : Nat) (l : List Tx) : Prop := ∀ (i : Nat) x, l[i]? = some x → w.cell? ⟨g, i, none⟩ = some (.string (str x))
theorem OwnS.row {B : Nat} {w : World} {v : Value} {l : List Tx} (h : OwnS B w v l) (h0 : l ≠ []) : ∃ g cap, v = .slice (some ⟨g, 0, none⟩) l.length cap ∧ l.length ≤ cap ∧ cap ≤ maxLen ∧ B ≤ g ∧ g < w.heap.size ∧ CellsS w g l := by
  obtain ⟨hown, hle⟩ := h
  rcases hown.2 with ⟨rfl, hn⟩ | ⟨g, cap, cur, rfl, hg, hh, hc, hm, _⟩
  · exact absurd (List.eq_nil_of_length_eq_zero hn) h0
  · refine ⟨g, cap, rfl, hc, hm, hg, lt_of_heap hh, fun i x hx => ?_⟩
    have := hown.cells (g := g) rfl i (.string (str x)) (by simp [hx])
    have hadd : (⟨g, 0, none⟩ : Addr).add i = ⟨g, i, none⟩ := by unfold Addr.add; split <;> simp_all
    rwa [hadd] at this
theorem CellsS.under {w w' : World} {g : Nat} {l : List Tx} (h : CellsS w g l) (hg : g < w.heap.size) (hb : Below w.heap.size w w') : CellsS w' g l := fun i x hx => (hb.cell (p := ⟨g, i, none⟩) hg).trans (h i x hx)
/-- the first of a row, as a slice whose strings are read -/
theorem CellsS.strs {w : World} {g cap : Nat} {l m : List Tx} (h : CellsS w g (l ++ m)) (hc : l.length ≤ cap) (hm : cap ≤ maxLen) (hl : ∀ x ∈ l, x.length ≤ maxLen) : StrsAt w (.slice (some ⟨g, 0, none⟩) l.length cap) l := by
  refine ⟨_, cap, rfl, hc, hm, fun i x hx => ⟨[.string (str x)], ⟨_, rfl, fun j u hu => ?_⟩, rfl, hl x (List.mem_of_getElem? hx)⟩⟩
  have hj : j = 0 := by
    have := (List.getElem?_eq_some_iff.1 hu).1
    simp at this; exact this
  subst hj
  simp only [List.getElem?_cons_zero, Option.some.injEq] at hu
  subst hu
  rw [add_add]
  have hadd : (⟨g, 0, none⟩ : Addr).add (i * [Value.string (str x)].length + 0) = ⟨g, i, none⟩ := by unfold Addr.add; split <;> simp_all
  rw [hadd]
  exact h i x (by rw [List.getElem?_append_left (List.getElem?_eq_some_iff.1 hx).1]; exact hx)
theorem heap_one' {w : World} {g : Nat} {o : Obj} (h : w.heap[g]? = some o) (A : Obj) : (w.alloc A).heap[g]? = some o := (Below.heap_alloc _ _ _ (lt_of_heap h)).trans h
theorem CellsS.strs0 {w : World} {g cap : Nat} {K : List Tx} (h : CellsS w g (kidsS K)) (hc : K.length ≤ cap) (hm : cap ≤ maxLen) (hl : ∀ x ∈ K, x.length ≤ maxLen := by assumption) : StrsAt w (.slice (some ⟨g, 0, none⟩) K.length cap) K := CellsS.strs (m := List.replicate (3 - K.length) [63]) h hc hm hl
theorem armsS_len : ∀ (cs K : List Tx), (armsS cs K).length ≤ cs.length
  | [], _ => by simp [armsS]
  | _ :: _, [] => by simp [armsS]
  | c :: cs, k :: K => by simp only [armsS, List.length_cons]; have := armsS_len cs K; omega
theorem own_all {B : Nat} {w : World} {v : Value} {ks : List Ex} {k : Nat} (hk : k = ks.length) (h : OwnS B w v ((ks.take k).map txt)) : OwnS B w v (ks.map txt ++ List.replicate 0 [63]) := by
  rw [hk, List.take_length] at h; simpa using h
theorem own_kids {B : Nat} {w : World} {v : Value} {K : List Tx} {j : Nat} (hj : j = 3 - K.length) (h : OwnS B w v (K ++ List.replicate j [63])) : OwnS B w v (kidsS K) := by
  rw [kidsS, ← hj]; exact h
def ShowC (w0 : World) (L : List Value) (x : Ex) : Prop := wX x ≤ 1048576 → ∀ w, Below w0.heap.size w0 w → Calls Tryz.prog 12 #[.agg L.toArray] w (StrPost (txt x) w)
end Go.Proofs.YtjelhdjckdcbaaaGreatDoor
