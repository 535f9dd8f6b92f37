import Derived.Carry
import Derived.Test.YtkfacdofkfabnaaGreatDoorKm08
namespace Go.Proofs.YtkfacdofkfabnaaGreatDoor
open Go.RowKit
theorem wd {n : Nat} : ∀ (Ls : List (List Value)), (∀ L ∈ Ls, L.length = n) -> ∀ (i j : Nat) (L : List Value), Ls[i]? = some L -> j < n -> ∀ u, L[j]? = some u -> Ls.flatten[i * n + j]? = some u
 | [], _, i, _, _, hi, _, _, _ => by simp at hi
 | M :: r, h, 0, j, L, hi, hj, u, hu => by
   have h5 := h M (by simp)
   obtain rfl : M = L := by simpa using hi
   rw [List.flatten_cons, Nat.zero_mul, Nat.zero_add, List.getElem?_append_left zO]
   exact hu
 | M :: r, h, i + 1, j, L, hi, hj, u, hu => by
   have h5 := h M (by simp)
   have := wd r (λ N hN => h N (by simp [hN])) i j L (by simpa using hi) hj u hu
   rw [List.flatten_cons, List.getElem?_append_right (by rw [h5, Nat.succ_mul]; omega)]
   rw [show (i + 1) * n + j - M.length = i * n + j by rw [h5, Nat.succ_mul]; omega]
   exact this
theorem lJ {X : Type} {R : List Value -> X -> Prop} {w : World} {g : Nat} {T : TypeId} {fz : Nat × Nat} {n : Nat} {c : Array Value} (xs : List X) (Ls : List (List Value)) (hn : ∀ L ∈ Ls, L.length = n)
  (hb : w.heap[g]? = some (.cells c T fz)) (hc : c.toList = Ls.flatten) (hl : Ls.length = xs.length) (hR : ∀ (i : Nat) L x, Ls[i]? = some L -> xs[i]? = some x -> R L x) (hm : xs.length <= maxLen) :
  aw w R (.slice (some ⟨g, 0, none⟩) xs.length xs.length) xs := by
 refine ⟨_, _, rfl, Nat.le_refl _, hm, λ i x hx => ?_⟩; have hi : i < Ls.length := (by rw [hl]; exact (List.getElem?_eq_some_iff.1 hx).1); have hL : Ls[i]? = some Ls[i] := List.getElem?_eq_getElem hi; refine ⟨Ls[i], ⟨_, rfl, λ j u hu => ?_⟩, hR i _ x hL hx⟩; have hN := hn Ls[i] (List.getElem_mem hi); rw [hN, fU]; have ha : (⟨g, 0, none⟩ : Addr).add (i * n + j) = ⟨g, i * n + j, none⟩ := (by unfold Addr.add; split <;> simp_all)
 have := wd Ls hn i j _ hL (by rw [<- hN]; exact (List.getElem?_eq_some_iff.1 hu).1) u hu; rw [ha, cell_of_row _ _ _ _ _ _ hb, <- Array.getElem?_toList, hc]; exact this
theorem gA {w : World} {op n : Int} {nm : Tx} {cs : List Tx} {ks : List Ex} {cv kv : Value} (hop : gY op) (hn : gY n) (hm : nm.length <= maxLen) (hcs : aH w cv cs) (hk : aw w (a7 w) kv ks) :
  a7 w [.int .i64 op, .string (str nm), .int .i64 n, cv, kv] (.mk op nm n cs ks) := by
 obtain ⟨A, c, rfl, h1, h2, h3⟩ := hk; have : ∀ i, ∃ L, ∀ x, ks[i]? = some x -> cp w A i L /\ a7 w L x := by
  intro i; cases h : ks[i]? with
  | none => exact ⟨[], λ x hx => by cases hx⟩
  | some y =>
    obtain ⟨L, hL⟩ := h3 i y h; exact ⟨L, λ x hx => by cases hx; exact hL⟩
 obtain ⟨C, hC⟩ := Classical.axiomOfChoice this; exact .mk (C := C) hop hm hn hcs h1 h2 (λ i k hi => (hC i k hi).1) (λ i k hi => (hC i k hi).2)
theorem JR {X : Type} {R : List Value -> X -> Prop} {L M : List Value} {x y : X} (h1 : R L x) (h2 : R M y) : ∀ (i : Nat) K z, [L, M][i]? = some K -> [x, y][i]? = some z -> R K z := by
 intro i K z hK hz; match i, hK, hz with
 | 0, hK, hz => simp at hK hz; subst hK hz; exact h1
 | 1, hK, hz => simp at hK hz; subst hK hz; exact h2
 | i + 2, hK, hz => simp at hK
theorem J8 {X : Type} {R : List Value -> X -> Prop} {L : List Value} {x : X} (h1 : R L x) : ∀ (i : Nat) K z, [L][i]? = some K -> [x][i]? = some z -> R K z := by
 intro i K z hK hz; match i, hK, hz with
 | 0, hK, hz => simp at hK hz; subst hK hz; exact h1
 | i + 1, hK, hz => simp at hK
theorem IC {X : Type} {R : List Value -> X -> Prop} {w : World} {g : Nat} {T : TypeId} {fz : Nat × Nat} {c : Array Value} {x y : X} {L M : List Value}
  (hb : w.heap[g]? = some (.cells c T fz)) (h1 : R L x) (h2 : R M y) (hc : c.toList = L ++ M) (hn : L.length = M.length) : aw w R (.slice (some ⟨g, 0, none⟩) 2 2) [x, y] :=
 lJ (n := L.length) [x, y] [L, M] (by intro K hK; simp at hK; rcases hK with rfl | rfl; rfl; exact hn.symm) hb (by simp [hc]) rfl (JR h1 h2) (by simp only [List.length_cons, List.length_nil]; unfold maxLen; omega)
theorem ig {X : Type} {R : List Value -> X -> Prop} {w : World} {g : Nat} {T : TypeId} {fz : Nat × Nat} {c : Array Value} {x : X} {L : List Value}
  (hb : w.heap[g]? = some (.cells c T fz)) (h1 : R L x) (hc : c.toList = L) : aw w R (.slice (some ⟨g, 0, none⟩) 1 1) [x] :=
 lJ (n := L.length) [x] [L] (by intro K hK; simp at hK; rw [hK]) hb (by simp [hc]) rfl (J8 h1) (by simp only [List.length_cons, List.length_nil]; unfold maxLen; omega)
theorem cw {n : Int} (h : 0 <= n /\ n <= 1000) : gY n := ⟨by omega, by omega⟩
theorem aF {w : World} {o : Obj} {n : Nat} (h : w.heap.size = n) : (w.alloc o).heap[n]? = some o := by subst h; exact heap_alloc_new w o
theorem aT {w : World} {o x : Obj} {n : Nat} (h : w.heap[n]? = some x) : (w.alloc o).heap[n]? = some x := (Below.heap_alloc _ _ _ (ak h)).trans h
end Go.Proofs.YtkfacdofkfabnaaGreatDoor
