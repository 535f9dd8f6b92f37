/-
  Lists of the call's own whose elements have trees of their own: what keeps them, one more element, what they hold.
-/
import Derived.Test.YtaimagfdjbedeaaGreatDoorParseMem
import Derived.Maps.AppendAt
namespace Go.Proofs.YtaimagfdjbedeaaGreatDoor
open Go.RowKit

/-- a world's blocks from a number on, but for one -/
def offW (B : Nat) (ob : Option Nat) (w : World) : World := { w with heap := w.heap.mapIdx fun i o => if i < B ∨ ob = some i then .cells #[] 0 (0, 0) else o }
theorem off_get {w : World} {B b : Nat} {ob : Option Nat} (h : B ≤ b) (hb : ob ≠ some b) : (offW B ob w).heap[b]? = w.heap[b]? := by
  unfold offW
  rw [Array.getElem?_mapIdx]
  cases w.heap[b]? with
  | none => rfl
  | some o =>
    have h2 : ¬ (b < B ∨ ob = some b) := fun h3 => h3.elim (fun h4 => by omega) hb
    simp [h2]
theorem off_cell {w : World} {B : Nat} {ob : Option Nat} {a : Addr} {v : Value} (h : (offW B ob w).cell? a = some v) : B ≤ a.block ∧ ob ≠ some a.block ∧ w.cell? a = some v := by
  by_cases hb : a.block < B ∨ ob = some a.block
  · exfalso
    have ho : ∀ o, (offW B ob w).heap[a.block]? = some o → o = .cells #[] 0 (0, 0) := by
      intro o ho
      unfold offW at ho
      rw [Array.getElem?_mapIdx] at ho
      cases hw : w.heap[a.block]? with
      | none => rw [hw] at ho; cases ho
      | some q => rw [hw] at ho; simp [hb] at ho; exact ho.symm
    cases hq : (offW B ob w).heap[a.block]? with
    | none => simp [World.cell?, hq] at h
    | some o =>
      have := ho o hq
      subst this
      simp [World.cell?, hq] at h
  · have h1 : B ≤ a.block := by omega
    have h2 : ob ≠ some a.block := fun e => hb (.inr e)
    rw [World.cell?_of_block (off_get h1 h2)] at h
    exact ⟨h1, h2, h⟩
theorem off_mk {w : World} {B : Nat} {ob : Option Nat} {a : Addr} (h : B ≤ a.block) (hb : ob ≠ some a.block) : (offW B ob w).cell? a = w.cell? a := World.cell?_of_block (off_get h hb)
theorem off_sub (B : Nat) (ob : Option Nat) (w : World) : Sub (offW B ob w) (newW B w) := fun a v h => by
  obtain ⟨h1, _, h3⟩ := off_cell h
  rw [new_mk h1]; exact h3
/-- what is newer than the block that is left out is beside it -/
theorem new_off {B B' : Nat} {ob : Option Nat} {w w' : World} (hs : Same B' w w') (hB : B ≤ B') (ho : ∀ g, ob = some g → g < B' ∨ w.heap.size ≤ g) : Sub (newW B' w) (offW B ob w') := fun a v h => by
  obtain ⟨h1, h2⟩ := new_cell h
  have h3 := World.block_lt_of_cell? w _ h2
  rw [off_mk (by omega) (fun e => by have := ho _ e; omega), World.cell?_of_block (hs.2 _ h1 h3)]
  exact h2
/-- a list of the call's own: its row, and each element's tree beside the row -/
def OwnL {X : Type} (R : World → List Value → X → Prop) (B : Nat) (T : TypeId) (n : Nat) (w : World) (v : Value) (xs : List X) : Prop :=
  ∃ Ls : List (List Value), w.ownsRow B T n v xs.length Ls.flatten ∧ Ls.length = xs.length ∧ (∀ L ∈ Ls, L.length = n) ∧ ∀ (i : Nat) L x, Ls[i]? = some L → xs[i]? = some x → R (offW B v.ownBlock w) L x
section
variable {X : Type} {R : World → List Value → X → Prop} {B : Nat} {T TS : TypeId} {n bytes : Nat} {z : Value} (hsub : ∀ w w' L x, Sub w w' → R w L x → R w' L x)
theorem OwnL.nil (w : World) : OwnL R B T n w (.slice none 0 0) [] := ⟨[], ⟨by simp, .inl ⟨rfl, rfl⟩⟩, rfl, by simp, fun i L x h => by simp at h⟩
include hsub in
theorem OwnL.same {w w' : World} {v : Value} {xs : List X} (h : OwnL R B T n w v xs) (hs : Same B w w') : OwnL R B T n w' v xs := by
  obtain ⟨Ls, h1, h2, h3, h4⟩ := h
  refine ⟨Ls, ⟨h1.1, ?_⟩, h2, h3, fun i L x hL hx => hsub _ _ _ _ (fun a u hu => ?_) (h4 i L x hL hx)⟩
  · rcases h1.2 with h5 | ⟨g, cap, cur, rfl, hg, hh, hr⟩
    · exact .inl h5
    · exact .inr ⟨g, cap, cur, rfl, hg, (hs.2 g hg (lt_of_heap hh)).trans hh, hr⟩
  · obtain ⟨g1, g2, g3⟩ := off_cell hu
    rw [off_mk g1 g2, World.cell?_of_block (hs.2 _ g1 (World.block_lt_of_cell? w _ g3))]
    exact g3
theorem OwnL.shape {w : World} {v : Value} {xs : List X} (h : OwnL R B T n w v xs) : ∃ A m c, v = .slice A m c ∧ m = xs.length := by
  obtain ⟨Ls, h1, _⟩ := h
  rcases h1.2 with ⟨rfl, h0⟩ | ⟨g, cap, cur, rfl, _⟩
  · exact ⟨_, _, _, rfl, h0.symm⟩
  · exact ⟨_, _, _, rfl, rfl⟩
include hsub in
theorem OwnL.one {w : World} {L : List Value} {x : X} (hL : L.length = n) (hR : R (newW B w) L x) (hB : B ≤ w.heap.size) : OwnL R B T n (w.alloc (.cells L.toArray T)) (.slice (some ⟨w.heap.size, 0, none⟩) 1 1) [x] := by
  refine ⟨[L], ⟨by simp [hL], .inr ⟨w.heap.size, 1, L.toArray, rfl, hB, heap_alloc_new w _, Nat.le_refl _, by unfold maxLen; omega, by simp [hL], by simp; rw [List.take_of_length_le (by omega)]⟩⟩, rfl, by simp [hL], fun i M y hM hy => ?_⟩
  cases i with
  | succ i => simp at hM
  | zero =>
    simp at hM hy
    subst hM hy
    refine hsub _ _ _ _ (new_off ((Same.refl B w).alloc _) (Nat.le_refl _) fun g hg => ?_) hR
    right
    simp [Value.ownBlock] at hg
    omega
include hsub in
theorem OwnL.at_ {w : World} {v : Value} {xs : List X} (h : OwnL R B T n w v xs) : SliceAt (newW B w) (R (newW B w)) v xs := by
  obtain ⟨Ls, hown, hl, hn, hr⟩ := h
  rcases hown.2 with ⟨rfl, h0⟩ | ⟨g, cap, cur, rfl, hg, hh, hc, hm, _⟩
  · have : xs = [] := List.eq_nil_of_length_eq_zero h0
    subst this
    exact ⟨none, 0, rfl, Nat.le_refl _, by unfold maxLen; omega, fun i x h => by simp at h⟩
  · refine ⟨_, cap, rfl, hc, hm, fun i x hx => ?_⟩
    have hi : i < Ls.length := by rw [hl]; exact (List.getElem?_eq_some_iff.1 hx).1
    have hL : Ls[i]? = some Ls[i] := List.getElem?_eq_getElem hi
    have hlen := hn Ls[i] (List.getElem_mem hi)
    refine ⟨Ls[i], ⟨_, rfl, fun j u hu => ?_⟩, hsub _ _ _ _ (off_sub _ _ _) (hr i _ x hL hx)⟩
    rw [hlen, add_add]
    have h1 : w.cell? ((⟨g, 0, none⟩ : Addr).add (i * n + j)) = some u := by
      have h2 := hown.cells (g := g) rfl (i * n + j) u (flatN Ls hn i j _ hL (by rw [← hlen]; exact (List.getElem?_eq_some_iff.1 hu).1) u hu)
      exact h2
    rw [new_mk (by rw [add_block]; exact hg)]
    exact h1
set_option maxRecDepth 100000 in
set_option maxHeartbeats 1000000 in
include hsub in
/-- one element more -/
theorem append_ownL {ops : Array Oper} {rest : List Oper} {o : Oper} {a : Act} {Q : Exit → Act → World → Prop} {W : World} {v : Value} {xs : List X} {x : X} {L : List Value} {K : Nat} (hgd : o.guard = none) (s y : Operand)
    (hop : o.op = .call { callee := .builtin .append, args := #[s, y], argTypes := #[TS, TS] }) (hT : Tryz.prog.underlying TS = some (.slice T)) (hI : (Tryz.prog.info? T).map (fun i => (i.zero, i.size, i.bytes)) = some (some z, n, bytes))
    (hz : z.cells.size = n) (hn : 0 < n) (hby : bytes ≤ 4096) (hs : a.eval s = v) (hy : a.eval y = .slice (some ⟨K, 0, none⟩) 1 1) (hK : W.heap[K]? = some (.cells L.toArray T (0, 0))) (hL : L.length = n) (hone : ∀ u ∈ L, u.oneCell' = true)
    (hO : OwnL R B T n W v xs) (hR : R (offW B v.ownBlock W) L x) (hl : xs.length ≤ 2097152) (hB : B ≤ W.heap.size)
    (h : ∀ v' w', OwnL R B T n w' v' (xs ++ [x]) → Below B W w' → wpList Tryz.prog ops Q rest (a.put o.dst v') w') : wpList Tryz.prog ops Q (o :: rest) a W := by
  obtain ⟨i0, hi, hz0, hz1, hz2⟩ := info_parts hI
  obtain ⟨Ls, hown, hll, hln, hlr⟩ := hO
  have hb2 : (xs.length + 1) * bytes ≤ 140737488355328 := by
    have : (xs.length + 1) * bytes ≤ 4194304 * 4096 := Nat.mul_le_mul (by omega) hby
    omega
  refine wpList_append_own_at W hgd s y TS hop B T i0 z n bytes hT hi hz0 hz1 hz2 hz hn v xs.length _ hs hown ⟨K, 0, none⟩ 1 1 L hy (by simp [hL]) (fun j u hj => ?_) hone (by unfold maxLen; omega) hb2 hB fun v' w' h1 h2 _ h5 => h v' w' ⟨Ls ++ [L], by simpa using h1, by simp [hll], ?_, ?_⟩ ?_
  · have hadd : (⟨K, 0, none⟩ : Addr).add j = ⟨K, j, none⟩ := by unfold Addr.add; split <;> simp_all
    rw [hadd, cell_of_row _ _ _ _ _ _ hK]
    simpa using hj
  · intro M hM
    rcases List.mem_append.1 hM with hM | hM
    · exact hln M hM
    · simp at hM; subst hM; exact hL
  · have key : Sub (offW B v.ownBlock W) (offW B v'.ownBlock w') := fun ad u hu => by
      obtain ⟨g1, g2, g3⟩ := off_cell hu
      have g4 := World.block_lt_of_cell? W _ g3
      have g5 : v'.ownBlock ≠ some ad.block := by
        rcases h5 with e | e
        · rw [e]; exact g2
        · rw [e]; intro e2; injection e2 with e2; omega
      rw [off_mk g1 g5, World.cell?_of_block (h2.block _ g4 (fun e => g2 e.symm))]
      exact g3
    intro i M y hM hy
    by_cases hi : i < Ls.length
    · rw [List.getElem?_append_left hi] at hM
      rw [List.getElem?_append_left (by omega)] at hy
      exact hsub _ _ _ _ key (hlr i M y hM hy)
    · rw [List.getElem?_append_right (by omega)] at hM
      rw [List.getElem?_append_right (by omega)] at hy
      have e1 : i - Ls.length = 0 := by
        by_cases h0 : i - Ls.length = 0
        · exact h0
        · rw [List.getElem?_eq_none (by simp; omega)] at hM; cases hM
      have e2 : i - xs.length = 0 := by omega
      rw [e1] at hM
      rw [e2] at hy
      simp at hM hy
      subst hM hy
      exact hsub _ _ _ _ key hR
  · exact (Below.refl B W).grown h2 hB (fun j hj => (hown.lt j hj).1)
end
end Go.Proofs.YtaimagfdjbedeaaGreatDoor
