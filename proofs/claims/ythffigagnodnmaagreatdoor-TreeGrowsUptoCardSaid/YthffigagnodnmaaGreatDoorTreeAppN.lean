/-
  A slice of expressions appended to a slice of the call's own, as a step of a region that draws its order.
-/
import Derived.Test.YthffigagnodnmaaGreatDoorTreeApp
import Derived.Test.YthffigagnodnmaaGreatDoorTreeRight
import Derived.Laws.AppendOwnNone
import Derived.Deep.RegionLaw
namespace Go.Proofs.YthffigagnodnmaaGreatDoor
open Go.RowKit

theorem flat_inv {n : Nat} (hn : 0 < n) : ∀ (Ls : List (List Value)), (∀ L ∈ Ls, L.length = n) → ∀ (j : Nat) (u : Value), Ls.flatten[j]? = some u → ∃ i f L, j = i * n + f ∧ Ls[i]? = some L ∧ L[f]? = some u
  | [], _, j, u, h => by simp at h
  | M :: r, hL, j, u, h => by
    have h5 := hL M (by simp)
    rw [List.flatten_cons] at h
    by_cases hj : j < n
    · rw [List.getElem?_append_left (by omega)] at h
      exact ⟨0, j, M, by omega, rfl, h⟩
    · rw [List.getElem?_append_right (by omega)] at h
      obtain ⟨i, f, L, h1, h2, h3⟩ := flat_inv hn r (fun L h => hL L (by simp [h])) _ _ h
      refine ⟨i + 1, f, L, ?_, by simpa using h2, h3⟩
      rw [Nat.succ_mul]
      omega
theorem slice_cells {X : Type} {R : List Value → X → Prop} {W : World} {a : Addr} {n c m : Nat} {xs : List X} (hm : 0 < m) (hR : ∀ L x, R L x → L.length = m) (h : SliceAt W R (.slice (some a) n c) xs) :
    ∃ Ls : List (List Value), Ls.length = xs.length ∧ (∀ L ∈ Ls, L.length = m) ∧ (∀ (i : Nat) L x, Ls[i]? = some L → xs[i]? = some x → R L x) ∧ ∀ (j : Nat) u, Ls.flatten[j]? = some u → W.cell? (a.add j) = some u := by
  obtain ⟨A, c', e, _, _, h3⟩ := h
  cases e
  have : ∀ i : Nat, ∃ L, ∀ x, xs[i]? = some x → ElemAt W (some a) i L ∧ R L x := by
    intro i
    cases h : xs[i]? with
    | none => exact ⟨[], fun x hx => by cases hx⟩
    | some y =>
      obtain ⟨L, hL⟩ := h3 i y h
      exact ⟨L, fun x hx => by cases hx; exact hL⟩
  obtain ⟨C, hC⟩ := Classical.axiomOfChoice this
  have hg : ∀ (i : Nat) L, ((List.range xs.length).map C)[i]? = some L → ∃ x, xs[i]? = some x ∧ L = C i := by
    intro i L hL
    obtain ⟨h1, h2⟩ := List.getElem?_eq_some_iff.1 hL
    simp at h1 h2
    exact ⟨_, List.getElem?_eq_getElem h1, h2.symm⟩
  have hlen : ∀ L ∈ (List.range xs.length).map C, L.length = m := by
    intro L hL
    obtain ⟨i, hi, rfl⟩ := List.getElem_of_mem hL
    obtain ⟨x, hx, e⟩ := hg i _ (List.getElem?_eq_getElem hi)
    rw [e]
    exact hR _ _ (hC i x hx).2
  refine ⟨(List.range xs.length).map C, by simp, hlen, fun i L x hL hx => ?_, fun j u hu => ?_⟩
  · obtain ⟨x', hx', rfl⟩ := hg i L hL
    exact (hC i x hx).2
  · obtain ⟨i, f, L, rfl, hL, hf⟩ := flat_inv hm _ hlen j u hu
    obtain ⟨x, hx, rfl⟩ := hg i L hL
    obtain ⟨⟨a', e, hc⟩, hr⟩ := hC i x hx
    cases e
    have := hc f u hf
    rw [hR _ _ hr, add_add] at this
    exact this
theorem OwnE.form {w0 : World} {B : Nat} {w : World} {v : Value} {xs : List Ex} (h : OwnE w0 B w v xs) : ∃ ao cap, v = .slice ao xs.length cap ∧ ∀ g, v.ownBlock = some g → B ≤ g := by
  obtain ⟨Ls, hown, _⟩ := h
  have := hown.lt
  rcases hown.2 with ⟨rfl, h0⟩ | ⟨g, cap, cur, rfl, _⟩
  · exact ⟨none, 0, by rw [h0], fun g hg => by simp [Value.ownBlock] at hg⟩
  · exact ⟨_, cap, rfl, fun g' hg => (this g' hg).1⟩
theorem run_append_nil {w : World} (base : Nat) (t ty e : TypeId) (i : TypeInfo) (size : Nat) (ht : Tryz.prog.underlying t = some (.slice e)) (hi : Tryz.prog.info? e = some i)
    (v : Value) (n : Nat) (xs : List Value) (hown : w.ownsRow base e size v n xs) (c : Nat) :
    (Builtin.append_ #[t, t] ty #[v, .slice none 0 c]).run Tryz.prog w = .ok v w := by
  rcases hown.2 with ⟨rfl, rfl⟩ | ⟨g, cap, cur, rfl, _, _, hnc, _⟩
  · simp [Builtin.append_, run_underlying ht, sizeOf, typeInfo, hi, Builtin.lenOf, Builtin.firstCells]
  · simp [Builtin.append_, run_underlying ht, sizeOf, typeInfo, hi, Builtin.lenOf, Builtin.firstCells, hnc, storeCells]
/-- what an append of expressions leaves -/
def AppN (w0 : World) (B : Nat) (zs : List Ex) (v : Value) (W : World) (v' : Value) (w' : World) : Prop :=
  OwnE w0 B w' v' zs ∧ Below B W w' ∧ ∀ (g : Nat) (o : Obj), W.heap[g]? = some o → v.ownBlock ≠ some g → w'.heap[g]? = some o
set_option maxHeartbeats 1000000 in
set_option maxRecDepth 100000 in
theorem step_app {ops : Array Oper} {o : Oper} {a : Act} {W w0 : World} {K : Act → World → Prop} {Q : Exit → Act → World → Prop} {E : Prop} {B : Nat} {v : Value} {xs ys : List Ex} {A : Option Addr} {n c : Nat}
    (hg : o.guard = none) (s x : Operand) (hop : o.op = .call { callee := .builtin .append, args := #[s, x], argTypes := #[23, 23] })
    (hs : a.eval s = v) (hx : a.eval x = .slice A n c) (hO : OwnE w0 B W v xs) (hS : SliceAt W (ExAt w0) (.slice A n c) ys) (hl : xs.length + ys.length ≤ 4194304) (hB : B ≤ W.heap.size)
    (hK : ∀ ao cap w', AppN w0 B (xs ++ ys) v W (.slice ao (xs.length + ys.length) cap) w' → K (a.put o.dst (.slice ao (xs.length + ys.length) cap)) w') :
    if Region.wanted o (yielded ops a.tmps) = true then Oper.wp Tryz.prog o a W K Q else E := by
  have hw : Region.wanted o (yielded ops a.tmps) = true := by simp [Region.wanted, hg]
  rw [if_pos hw]
  obtain ⟨i0, hi, hz0, hz1, hz2⟩ := info_parts expr_info
  have hO' := hO
  obtain ⟨Ls, hown, hlen, hE⟩ := hO
  cases A with
  | none =>
    have hy : ys = [] := by
      obtain ⟨A', c', e, _, _, h3⟩ := hS
      injection e with e1 e2 e3
      subst e1
      cases ys with
      | nil => rfl
      | cons y r =>
        obtain ⟨L, ⟨a', e, _⟩, _⟩ := h3 0 y rfl
        cases e
    have hn : n = 0 := by
      obtain ⟨A', c', e, _⟩ := hS
      injection e with _ e2 _
      rw [e2, hy]; rfl
    subst hy hn
    obtain ⟨ao, cap, rfl, _⟩ := hO'.form
    have hrun := run_append_nil (w := W) B 23 o.type 25 i0 5 Tryz.underlying23 hi _ _ _ hown c
    unfold Oper.wp
    simp only [execOp, hop, resolve, invoke, builtin, Sem.run_bind, Sem.run_pure, Result.andThen_ok, List.map_toArray, List.map_cons, List.map_nil, hs, hx, hrun]
    exact hK ao cap W ⟨by simpa using hO', Below.refl _ _, fun g o h _ => h⟩
  | some ad =>
    obtain ⟨Ms, hM1, hM2, hM3, hM4⟩ := slice_cells (m := 5) (by decide) (fun L x h => h.len) hS
    have hn : n = ys.length := by
      obtain ⟨A', c', e, _⟩ := hS
      injection e with _ e2 _
    subst hn
    refine wp_append_own W s x 23 hop B 25 i0 zeroEx 5 80 Tryz.underlying23 hi hz0 hz1 hz2 rfl (by decide) v xs.length Ls.flatten hs hown ad ys.length c Ms.flatten hx ?_ hM4 ?_ (by unfold maxLen; omega) (by omega) hB fun v' w' h1 h2 _ => ?_
    · rw [List.length_flatten]
      have : ∀ (l : List (List Value)), (∀ L ∈ l, L.length = 5) → (l.map List.length).sum = l.length * 5 := by
        intro l
        induction l with
        | nil => intro _; rfl
        | cons L r ih => intro h; simp only [List.map_cons, List.sum_cons, List.length_cons, ih (fun L hL => h L (by simp [hL])), h L (by simp)]; omega
      rw [this Ms hM2, hM1]
    · intro u hu
      obtain ⟨L, hL, huL⟩ := List.mem_flatten.1 hu
      obtain ⟨i, hi', rfl⟩ := List.getElem_of_mem hL
      have hx' : ∃ y, ys[i]? = some y := ⟨_, List.getElem?_eq_getElem (by omega)⟩
      obtain ⟨y, hy⟩ := hx'
      obtain ⟨o1, s1, n1, A1, m1, k1, A2, m2, k2, e⟩ := (hM3 i _ y (List.getElem?_eq_getElem hi') hy).shape
      rw [e] at huL
      simp at huL
      rcases huL with rfl | rfl | rfl | rfl | rfl <;> rfl
    · have hO2 : OwnE w0 B w' v' (xs ++ ys) := by
        refine ⟨Ls ++ Ms, by rw [List.length_append, List.flatten_append]; exact h1, by simp [hlen, hM1], fun i M y hM hy => ?_⟩
        by_cases hi : i < Ls.length
        · rw [List.getElem?_append_left hi] at hM
          rw [List.getElem?_append_left (by omega)] at hy
          exact hE i M y hM hy
        · rw [List.getElem?_append_right (by omega)] at hM hy
          rw [hlen] at hM
          exact hM3 _ M y hM hy
      obtain ⟨ao, cap, rfl, _⟩ := hO2.form
      rw [List.length_append] at hO2 ⊢
      refine hK ao cap w' ⟨hO2, (Below.refl B W).grown h2 hB (fun j hj => (hown.lt j hj).1), fun g o hgo hne => ?_⟩
      exact (h2.block g (lt_of_heap hgo) (fun e => hne e.symm)).trans hgo
end Go.Proofs.YthffigagnodnmaaGreatDoor
