/-
  Slices of structs of the call's own, whatever the struct: appends of a slice, of one; what they hold.
-/
import Derived.Test.YtaimagfdjbedeaaGreatDoorOwnStr
import Derived.Test.YtaimagfdjbedeaaGreatDoorTreeMade
namespace Go.Proofs.YtaimagfdjbedeaaGreatDoor
open Go.RowKit

theorem flat_invG {n : Nat} (hn : 0 < n) : ∀ (Ls : List (List Value)), (∀ L ∈ Ls, L.length = n) → ∀ (j : Nat) (u : Value), Ls.flatten[j]? = some u → ∃ i f L, j = i * n + f ∧ Ls[i]? = some L ∧ L[f]? = some u
  | [], _, j, u, h => by simp at h
  | M :: r, hL, j, u, h => by
    have h5 := hL M (by simp)
    rw [List.flatten_cons] at h
    by_cases hj : j < n
    · rw [List.getElem?_append_left (by omega)] at h
      exact ⟨0, j, M, by omega, rfl, h⟩
    · rw [List.getElem?_append_right (by omega)] at h
      obtain ⟨i, f, L, h1, h2, h3⟩ := flat_invG hn r (fun L h => hL L (by simp [h])) _ _ h
      refine ⟨i + 1, f, L, ?_, by simpa using h2, h3⟩
      rw [Nat.succ_mul]
      omega
theorem slice_cellsG {X : Type} {R : List Value → X → Prop} {W : World} {a : Addr} {n c m : Nat} {xs : List X} (hm : 0 < m) (hR : ∀ L x, R L x → L.length = m) (h : SliceAt W R (.slice (some a) n c) xs) :
    ∃ Ls : List (List Value), Ls.length = xs.length ∧ (∀ L ∈ Ls, L.length = m) ∧ (∀ (i : Nat) L x, Ls[i]? = some L → xs[i]? = some x → R L x) ∧ ∀ (j : Nat) u, Ls.flatten[j]? = some u → W.cell? (a.add j) = some u := by
  obtain ⟨A, c', e, _, _, h3⟩ := h
  cases e
  have : ∀ i : Nat, ∃ L, ∀ x, xs[i]? = some x → ElemAt W (some a) i L ∧ R L x := by
    intro i
    cases h : xs[i]? with
    | none => exact ⟨[], fun x hx => by cases hx⟩
    | some y =>
      obtain ⟨L, hL⟩ := h3 i y h
      exact ⟨L, fun x hx => by cases hx; exact hL⟩
  obtain ⟨C, hC⟩ := Classical.axiomOfChoice this
  have hg : ∀ (i : Nat) L, ((List.range xs.length).map C)[i]? = some L → ∃ x, xs[i]? = some x ∧ L = C i := by
    intro i L hL
    obtain ⟨h1, h2⟩ := List.getElem?_eq_some_iff.1 hL
    simp at h1 h2
    exact ⟨_, List.getElem?_eq_getElem h1, h2.symm⟩
  have hlen : ∀ L ∈ (List.range xs.length).map C, L.length = m := by
    intro L hL
    obtain ⟨i, hi, rfl⟩ := List.getElem_of_mem hL
    obtain ⟨x, hx, e⟩ := hg i _ (List.getElem?_eq_getElem hi)
    rw [e]
    exact hR _ _ (hC i x hx).2
  refine ⟨(List.range xs.length).map C, by simp, hlen, fun i L x hL hx => ?_, fun j u hu => ?_⟩
  · obtain ⟨x', hx', rfl⟩ := hg i L hL
    exact (hC i x hx).2
  · obtain ⟨i, f, L, rfl, hL, hf⟩ := flat_invG hm _ hlen j u hu
    obtain ⟨x, hx, rfl⟩ := hg i L hL
    obtain ⟨⟨a', e, hc⟩, hr⟩ := hC i x hx
    cases e
    have := hc f u hf
    rw [hR _ _ hr, add_add] at this
    exact this
/-- a slice of the call's own that holds xs -/
def OwnG {X : Type} (R : List Value → X → Prop) (B : Nat) (T : TypeId) (n : Nat) (w : World) (v : Value) (xs : List X) : Prop :=
  ∃ Ls : List (List Value), w.ownsRow B T n v xs.length Ls.flatten ∧ Ls.length = xs.length ∧ (∀ L ∈ Ls, L.length = n) ∧ ∀ (i : Nat) L x, Ls[i]? = some L → xs[i]? = some x → R L x
section
variable {X : Type} {R : List Value → X → Prop} {B : Nat} {T TS : TypeId} {n bytes : Nat} {z : Value}
theorem OwnG.nil (w : World) : OwnG R B T n w (.slice none 0 0) [] := ⟨[], ⟨by simp, .inl ⟨rfl, rfl⟩⟩, rfl, by simp, fun i L x h => by simp at h⟩
theorem OwnG.under {w w' : World} {v : Value} {xs : List X} (h : OwnG R B T n w v xs) (hb : Below w.heap.size w w') : OwnG R B T n w' v xs := by
  obtain ⟨Ls, h1, h2, h3, h4⟩ := h
  exact ⟨Ls, row_under h1 hb, h2, h3, h4⟩
theorem OwnG.set {w : World} {v : Value} {xs : List X} (h : OwnG R B T n w v xs) {a : Addr} (ha : a.block < B) (u : Value) : OwnG R B T n (w.setCell a u) v xs := by
  obtain ⟨Ls, h1, h2, h3, h4⟩ := h
  exact ⟨Ls, ownsRow_setCell_below h1 ha u, h2, h3, h4⟩
theorem OwnG.shape {w : World} {v : Value} {xs : List X} (h : OwnG R B T n w v xs) : ∃ A m c, v = .slice A m c ∧ m = xs.length := by
  obtain ⟨Ls, h1, _⟩ := h
  rcases h1.2 with ⟨rfl, h0⟩ | ⟨g, cap, cur, rfl, _⟩
  · exact ⟨_, _, _, rfl, h0.symm⟩
  · exact ⟨_, _, _, rfl, rfl⟩
theorem OwnG.at_ {w : World} {v : Value} {xs : List X} (h : OwnG R B T n w v xs) : SliceAt w R v xs := by
  obtain ⟨Ls, hown, hl, hn, hr⟩ := h
  rcases hown.2 with ⟨rfl, h0⟩ | ⟨g, cap, cur, rfl, _, hh, hc, hm, _⟩
  · have : xs = [] := List.eq_nil_of_length_eq_zero h0
    subst this
    exact ⟨none, 0, rfl, Nat.le_refl _, by unfold maxLen; omega, fun i x h => by simp at h⟩
  · refine ⟨_, cap, rfl, hc, hm, fun i x hx => ?_⟩
    have hi : i < Ls.length := by rw [hl]; exact (List.getElem?_eq_some_iff.1 hx).1
    have hL : Ls[i]? = some Ls[i] := List.getElem?_eq_getElem hi
    have hlen := hn Ls[i] (List.getElem_mem hi)
    refine ⟨Ls[i], ⟨_, rfl, fun j u hu => ?_⟩, hr i _ x hL hx⟩
    rw [hlen, add_add]
    refine hown.cells (g := g) rfl _ _ ?_
    exact flatN Ls hn i j _ hL (by rw [← hlen]; exact (List.getElem?_eq_some_iff.1 hu).1) u hu
set_option maxRecDepth 100000 in
set_option maxHeartbeats 1000000 in
/-- what an append of a slice of such does -/
theorem wp_ownG {o : Oper} {a : Act} {W : World} {K : Act → World → Prop} {Q : Exit → Act → World → Prop} {v : Value} {xs ys : List X} {A : Option Addr} {m c : Nat} (s x : Operand)
    (hop : o.op = .call { callee := .builtin .append, args := #[s, x], argTypes := #[TS, TS] }) (hT : Tryz.prog.underlying TS = some (.slice T)) (hI : (Tryz.prog.info? T).map (fun i => (i.zero, i.size, i.bytes)) = some (some z, n, bytes))
    (hz : z.cells.size = n) (hn : 0 < n) (hby : bytes ≤ 4096) (hR : ∀ L x, R L x → L.length = n) (hone : ∀ L x, R L x → ∀ u ∈ L, u.oneCell' = true)
    (hs : a.eval s = v) (hx : a.eval x = .slice A m c) (hO : OwnG R B T n W v xs) (hS : SliceAt W R (.slice A m c) ys) (hl : xs.length + ys.length ≤ 4194304) (hB : B ≤ W.heap.size)
    (hK : ∀ v' w', OwnG R B T n w' v' (xs ++ ys) → W.grownBy w' v.ownBlock → Below B W w' → K (a.put o.dst v') w') : Oper.wp Tryz.prog o a W K Q := by
  obtain ⟨i0, hi, hz0, hz1, hz2⟩ := info_parts hI
  obtain ⟨Ls, hown, hll, hln, hlr⟩ := hO
  cases A with
  | none =>
    have hy : ys = [] := by
      obtain ⟨A', c', e, _, _, h3⟩ := hS
      injection e with e1 e2 e3
      subst e1
      cases ys with
      | nil => rfl
      | cons y r =>
        obtain ⟨L, ⟨a', e, _⟩, _⟩ := h3 0 y rfl
        cases e
    have hm : m = 0 := by
      obtain ⟨A', c', e, _⟩ := hS
      injection e with _ e2 _
      rw [e2, hy]; rfl
    subst hy hm
    have hrun := run_append_nilS (w := W) B TS o.type T i0 n hT hi _ _ _ hown c
    unfold Oper.wp
    simp only [execOp, hop, resolve, invoke, builtin, Sem.run_bind, Sem.run_pure, Result.andThen_ok, List.map_toArray, List.map_cons, List.map_nil, hs, hx, hrun]
    exact hK v W ⟨Ls, by simpa using hown, by simpa using hll, hln, by simpa using hlr⟩ (World.grownBy.refl _ _) (Below.refl _ _)
  | some ad =>
    have hm : m = ys.length := by
      obtain ⟨A', c', e, _⟩ := hS
      injection e
    subst hm
    obtain ⟨Ms, hml, hmn, hmr, hcl⟩ := slice_cellsG hn hR hS
    have hb2 : (xs.length + ys.length) * bytes ≤ 140737488355328 := by
      have : (xs.length + ys.length) * bytes ≤ 4194304 * 4096 := Nat.mul_le_mul hl hby
      omega
    have hfl : Ms.flatten.length = ys.length * n := by
      rw [← hml]
      clear hml hmr hcl
      induction Ms with
      | nil => simp
      | cons M r ih =>
        rw [List.flatten_cons, List.length_append, hmn M (by simp), ih (fun L hL => hmn L (by simp [hL])), List.length_cons, Nat.add_mul, Nat.one_mul, Nat.add_comm]
    refine wp_append_own W s x TS hop B T i0 z n bytes hT hi hz0 hz1 hz2 hz hn v xs.length _ hs hown ad ys.length c Ms.flatten hx hfl hcl ?_ (by unfold maxLen; omega) hb2 hB fun v' w' h1 h2 _ => hK v' w' ⟨Ls ++ Ms, by simpa using h1, by simp [hll, hml], ?_, ?_⟩ h2 ?_
    · intro u hu
      obtain ⟨M, hM, huM⟩ := List.mem_flatten.1 hu
      obtain ⟨i, hi'⟩ := List.getElem?_of_mem hM
      have hil : i < ys.length := by rw [← hml]; exact (List.getElem?_eq_some_iff.1 hi').1
      exact hone M _ (hmr i M _ hi' (List.getElem?_eq_getElem hil)) u huM
    · intro L hL
      rcases List.mem_append.1 hL with hL | hL
      · exact hln L hL
      · exact hmn L hL
    · intro i L y hL hy
      by_cases hil : i < Ls.length
      · rw [List.getElem?_append_left hil] at hL
        rw [List.getElem?_append_left (by omega)] at hy
        exact hlr i L y hL hy
      · rw [List.getElem?_append_right (by omega)] at hL hy
        rw [hll] at hL
        exact hmr _ L y hL hy
    · exact (Below.refl B W).grown h2 hB (fun j hj => (hown.lt j hj).1)
end
end Go.Proofs.YtaimagfdjbedeaaGreatDoor
