/-
  Slices of structs of the call's own, whatever the struct: appends of a slice, and what they hold.
  ScopeMore: a node more, with a name that nobody has: the mathematics, and the walk.
  ScopeTwice: what stands there twice is a fault: the mathematics.
-/
import Derived.Test.YtbpbnebcbjacdaaGreatOwnStr
import Derived.Test.YtbpbnebcbjacdaaGreatTreeMade
import Derived.Test.YtbpbnebcbjacdaaGreatTreeRight
import Derived.Test.YtbpbnebcbjacdaaGreatScopeFinds
import Derived.Test.YtbpbnebcbjacdaaGreatScopeMEq
namespace Go.Proofs.YtbpbnebcbjacdaaGreat
open Go.RowKit

theorem flat_invG {n : Nat} (hn : 0 < n) : ∀ (Ls : List (List Value)), (∀ L ∈ Ls, L.length = n) → ∀ (j : Nat) (u : Value), Ls.flatten[j]? = some u → ∃ i f L, j = i * n + f ∧ Ls[i]? = some L ∧ L[f]? = some u
  | [], _, j, u, h => by simp at h
  | M :: r, hL, j, u, h => by
    have h5 := hL M (by simp)
    rw [List.flatten_cons] at h
    by_cases hj : j < n
    · rw [List.getElem?_append_left (by omega)] at h
      exact ⟨0, j, M, by omega, rfl, h⟩
    · rw [List.getElem?_append_right (by omega)] at h
      obtain ⟨i, f, L, h1, h2, h3⟩ := flat_invG hn r (fun L h => hL L (by simp [h])) _ _ h
      refine ⟨i + 1, f, L, ?_, by simpa using h2, h3⟩
      rw [Nat.succ_mul]
      omega
theorem slice_cellsG {X : Type} {R : List Value → X → Prop} {W : World} {a : Addr} {n c m : Nat} {xs : List X} (hm : 0 < m) (hR : ∀ L x, R L x → L.length = m) (h : SliceAt W R (.slice (some a) n c) xs) :
    ∃ Ls : List (List Value), Ls.length = xs.length ∧ (∀ L ∈ Ls, L.length = m) ∧ (∀ (i : Nat) L x, Ls[i]? = some L → xs[i]? = some x → R L x) ∧ ∀ (j : Nat) u, Ls.flatten[j]? = some u → W.cell? (a.add j) = some u := by
  obtain ⟨A, c', e, _, _, h3⟩ := h
  cases e
  have : ∀ i : Nat, ∃ L, ∀ x, xs[i]? = some x → ElemAt W (some a) i L ∧ R L x := by
    intro i
    cases h : xs[i]? with
    | none => exact ⟨[], fun x hx => by cases hx⟩
    | some y =>
      obtain ⟨L, hL⟩ := h3 i y h
      exact ⟨L, fun x hx => by cases hx; exact hL⟩
  obtain ⟨C, hC⟩ := Classical.axiomOfChoice this
  have hg : ∀ (i : Nat) L, ((List.range xs.length).map C)[i]? = some L → ∃ x, xs[i]? = some x ∧ L = C i := by
    intro i L hL
    obtain ⟨h1, h2⟩ := List.getElem?_eq_some_iff.1 hL
    simp at h1 h2
    exact ⟨_, List.getElem?_eq_getElem h1, h2.symm⟩
  have hlen : ∀ L ∈ (List.range xs.length).map C, L.length = m := by
    intro L hL
    obtain ⟨i, hi, rfl⟩ := List.getElem_of_mem hL
    obtain ⟨x, hx, e⟩ := hg i _ (List.getElem?_eq_getElem hi)
    rw [e]
    exact hR _ _ (hC i x hx).2
  refine ⟨(List.range xs.length).map C, by simp, hlen, fun i L x hL hx => ?_, fun j u hu => ?_⟩
  · obtain ⟨x', hx', rfl⟩ := hg i L hL
    exact (hC i x hx).2
  · obtain ⟨i, f, L, rfl, hL, hf⟩ := flat_invG hm _ hlen j u hu
    obtain ⟨x, hx, rfl⟩ := hg i L hL
    obtain ⟨⟨a', e, hc⟩, hr⟩ := hC i x hx
    cases e
    have := hc f u hf
    rw [hR _ _ hr, add_add] at this
    exact this
/-- a slice of the call's own that holds xs -/
def OwnG {X : Type} (R : List Value → X → Prop) (B : Nat) (T : TypeId) (n : Nat) (w : World) (v : Value) (xs : List X) : Prop :=
  ∃ Ls : List (List Value), w.ownsRow B T n v xs.length Ls.flatten ∧ Ls.length = xs.length ∧ (∀ L ∈ Ls, L.length = n) ∧ ∀ (i : Nat) L x, Ls[i]? = some L → xs[i]? = some x → R L x
section
variable {X : Type} {R : List Value → X → Prop} {B : Nat} {T TS : TypeId} {n bytes : Nat} {z : Value}
theorem OwnG.nil (w : World) : OwnG R B T n w (.slice none 0 0) [] := ⟨[], ⟨by simp, .inl ⟨rfl, rfl⟩⟩, rfl, by simp, fun i L x h => by simp at h⟩
theorem OwnG.under {w w' : World} {v : Value} {xs : List X} (h : OwnG R B T n w v xs) (hb : Below w.heap.size w w') : OwnG R B T n w' v xs := by
  obtain ⟨Ls, h1, h2, h3, h4⟩ := h
  exact ⟨Ls, row_under h1 hb, h2, h3, h4⟩
theorem OwnG.set {w : World} {v : Value} {xs : List X} (h : OwnG R B T n w v xs) {a : Addr} (ha : a.block < B) (u : Value) : OwnG R B T n (w.setCell a u) v xs := by
  obtain ⟨Ls, h1, h2, h3, h4⟩ := h
  exact ⟨Ls, ownsRow_setCell_below h1 ha u, h2, h3, h4⟩
theorem OwnG.shape {w : World} {v : Value} {xs : List X} (h : OwnG R B T n w v xs) : ∃ A m c, v = .slice A m c ∧ m = xs.length := by
  obtain ⟨Ls, h1, _⟩ := h
  rcases h1.2 with ⟨rfl, h0⟩ | ⟨g, cap, cur, rfl, _⟩
  · exact ⟨_, _, _, rfl, h0.symm⟩
  · exact ⟨_, _, _, rfl, rfl⟩
theorem OwnG.at_ {w : World} {v : Value} {xs : List X} (h : OwnG R B T n w v xs) : SliceAt w R v xs := by
  obtain ⟨Ls, hown, hl, hn, hr⟩ := h
  rcases hown.2 with ⟨rfl, h0⟩ | ⟨g, cap, cur, rfl, _, hh, hc, hm, _⟩
  · have : xs = [] := List.eq_nil_of_length_eq_zero h0
    subst this
    exact ⟨none, 0, rfl, Nat.le_refl _, by unfold maxLen; omega, fun i x h => by simp at h⟩
  · refine ⟨_, cap, rfl, hc, hm, fun i x hx => ?_⟩
    have hi : i < Ls.length := by rw [hl]; exact (List.getElem?_eq_some_iff.1 hx).1
    have hL : Ls[i]? = some Ls[i] := List.getElem?_eq_getElem hi
    have hlen := hn Ls[i] (List.getElem_mem hi)
    refine ⟨Ls[i], ⟨_, rfl, fun j u hu => ?_⟩, hr i _ x hL hx⟩
    rw [hlen, add_add]
    refine hown.cells (g := g) rfl _ _ ?_
    exact flatN Ls hn i j _ hL (by rw [← hlen]; exact (List.getElem?_eq_some_iff.1 hu).1) u hu
set_option maxRecDepth 100000 in
set_option maxHeartbeats 1000000 in
/-- what an append of a slice of such does -/
theorem wp_ownG {o : Oper} {a : Act} {W : World} {K : Act → World → Prop} {Q : Exit → Act → World → Prop} {v : Value} {xs ys : List X} {A : Option Addr} {m c : Nat} (s x : Operand)
    (hop : o.op = .call { callee := .builtin .append, args := #[s, x], argTypes := #[TS, TS] }) (hT : Tryz.prog.underlying TS = some (.slice T)) (hI : (Tryz.prog.info? T).map (fun i => (i.zero, i.size, i.bytes)) = some (some z, n, bytes))
    (hz : z.cells.size = n) (hn : 0 < n) (hby : bytes ≤ 4096) (hR : ∀ L x, R L x → L.length = n) (hone : ∀ L x, R L x → ∀ u ∈ L, u.oneCell' = true)
    (hs : a.eval s = v) (hx : a.eval x = .slice A m c) (hO : OwnG R B T n W v xs) (hS : SliceAt W R (.slice A m c) ys) (hl : xs.length + ys.length ≤ 4194304) (hB : B ≤ W.heap.size)
    (hK : ∀ v' w', OwnG R B T n w' v' (xs ++ ys) → W.grownBy w' v.ownBlock → Below B W w' → K (a.put o.dst v') w') : Oper.wp Tryz.prog o a W K Q := by
  obtain ⟨i0, hi, hz0, hz1, hz2⟩ := info_parts hI
  obtain ⟨Ls, hown, hll, hln, hlr⟩ := hO
  cases A with
  | none =>
    have hy : ys = [] := by
      obtain ⟨A', c', e, _, _, h3⟩ := hS
      injection e with e1 e2 e3
      subst e1
      cases ys with
      | nil => rfl
      | cons y r =>
        obtain ⟨L, ⟨a', e, _⟩, _⟩ := h3 0 y rfl
        cases e
    have hm : m = 0 := by
      obtain ⟨A', c', e, _⟩ := hS
      injection e with _ e2 _
      rw [e2, hy]; rfl
    subst hy hm
    have hrun := run_append_nilS (w := W) B TS o.type T i0 n hT hi _ _ _ hown c
    unfold Oper.wp
    simp only [execOp, hop, resolve, invoke, builtin, Sem.run_bind, Sem.run_pure, Result.andThen_ok, List.map_toArray, List.map_cons, List.map_nil, hs, hx, hrun]
    exact hK v W ⟨Ls, by simpa using hown, by simpa using hll, hln, by simpa using hlr⟩ (World.grownBy.refl _ _) (Below.refl _ _)
  | some ad =>
    have hm : m = ys.length := by
      obtain ⟨A', c', e, _⟩ := hS
      injection e
    subst hm
    obtain ⟨Ms, hml, hmn, hmr, hcl⟩ := slice_cellsG hn hR hS
    have hb2 : (xs.length + ys.length) * bytes ≤ 140737488355328 := by
      have : (xs.length + ys.length) * bytes ≤ 4194304 * 4096 := Nat.mul_le_mul hl hby
      omega
    have hfl : Ms.flatten.length = ys.length * n := by
      rw [← hml]
      clear hml hmr hcl
      induction Ms with
      | nil => simp
      | cons M r ih =>
        rw [List.flatten_cons, List.length_append, hmn M (by simp), ih (fun L hL => hmn L (by simp [hL])), List.length_cons, Nat.add_mul, Nat.one_mul, Nat.add_comm]
    refine wp_append_own W s x TS hop B T i0 z n bytes hT hi hz0 hz1 hz2 hz hn v xs.length _ hs hown ad ys.length c Ms.flatten hx hfl hcl ?_ (by unfold maxLen; omega) hb2 hB fun v' w' h1 h2 _ => hK v' w' ⟨Ls ++ Ms, by simpa using h1, by simp [hll, hml], ?_, ?_⟩ h2 ?_
    · intro u hu
      obtain ⟨M, hM, huM⟩ := List.mem_flatten.1 hu
      obtain ⟨i, hi'⟩ := List.getElem?_of_mem hM
      have hil : i < ys.length := by rw [← hml]; exact (List.getElem?_eq_some_iff.1 hi').1
      exact hone M _ (hmr i M _ hi' (List.getElem?_eq_getElem hil)) u huM
    · intro L hL
      rcases List.mem_append.1 hL with hL | hL
      · exact hln L hL
      · exact hmn L hL
    · intro i L y hL hy
      by_cases hil : i < Ls.length
      · rw [List.getElem?_append_left hil] at hL
        rw [List.getElem?_append_left (by omega)] at hy
        exact hlr i L y hL hy
      · rw [List.getElem?_append_right (by omega)] at hL hy
        rw [hll] at hL
        exact hmr _ L y hL hy
    · exact (Below.refl B W).grown h2 hB (fun j hj => (hown.lt j hj).1)
end
end Go.Proofs.YtbpbnebcbjacdaaGreat
namespace Go.Proofs.YtbpbnebcbjacdaaGreat
open Go.RowKit

def moreT : Tx := [109, 111, 114, 101]
def moreN : QNode := ⟨moreT, [], [[120]], [[121]], [⟨⟨[[121]], vX⟩, []⟩]⟩
/-- the scope behind nodes that are well -/
def endF : SProg → List QNode → SProg
  | s, [] => s
  | s, n :: r => match nodeStep s n with | .inl s' => endF s' r | .inr _ => s
theorem endF_yes {s s' : SProg} {n : QNode} {r : List QNode} (h : nodeStep s n = .inl s') : endF s (n :: r) = endF s' r := by rw [endF, h]
theorem nodesF_app (l r : List QNode) : ∀ (k : Int) (s : SProg), nodesF k s l = (0, 0, 0) → nodesF k s (l ++ r) = nodesF (k + l.length) (endF s l) r := by
  induction l with
  | nil => intro k s _; simp [endF]
  | cons n l ih =>
    intro k s h
    cases hs : nodeStep s n with
    | inr b => rw [nodesF_no hs] at h; cases h
    | inl s' =>
      rw [nodesF_yes hs] at h
      rw [List.cons_append, nodesF_yes hs, ih _ _ h, endF_yes hs]
      congr 1
      simp only [List.length_cons]; omega
theorem itemsF_nodes (l : List QItem) : ∀ (b : Int) (s : SProg) (vars : List Tx) (s' : SProg) (vars' : List Tx), itemsF b s vars l = .inl (s', vars') → s'.nodes = s.nodes ∧ s'.cons = s.cons := by
  induction l with
  | nil => intro b s vars s' vars' h; cases h; exact ⟨rfl, rfl⟩
  | cons i r ih =>
    intro b s vars s' vars' h
    rw [itemsF_cons] at h
    split at h
    · have := ih _ _ _ _ _ h
      exact ⟨this.1.trans rfl, this.2.trans rfl⟩
    · cases h
theorem step_keys {s s' : SProg} {n : QNode} (h : nodeStep s n = .inl s') : s'.nodes = s.nodes ++ [(n.name, n)] := by
  obtain ⟨_, s1, vars, hi, _, _, rfl⟩ := step_parts h
  show s1.nodes ++ _ = _
  rw [(itemsF_nodes _ _ _ _ _ _ hi).1]
theorem endF_nodes (l : List QNode) : ∀ (k : Int) (s : SProg), nodesF k s l = (0, 0, 0) → (endF s l).nodes = s.nodes ++ l.map fun n => (n.name, n) := by
  induction l with
  | nil => intro k s _; simp [endF]
  | cons n l ih =>
    intro k s h
    cases hs : nodeStep s n with
    | inr b => rw [nodesF_no hs] at h; cases h
    | inl s' =>
      rw [nodesF_yes hs] at h
      rw [endF_yes hs, ih _ _ h, step_keys hs, List.append_assoc]
      rfl
theorem enumsF_nodes (l : List QEnum) : ∀ (k : Int) (s s' : SProg), enumsF k s l = .inl s' → s'.nodes = s.nodes := by
  induction l with
  | nil => intro k s s' h; cases h; rfl
  | cons e r ih =>
    intro k s s' h
    rw [enumsF_cons] at h
    split at h
    · rw [ih _ _ _ h]; rfl
    · cases h
theorem more_step {s : SProg} (h : moreT ∉ s.nodeKeys) : ∃ s', nodeStep s moreN = .inl s' := by
  have hh : headOk s moreN = true := by
    have h1 : s.nodeKeys.contains moreN.name = false := by rw [← Bool.not_eq_true, List.contains_iff_mem]; exact h
    unfold headOk
    rw [h1]
    rfl
  have hi : itemsF 0 s moreN.ins moreN.items = .inl (s.addItem ⟨⟨[[121]], vX⟩, []⟩, [[120], [121]]) := rfl
  exact ⟨_, step_ok hh hi rfl rfl⟩
theorem nodeF_none (l : List QNode) (s : Tx) : ∀ k : Int, (nodeF k s l).2 = false → (∀ n ∈ l, n.name ≠ s) ∧ ∀ r, nodeF k s (l ++ r) = nodeF (k + l.length) s r := by
  induction l with
  | nil => intro k _; exact ⟨by simp, fun r => by simp⟩
  | cons n l ih =>
    intro k h
    unfold nodeF at h
    split at h
    · cases h
    · rename_i hn
      obtain ⟨h1, h2⟩ := ih _ h
      refine ⟨fun m hm => ?_, fun r => ?_⟩
      · rcases List.mem_cons.1 hm with rfl | hm
        · exact hn
        · exact h1 m hm
      · rw [List.cons_append, nodeF, if_neg hn, h2]
        congr 1
        simp only [List.length_cons]; omega
theorem more_right : rightNode true moreN = true := by kernel_rfl
theorem more_large : largeN moreN = false := by kernel_rfl
theorem more_few : (nodeX moreN).length ≤ 1048576 := of_decide_eq_true (by kernel_rfl)
theorem more_ok {p : QProg} (h : (checkQ true p).1 = 0) (hn : (nodeF 0 moreT p.nodes).2 = false) (hl : p.nodes.length < 16) :
    checkQ true ⟨p.enums, p.nodes ++ [moreN]⟩ = (0, 0, 0) ∧ nodeF 0 moreT (p.nodes ++ [moreN]) = ((p.nodes.length : Int), true) := by
  obtain ⟨_, h0, s, he, hz⟩ := check_zero h
  obtain ⟨hN, hA⟩ := nodeF_none _ _ _ hn
  refine ⟨?_, ?_⟩
  · obtain ⟨hp, hlg⟩ := rightL_zero h0
    have hp' := hp
    unfold rightP at hp'
    rw [Bool.and_eq_true] at hp'
    have h3 : rightP true ⟨p.enums, p.nodes ++ [moreN]⟩ = true := by
      unfold rightP
      rw [Bool.and_eq_true]
      refine ⟨hp'.1, allM_mk (by simp) (by simp; omega) (fun n hn => ?_)⟩
      rcases List.mem_append.1 hn with hn | hn
      · exact (allM_len hp'.2).2.2 n hn
      · rw [List.mem_singleton] at hn; subst hn; exact more_right
    have h4 : (p.nodes ++ [moreN]).any largeN = false := by rw [List.any_append, hlg]; simp [more_large]
    have h5 : rightL true ⟨p.enums, p.nodes ++ [moreN]⟩ = 0 := by
      show (if rightP true ⟨p.enums, p.nodes ++ [moreN]⟩ = true then (if (p.nodes ++ [moreN]).any largeN = true then (9 : Int) else 0) else 10) = 0
      rw [if_pos h3, h4]; rfl
    rw [check_nodes (p := ⟨p.enums, p.nodes ++ [moreN]⟩) h5 he]
    show nodesF 0 s (p.nodes ++ [moreN]) = (0, 0, 0)
    rw [nodesF_app _ _ _ _ hz]
    have hk : moreT ∉ (endF s p.nodes).nodeKeys := by
      unfold SProg.nodeKeys
      rw [endF_nodes _ _ _ hz, enumsF_nodes _ _ _ _ he]
      simp only [SProg.new, List.nil_append, List.map_map]
      intro hm
      obtain ⟨n, hn, e⟩ := List.mem_map.1 hm
      exact hN n hn e
    obtain ⟨s', hs'⟩ := more_step hk
    rw [nodesF_yes hs']; rfl
  · rw [hA, nodeF, if_pos (show moreN.name = moreT from rfl)]; simp
theorem more_node {w : World} {L : List Value} (h : NodeAt w L (oneN vX)) : ∃ A1 n1 k1 A2 n2 k2 A3 n3 k3 A4 n4 k4, L = [.string ⟨#[102]⟩, .slice A1 n1 k1, .slice A2 n2 k2, .slice A3 n3 k3, .slice A4 n4 k4] ∧ NodeAt w [.string ⟨#[109, 111, 114, 101]⟩, .slice A1 n1 k1, .slice A2 n2 k2, .slice A3 n3 k3, .slice A4 n4 k4] moreN := by
  obtain ⟨fv, iv, ov, xv, rfl, _, h1, h2, h3, h4⟩ := h
  obtain ⟨A1, n1, k1, rfl⟩ := SliceAt.shape h1
  obtain ⟨A2, n2, k2, rfl⟩ := SliceAt.shape h2
  obtain ⟨A3, n3, k3, rfl⟩ := SliceAt.shape h3
  obtain ⟨A4, n4, k4, rfl⟩ := SliceAt.shape h4
  exact ⟨A1, n1, k1, A2, n2, k2, A3, n3, k3, A4, n4, k4, rfl, _, _, _, _, rfl, show moreT.length ≤ maxLen from len_small (by decide), h1, h2, h3, h4⟩
def zeroND : Value := .agg #[.string ⟨#[]⟩, .slice none 0 0, .slice none 0 0, .slice none 0 0, .slice none 0 0]
theorem node_info : (Tryz.prog.info? 41).map (fun i => (i.zero, i.size, i.bytes)) = some (some zeroND, 5, 112) := by kernel_rfl
theorem node_len {w : World} : ∀ L n, NodeAt w L n → L.length = 5 := fun L n h => by obtain ⟨_, _, _, _, rfl, _⟩ := h; rfl
theorem node_one {w : World} : ∀ L n, NodeAt w L n → ∀ u ∈ L, u.oneCell' = true := fun L n h u hu => by
  obtain ⟨s0, A1, n1, k1, A2, n2, k2, A3, n3, k3, A4, n4, k4, rfl⟩ := h.shape
  simp only [List.mem_cons, List.not_mem_nil, or_false] at hu
  rcases hu with rfl | rfl | rfl | rfl | rfl <;> rfl
theorem step_ownN {ops : Array Oper} {o : Oper} {a : Act} {K : Act → World → Prop} {Q : Exit → Act → World → Prop} {E : Prop} {W Wc : World} {B : Nat} {v : Value} {xs ys : List QNode} {A : Option Addr} {m c : Nat} (hgd : o.guard = none) (s x : Operand)
    (hop : o.op = .call { callee := .builtin .append, args := #[s, x], argTypes := #[23, 23] })
    (hs : a.eval s = v) (hx : a.eval x = .slice A m c) (hO : OwnG (NodeAt Wc) B 41 5 W v xs) (hS : SliceAt W (NodeAt Wc) (.slice A m c) ys) (hl : xs.length + ys.length ≤ 4194304) (hB : B ≤ W.heap.size)
    (hK : ∀ v' w', OwnG (NodeAt Wc) B 41 5 w' v' (xs ++ ys) → W.grownBy w' v.ownBlock → Below B W w' → K (a.put o.dst v') w') : if Region.wanted o (yielded ops a.tmps) = true then Oper.wp Tryz.prog o a W K Q else E := by
  have hw : Region.wanted o (yielded ops a.tmps) = true := by simp [Region.wanted, hgd]
  rw [if_pos hw]
  exact wp_ownG s x hop Tryz.underlying23 node_info rfl (by decide) (by decide) node_len node_one hs hx hO hS hl hB hK
end Go.Proofs.YtbpbnebcbjacdaaGreat
namespace Go.Proofs.YtbpbnebcbjacdaaGreat
open Go.RowKit

/-- the law's end: a fault of scope, or one of the tree -/
def TwiceBad (p : QProg) : Prop := (checkQ true p).1 = 4 ∨ (rightL true p ≠ 0 ∧ (checkQ true p).1 ≠ 0)
theorem bad_right {p : QProg} (h : rightL true p ≠ 0) : TwiceBad p := .inr ⟨h, by rw [check_bad h]; exact h⟩
theorem twice_node {p : QProg} (h : (checkQ true p).1 = 0) {n : QNode} (hn : n ∈ p.nodes) : TwiceBad ⟨p.enums, p.nodes ++ [n]⟩ := by
  by_cases hr : rightL true ⟨p.enums, p.nodes ++ [n]⟩ = 0
  · left
    obtain ⟨_, _, s, he, hz⟩ := check_zero h
    rw [check_nodes (p := ⟨p.enums, p.nodes ++ [n]⟩) hr he]
    show (nodesF 0 s (p.nodes ++ [n])).1 = 4
    rw [nodesF_app _ _ _ _ hz]
    have hk : (endF s p.nodes).nodeKeys.contains n.name = true := by
      rw [List.contains_iff_mem]
      unfold SProg.nodeKeys
      rw [endF_nodes _ _ _ hz, List.map_append]
      refine List.mem_append_right _ ?_
      rw [List.map_map]
      exact List.mem_map.2 ⟨n, hn, rfl⟩
    have hh : headOk (endF s p.nodes) n = false := by unfold headOk; rw [hk]; rfl
    rw [nodesF_no (step_head hh)]
  · exact bad_right hr
theorem enumsF_app (l r : List QEnum) : ∀ (k : Int) (s s' : SProg), enumsF k s l = .inl s' → enumsF k s (l ++ r) = enumsF (k + l.length) s' r ∧ s'.enums = s.enums ++ l.map QEnum.name := by
  induction l with
  | nil => intro k s s' h; cases h; simp
  | cons e l ih =>
    intro k s s' h
    rw [enumsF_cons] at h
    split at h
    · rename_i hok
      obtain ⟨h1, h2⟩ := ih _ _ _ h
      refine ⟨?_, ?_⟩
      · rw [List.cons_append, enumsF_cons, if_pos hok, h1]
        congr 1
        simp only [List.length_cons]; omega
      · rw [h2]
        show s.enums ++ [e.name] ++ _ = _
        rw [List.append_assoc]; rfl
    · cases h
theorem twice_enum {p : QProg} (h : (checkQ true p).1 = 0) {e : QEnum} (he : e ∈ p.enums) : TwiceBad ⟨p.enums ++ [e], p.nodes⟩ := by
  by_cases hr : rightL true ⟨p.enums ++ [e], p.nodes⟩ = 0
  · left
    obtain ⟨_, _, s, hes, _⟩ := check_zero h
    obtain ⟨h1, h2⟩ := enumsF_app _ [e] _ _ _ hes
    have hk : s.enums.contains e.name = true := by
      rw [List.contains_iff_mem, h2]
      exact List.mem_append_right _ (List.mem_map.2 ⟨e, he, rfl⟩)
    have hok : enumOk s e = false := by unfold enumOk; rw [recOk_cons, hk]; rfl
    have h3 : enumsF 0 .new (p.enums ++ [e]) = .inr (0 + (p.enums.length : Int)) := by
      rw [h1, enumsF_cons, if_neg (by rw [hok]; simp)]
    rw [check_enum (p := ⟨p.enums ++ [e], p.nodes⟩) hr h3]
  · exact bad_right hr
theorem itemsF_app (l r : List QItem) : ∀ (b : Int) (s : SProg) (vars : List Tx) (s' : SProg) (vars' : List Tx), itemsF b s vars l = .inl (s', vars') → itemsF b s vars (l ++ r) = itemsF (b + l.length) s' vars' r := by
  induction l with
  | nil => intro b s vars s' vars' h; cases h; simp
  | cons i l ih =>
    intro b s vars s' vars' h
    rw [itemsF_cons] at h
    split at h
    · rename_i hok
      rw [List.cons_append, itemsF_cons, if_pos hok, ih _ _ _ _ _ h]
      congr 1
      simp only [List.length_cons]; omega
    · cases h
theorem twice_item {p : QProg} (h : (checkQ true p).1 = 0) {n : QNode} {r : List QNode} (hp : p.nodes = n :: r) {i : QItem} (hi : i ∈ n.items) (hd : definedQ i ≠ []) : TwiceBad ⟨p.enums, { n with items := n.items ++ [i] } :: r⟩ := by
  by_cases hr : rightL true ⟨p.enums, { n with items := n.items ++ [i] } :: r⟩ = 0
  · left
    obtain ⟨_, _, s, he, hz⟩ := check_zero h
    rw [check_nodes (p := ⟨p.enums, { n with items := n.items ++ [i] } :: r⟩) hr he]
    rw [hp] at hz
    show (nodesF 0 s ({ n with items := n.items ++ [i] } :: r)).1 = 4
    cases hs : nodeStep s n with
    | inr b => rw [nodesF_no hs] at hz; cases hz
    | inl s' =>
      obtain ⟨hh, s1, vars, hit, _⟩ := step_parts hs
      obtain ⟨hv, _⟩ := itemsF_vars _ _ _ _ _ _ (head_ins hh) hit
      have hh' : headOk s { n with items := n.items ++ [i] } = true := hh
      have hok : itemOk s1 vars i = false := by
        have h1 : recOk vars (definedQ i) = false := by
          obtain ⟨x, l, hx⟩ := List.exists_cons_of_ne_nil hd
          rw [hx, recOk_cons]
          have h2 : vars.contains x = true := by
            rw [List.contains_iff_mem, hv]
            refine List.mem_append_right _ (List.mem_flatMap.2 ⟨i, hi, ?_⟩)
            rw [hx]; simp
          rw [h2]; rfl
        rw [itemOk, h1]; rfl
      have hit' : itemsF 0 s n.ins (n.items ++ [i]) = .inr (0 + (n.items.length : Int)) := by
        rw [itemsF_app _ [i] _ _ _ _ _ hit, itemsF_cons, if_neg (by rw [hok]; simp)]
      rw [nodesF_no (step_items hh' hit')]
  · exact bad_right hr
theorem len_flat6 {X Y : Type} {f : X → List Y} {g : X → Nat} {l : List X} (h : ∀ x ∈ l, 2 * (f x).length ≤ g x) : 2 * (l.flatMap f).length ≤ wL g l := by
  induction l with
  | nil => simp [wL]
  | cons x r ih =>
    have h1 := h x (by simp)
    have h2 := ih (fun y hy => h y (by simp [hy]))
    rw [List.flatMap_cons, List.length_append, wL]
    omega
theorem len_wL2 {X : Type} {f : X → Nat} {l : List X} (h : ∀ x ∈ l, 2 ≤ f x) : 2 * l.length ≤ wL f l := by
  induction l with
  | nil => simp [wL]
  | cons x r ih =>
    have h1 := h x (by simp)
    have h2 := ih (fun y hy => h y (by simp [hy]))
    rw [List.length_cons, wL]
    omega
theorem item_few (i : QItem) : 2 * (itemX i).length ≤ wItem i := by
  have h2 := len_flat6 (f := stateX) (g := wState) (l := i.states) (fun s _ => by
    have h3 := len_wL2 (f := wEq) (l := s.eqs) (fun q _ => by unfold wEq; omega)
    have h4 := len_wL2 (f := wWay) (l := s.ways) (fun q _ => by unfold wWay; omega)
    unfold stateX wState
    simp only [List.length_append, List.length_map]
    omega)
  unfold itemX wItem wEq
  rw [List.length_append]
  split
  · simp only [List.length_cons, List.length_nil]; omega
  · simp only [List.length_nil]; omega
theorem twice_few {p : QProg} (hp : wProg p ≤ 1048576) {n : QNode} (hn : n ∈ p.nodes) {i : QItem} (hi : i ∈ n.items) : (nodeX { n with items := n.items ++ [i] }).length ≤ 1048576 := by
  have h1 := wL_mem (f := wNode) hn
  have h2 := len_flat6 (f := itemX) (g := wItem) (l := n.items) (fun i _ => item_few i)
  have h3 := wL_mem (f := wItem) hi
  have h4 := item_few i
  unfold wProg at hp
  simp only [wNode] at h1
  have h5 : wL wNode p.nodes = wL (fun n => n.name.length + wN n.funs + wN n.ins + wN n.outs + wL wItem n.items + 6) p.nodes := rfl
  show ((n.items ++ [i]).flatMap itemX).length ≤ 1048576
  rw [List.flatMap_append, List.length_append]
  simp only [List.flatMap_cons, List.flatMap_nil, List.append_nil]
  omega
end Go.Proofs.YtbpbnebcbjacdaaGreat
