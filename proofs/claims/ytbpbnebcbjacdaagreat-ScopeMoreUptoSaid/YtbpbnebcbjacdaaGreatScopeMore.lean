/-
  ScopeMore: a node more, with a name that nobody has: the mathematics, and the walk.
-/
import Derived.Test.YtbpbnebcbjacdaaGreatScopeVarsL
import Derived.Test.YtbpbnebcbjacdaaGreatScopeOwn
import Derived.Test.YtbpbnebcbjacdaaGreatScopeMEq
namespace Go.Proofs.YtbpbnebcbjacdaaGreat
open Go.RowKit

def moreT : Tx := [109, 111, 114, 101]
def moreN : QNode := ⟨moreT, [], [[120]], [[121]], [⟨⟨[[121]], vX⟩, []⟩]⟩
/-- the scope behind nodes that are well -/
def endF : SProg → List QNode → SProg
  | s, [] => s
  | s, n :: r => match nodeStep s n with | .inl s' => endF s' r | .inr _ => s
theorem endF_yes {s s' : SProg} {n : QNode} {r : List QNode} (h : nodeStep s n = .inl s') : endF s (n :: r) = endF s' r := by rw [endF, h]
theorem nodesF_app (l r : List QNode) : ∀ (k : Int) (s : SProg), nodesF k s l = (0, 0, 0) → nodesF k s (l ++ r) = nodesF (k + l.length) (endF s l) r := by
  induction l with
  | nil => intro k s _; simp [endF]
  | cons n l ih =>
    intro k s h
    cases hs : nodeStep s n with
    | inr b => rw [nodesF_no hs] at h; cases h
    | inl s' =>
      rw [nodesF_yes hs] at h
      rw [List.cons_append, nodesF_yes hs, ih _ _ h, endF_yes hs]
      congr 1
      simp only [List.length_cons]; omega
theorem itemsF_nodes (l : List QItem) : ∀ (b : Int) (s : SProg) (vars : List Tx) (s' : SProg) (vars' : List Tx), itemsF b s vars l = .inl (s', vars') → s'.nodes = s.nodes ∧ s'.cons = s.cons := by
  induction l with
  | nil => intro b s vars s' vars' h; cases h; exact ⟨rfl, rfl⟩
  | cons i r ih =>
    intro b s vars s' vars' h
    rw [itemsF_cons] at h
    split at h
    · have := ih _ _ _ _ _ h
      exact ⟨this.1.trans rfl, this.2.trans rfl⟩
    · cases h
theorem step_keys {s s' : SProg} {n : QNode} (h : nodeStep s n = .inl s') : s'.nodes = s.nodes ++ [(n.name, n)] := by
  obtain ⟨_, s1, vars, hi, _, _, rfl⟩ := step_parts h
  show s1.nodes ++ _ = _
  rw [(itemsF_nodes _ _ _ _ _ _ hi).1]
theorem endF_nodes (l : List QNode) : ∀ (k : Int) (s : SProg), nodesF k s l = (0, 0, 0) → (endF s l).nodes = s.nodes ++ l.map fun n => (n.name, n) := by
  induction l with
  | nil => intro k s _; simp [endF]
  | cons n l ih =>
    intro k s h
    cases hs : nodeStep s n with
    | inr b => rw [nodesF_no hs] at h; cases h
    | inl s' =>
      rw [nodesF_yes hs] at h
      rw [endF_yes hs, ih _ _ h, step_keys hs, List.append_assoc]
      rfl
theorem enumsF_nodes (l : List QEnum) : ∀ (k : Int) (s s' : SProg), enumsF k s l = .inl s' → s'.nodes = s.nodes := by
  induction l with
  | nil => intro k s s' h; cases h; rfl
  | cons e r ih =>
    intro k s s' h
    rw [enumsF_cons] at h
    split at h
    · rw [ih _ _ _ h]; rfl
    · cases h
theorem more_step {s : SProg} (h : moreT ∉ s.nodeKeys) : ∃ s', nodeStep s moreN = .inl s' := by
  have hh : headOk s moreN = true := by
    have h1 : s.nodeKeys.contains moreN.name = false := by rw [← Bool.not_eq_true, List.contains_iff_mem]; exact h
    unfold headOk
    rw [h1]
    rfl
  have hi : itemsF 0 s moreN.ins moreN.items = .inl (s.addItem ⟨⟨[[121]], vX⟩, []⟩, [[120], [121]]) := rfl
  exact ⟨_, step_ok hh hi rfl rfl⟩
theorem nodeF_none (l : List QNode) (s : Tx) : ∀ k : Int, (nodeF k s l).2 = false → (∀ n ∈ l, n.name ≠ s) ∧ ∀ r, nodeF k s (l ++ r) = nodeF (k + l.length) s r := by
  induction l with
  | nil => intro k _; exact ⟨by simp, fun r => by simp⟩
  | cons n l ih =>
    intro k h
    unfold nodeF at h
    split at h
    · cases h
    · rename_i hn
      obtain ⟨h1, h2⟩ := ih _ h
      refine ⟨fun m hm => ?_, fun r => ?_⟩
      · rcases List.mem_cons.1 hm with rfl | hm
        · exact hn
        · exact h1 m hm
      · rw [List.cons_append, nodeF, if_neg hn, h2]
        congr 1
        simp only [List.length_cons]; omega
theorem more_right : rightNode true moreN = true := by kernel_rfl
theorem more_large : largeN moreN = false := by kernel_rfl
theorem more_few : (nodeX moreN).length ≤ 1048576 := of_decide_eq_true (by kernel_rfl)
theorem more_ok {p : QProg} (h : (checkQ true p).1 = 0) (hn : (nodeF 0 moreT p.nodes).2 = false) (hl : p.nodes.length < 16) :
    checkQ true ⟨p.enums, p.nodes ++ [moreN]⟩ = (0, 0, 0) ∧ nodeF 0 moreT (p.nodes ++ [moreN]) = ((p.nodes.length : Int), true) := by
  obtain ⟨_, h0, s, he, hz⟩ := check_zero h
  obtain ⟨hN, hA⟩ := nodeF_none _ _ _ hn
  refine ⟨?_, ?_⟩
  · obtain ⟨hp, hlg⟩ := rightL_zero h0
    have hp' := hp
    unfold rightP at hp'
    rw [Bool.and_eq_true] at hp'
    have h3 : rightP true ⟨p.enums, p.nodes ++ [moreN]⟩ = true := by
      unfold rightP
      rw [Bool.and_eq_true]
      refine ⟨hp'.1, allM_mk (by simp) (by simp; omega) (fun n hn => ?_)⟩
      rcases List.mem_append.1 hn with hn | hn
      · exact (allM_len hp'.2).2.2 n hn
      · rw [List.mem_singleton] at hn; subst hn; exact more_right
    have h4 : (p.nodes ++ [moreN]).any largeN = false := by rw [List.any_append, hlg]; simp [more_large]
    have h5 : rightL true ⟨p.enums, p.nodes ++ [moreN]⟩ = 0 := by
      show (if rightP true ⟨p.enums, p.nodes ++ [moreN]⟩ = true then (if (p.nodes ++ [moreN]).any largeN = true then (9 : Int) else 0) else 10) = 0
      rw [if_pos h3, h4]; rfl
    rw [check_nodes (p := ⟨p.enums, p.nodes ++ [moreN]⟩) h5 he]
    show nodesF 0 s (p.nodes ++ [moreN]) = (0, 0, 0)
    rw [nodesF_app _ _ _ _ hz]
    have hk : moreT ∉ (endF s p.nodes).nodeKeys := by
      unfold SProg.nodeKeys
      rw [endF_nodes _ _ _ hz, enumsF_nodes _ _ _ _ he]
      simp only [SProg.new, List.nil_append, List.map_map]
      intro hm
      obtain ⟨n, hn, e⟩ := List.mem_map.1 hm
      exact hN n hn e
    obtain ⟨s', hs'⟩ := more_step hk
    rw [nodesF_yes hs']; rfl
  · rw [hA, nodeF, if_pos (show moreN.name = moreT from rfl)]; simp
theorem more_node {w : World} {L : List Value} (h : NodeAt w L (oneN vX)) : ∃ A1 n1 k1 A2 n2 k2 A3 n3 k3 A4 n4 k4, L = [.string ⟨#[102]⟩, .slice A1 n1 k1, .slice A2 n2 k2, .slice A3 n3 k3, .slice A4 n4 k4] ∧ NodeAt w [.string ⟨#[109, 111, 114, 101]⟩, .slice A1 n1 k1, .slice A2 n2 k2, .slice A3 n3 k3, .slice A4 n4 k4] moreN := by
  obtain ⟨fv, iv, ov, xv, rfl, _, h1, h2, h3, h4⟩ := h
  obtain ⟨A1, n1, k1, rfl⟩ := SliceAt.shape h1
  obtain ⟨A2, n2, k2, rfl⟩ := SliceAt.shape h2
  obtain ⟨A3, n3, k3, rfl⟩ := SliceAt.shape h3
  obtain ⟨A4, n4, k4, rfl⟩ := SliceAt.shape h4
  exact ⟨A1, n1, k1, A2, n2, k2, A3, n3, k3, A4, n4, k4, rfl, _, _, _, _, rfl, show moreT.length ≤ maxLen from len_small (by decide), h1, h2, h3, h4⟩
def zeroND : Value := .agg #[.string ⟨#[]⟩, .slice none 0 0, .slice none 0 0, .slice none 0 0, .slice none 0 0]
theorem node_info : (Tryz.prog.info? 41).map (fun i => (i.zero, i.size, i.bytes)) = some (some zeroND, 5, 112) := by kernel_rfl
theorem node_len {w : World} : ∀ L n, NodeAt w L n → L.length = 5 := fun L n h => by obtain ⟨_, _, _, _, rfl, _⟩ := h; rfl
theorem node_one {w : World} : ∀ L n, NodeAt w L n → ∀ u ∈ L, u.oneCell' = true := fun L n h u hu => by
  obtain ⟨s0, A1, n1, k1, A2, n2, k2, A3, n3, k3, A4, n4, k4, rfl⟩ := h.shape
  simp only [List.mem_cons, List.not_mem_nil, or_false] at hu
  rcases hu with rfl | rfl | rfl | rfl | rfl <;> rfl
theorem step_ownN {ops : Array Oper} {o : Oper} {a : Act} {K : Act → World → Prop} {Q : Exit → Act → World → Prop} {E : Prop} {W Wc : World} {B : Nat} {v : Value} {xs ys : List QNode} {A : Option Addr} {m c : Nat} (hgd : o.guard = none) (s x : Operand)
    (hop : o.op = .call { callee := .builtin .append, args := #[s, x], argTypes := #[23, 23] })
    (hs : a.eval s = v) (hx : a.eval x = .slice A m c) (hO : OwnG (NodeAt Wc) B 41 5 W v xs) (hS : SliceAt W (NodeAt Wc) (.slice A m c) ys) (hl : xs.length + ys.length ≤ 4194304) (hB : B ≤ W.heap.size)
    (hK : ∀ v' w', OwnG (NodeAt Wc) B 41 5 w' v' (xs ++ ys) → W.grownBy w' v.ownBlock → Below B W w' → K (a.put o.dst v') w') : if Region.wanted o (yielded ops a.tmps) = true then Oper.wp Tryz.prog o a W K Q else E := by
  have hw : Region.wanted o (yielded ops a.tmps) = true := by simp [Region.wanted, hgd]
  rw [if_pos hw]
  exact wp_ownG s x hop Tryz.underlying23 node_info rfl (by decide) (by decide) node_len node_one hs hx hO hS hl hB hK
set_option maxHeartbeats 16000000 in
set_option maxRecDepth 100000 in
theorem more_walk {w : World} {p : QProg} {A1 A2 : Option Addr} {n1 k1 n2 k2 : Nat} (hL : ProgAt w [.slice A1 n1 k1, .slice A2 n2 k2] p) (hq : ∀ x ∈ p.nodes, (nodeX x).length ≤ 1048576) :
    Calls Tryz.prog 8 #[.agg #[.slice A1 n1 k1, .slice A2 n2 k2]] w (Lived w) := by
  have HQ := Lib.hid hq
  have HCK := Lib.hid (check_any true hL hq)
  have HNO := Lib.hid (show ∀ W, Below w.heap.size w W → Calls Tryz.prog 14 #[.agg #[.slice A1 n1 k1, .slice A2 n2 k2], .string ⟨#[109, 111, 114, 101]⟩] W (NodeRet (nodeF 0 moreT p.nodes) W) from node_any hL moreT)
  have hff := field_fault
  have hfp := field_prog
  have HONE := Lib.hid (show ∀ W, Calls Tryz.prog 22 #[.agg #[.int .i64 4, .string ⟨#[120]⟩, .int .i64 0, .slice none 0 0, .slice none 0 0]] W (OnePost vX W) from fun W => one_any (show ExAt W [.int .i64 4, .string (str [120]), .int .i64 0, .slice none 0 0, .slice none 0 0] vX from ex_leaf W (i64_small (by omega)) (i64_small (by omega)) (len_small (by decide))) W (Below.refl _ _))
  obtain ⟨ev, nv, e0, he, hnn⟩ := hL
  injection e0 with ea e0
  injection e0 with eb _
  subst ea eb
  obtain ⟨A', c', eq2, hcc, hmc, hne⟩ := hnn
  injection eq2 with e1 e2 e3
  subst e1 e2 e3
  have hal := Lib.hid ((Below.refl w.heap.size w).alloc (Nat.le_refl _) (.cells #[.slice A1 n1 k1, .slice A2 p.nodes.length k2] 25))
  have BP := Lib.hid (heap_alloc_new w (.cells #[.slice A1 n1 k1, .slice A2 p.nodes.length k2] 25))
  have hcap : p.nodes.length ≤ k2 := hcc
  have hnl : p.nodes.length ≤ 9223372036854775807 := by unfold maxLen at hmc; omega
  have HN := Lib.hid (show SliceAt w (NodeAt w) (.slice A2 p.nodes.length k2) p.nodes from ⟨A2, k2, rfl, hcc, hmc, hne⟩)
  have HE := Lib.hid he
  clear hq he hcc hmc hne
  generalize hr : nodeF 0 moreT p.nodes = r at *
  have HR := Lib.hid hr
  clear hr
  cases hr2 : r.2
  · have HR2 := Lib.hid hr2
    clear hr2
    by_cases hl : p.nodes.length < 16
    · have hd1 : decide ((p.nodes.length : Int) ≥ 16) = false := by simp; omega
      by_cases hc : (checkQ true p).1 = 0
      · have HZ := Lib.hid (check_zero hc).1
        have HMK := Lib.hid (more_ok hc (by rw [HR.out, HR2.out]) hl)
        clear hc
        go_enter Tryz.func8, Tryz.ntmps8
        go_wp2_with (first
          | (go_at_call 9
             (with_reducible refine (lives_any _).mono ?_)
             rintro e w7 ⟨rfl, hb7⟩
             obtain ⟨V1, rfl⟩ : ∃ W, W = w7 := ⟨_, rfl⟩
             have HB1 := Lib.hid (hal.out.trans (hb7.mono hal.out.size))
             have BP1 := Lib.hid (box_next hb7 BP.out)
             obtain ⟨_, _⟩ := row2 BP1.out
             clear hb7)
          | (go_at_call 14
             (with_reducible refine (HNO.out _ HB1.out).mono ?_)
             rintro e w8 ⟨he, hb8⟩
             replace he : e = .returned (.tuple #[.int .i64 r.1, .bool r.2]) := he
             rw [HR2.out] at he
             subst he
             obtain ⟨V2, rfl⟩ : ∃ W, W = w8 := ⟨_, rfl⟩
             have HB2 := Lib.hid (HB1.out.trans (hb8.mono HB1.out.size))
             have BP2 := Lib.hid (box_next hb8 BP1.out)
             obtain ⟨_, _⟩ := row2 BP2.out
             clear hb8)
          | (go_at_call 10
             (with_reducible refine (HCK.out _ HB2.out).mono ?_)
             rintro e w9 ⟨he, hb9⟩
             rw [HZ.out] at he
             subst he
             obtain ⟨V3, rfl⟩ : ∃ W, W = w9 := ⟨_, rfl⟩
             have HB3 := Lib.hid (HB2.out.trans (hb9.mono HB2.out.size))
             have BP3 := Lib.hid (box_next hb9 BP2.out)
             obtain ⟨_, _⟩ := row2 BP3.out
             clear hb9)
          | (go_at_call 22
             (with_reducible refine (HONE.out _).mono ?_)
             rintro e w10 ⟨N0, rfl, ⟨L0, hb0, hn0⟩, hB0⟩
             obtain ⟨W4, rfl⟩ : ∃ W, W = w10 := ⟨_, rfl⟩
             obtain ⟨B1, m1, j1, B2, m2, j2, B3, m3, j3, B4, m4, j4, rfl, hmn⟩ := more_node hn0
             have HMN := Lib.hid hmn
             have HB4 := Lib.hid (HB3.out.trans (hB0.mono HB3.out.size))
             have BP4 := Lib.hid (box_next hB0 BP3.out)
             obtain ⟨_, _⟩ := row2 BP4.out
             obtain ⟨_, _, _, _, _⟩ := row5 hb0
             have g0 := row_frozen (heap_alloc_new W4 (.cells #[.string ⟨#[102]⟩, .slice B1 m1 j1, .slice B2 m2 j2, .slice B3 m3 j3, .slice B4 m4 j4] 41)) 0
             obtain ⟨_, _⟩ := row2 (alloc_below (o := .cells #[.string ⟨#[109, 111, 114, 101]⟩, .slice B1 m1 j1, .slice B2 m2 j2, .slice B3 m3 j3, .slice B4 m4 j4] 41) BP4.out)
             clear hb0 hn0 hmn hB0))
        have HZa := Lib.hid ((Below.refl W4.heap.size W4).alloc (Nat.le_refl _) (.cells #[.string ⟨#[109, 111, 114, 101]⟩, .slice B1 m1 j1, .slice B2 m2 j2, .slice B3 m3 j3, .slice B4 m4 j4] 41))
        have HZ2 := Lib.hid (HZa.out.alloc HZa.out.size (.cells #[.slice A1 n1 k1, .slice A2 p.nodes.length k2] 25))
        have BM := Lib.hid (alloc_below (o := (.cells #[.slice A1 n1 k1, .slice A2 p.nodes.length k2] 25)) (heap_alloc_new W4 (.cells #[.string ⟨#[109, 111, 114, 101]⟩, .slice B1 m1 j1, .slice B2 m2 j2, .slice B3 m3 j3, .slice B4 m4 j4] 41)))
        have BQ := Lib.hid (show ((W4.alloc (.cells #[.string ⟨#[109, 111, 114, 101]⟩, .slice B1 m1 j1, .slice B2 m2 j2, .slice B3 m3 j3, .slice B4 m4 j4] 41)).alloc (.cells #[.slice A1 n1 k1, .slice A2 p.nodes.length k2] 25)).heap[W4.heap.size + 1]? = some (.cells #[.slice A1 n1 k1, .slice A2 p.nodes.length k2] 25 (0, 0)) from alloc_at (by simp))
        have hZs : W4.heap.size + 2 ≤ ((W4.alloc (.cells #[.string ⟨#[109, 111, 114, 101]⟩, .slice B1 m1 j1, .slice B2 m2 j2, .slice B3 m3 j3, .slice B4 m4 j4] 41)).alloc (.cells #[.slice A1 n1 k1, .slice A2 p.nodes.length k2] 25)).heap.size := by simp
        generalize (W4.alloc (.cells #[.string ⟨#[109, 111, 114, 101]⟩, .slice B1 m1 j1, .slice B2 m2 j2, .slice B3 m3 j3, .slice B4 m4 j4] 41)).alloc (.cells #[.slice A1 n1 k1, .slice A2 p.nodes.length k2] 25) = Z at *
        have BPZ := Lib.hid (box_next HZ2.out BP4.out)
        have HBZ := Lib.hid (HB4.out.trans (HZ2.out.mono HB4.out.size))
        have hwM := HB4.out.size
        have hwM2 : w.heap.size < W4.heap.size := lt_of_heap BP4.out
        have HSN := Lib.hid (show SliceAt W4 (NodeAt W4) (.slice A2 p.nodes.length k2) p.nodes from HN.out.mono HB4.out (fun _ _ h => h.under HB4.out))
        have hl4 : p.nodes.length + 1 ≤ 4194304 := by omega
        obtain ⟨p0, p1⟩ := row2 BPZ.out
        obtain ⟨v0', v1', v2', v3', v4'⟩ := row5 BM.out
        obtain ⟨s0, s1⟩ := row2 BQ.out
        have fq := row_frozen BQ.out 1
        have hPl := lt_of_heap BPZ.out
        refine wp_region_held_drew (S := (fun W => W.cell? ⟨w.heap.size, 1, none⟩ = some (.slice A2 p.nodes.length k2) ∧ W.cell? ⟨W4.heap.size, 0, none⟩ = some (.string ⟨#[109, 111, 114, 101]⟩) ∧ W.cell? ⟨W4.heap.size, 1, none⟩ = some (.slice B1 m1 j1) ∧ W.cell? ⟨W4.heap.size, 2, none⟩ = some (.slice B2 m2 j2) ∧ W.cell? ⟨W4.heap.size, 3, none⟩ = some (.slice B3 m3 j3) ∧ W.cell? ⟨W4.heap.size, 4, none⟩ = some (.slice B4 m4 j4))) (by kernel_rfl) ?_ (fun hHeld => ?_)
        · (try dsimp only); go_keep
        have hl0 : ([] : List QNode).length + p.nodes.length ≤ 4194304 := by simp; omega
        have hl5 : ([] ++ p.nodes).length + [moreN].length ≤ 4194304 := by simp; omega
        refine take_at 0 (v := ?_) rfl (by kernel_rfl) (by kernel_rfl) (by kernel_rfl) (fun _ _ _ h => h) (by rfl) ?_ (by assumption) ?_
        rotate_left
        · intro w hSw; (try dsimp only at hSw); go_simp; (try rw [if_neg (by assumption)]); (try rw [if_pos (by omega)]); (try simp only [hSw]); (try with_reducible rfl)
        try simp only [Act.put, List.setIfInBounds_toArray, List.set_cons_zero, List.set_cons_succ]
        refine take_at 1 (v := ?_) rfl (by kernel_rfl) (by kernel_rfl) (by kernel_rfl) (fun _ _ _ h => h) (by rfl) ?_ (by assumption) ?_
        rotate_left
        · intro w hSw; (try dsimp only at hSw); go_simp; (try rw [if_neg (by assumption)]); (try rw [if_pos (by omega)]); (try simp only [hSw]); (try with_reducible rfl)
        try simp only [Act.put, List.setIfInBounds_toArray, List.set_cons_zero, List.set_cons_succ]
        refine take_at 3 (v := ?_) rfl (by kernel_rfl) (by kernel_rfl) (by kernel_rfl) (fun _ _ _ h => h) (by rfl) ?_ (by assumption) ?_
        rotate_left
        · intro w hSw; (try dsimp only at hSw); go_simp; (try rw [if_neg (by assumption)]); (try rw [if_pos (by omega)]); (try simp only [hSw]); (try with_reducible rfl)
        try simp only [Act.put, List.setIfInBounds_toArray, List.set_cons_zero, List.set_cons_succ]
        refine wpAnyH_ready (rs := [2, 4]) (by kernel_rfl) (by simp) (cons_at 2 rfl (fun K hK => ?_) (cons_at 4 rfl (fun K hK => ?_) AllReadyH.nil))
        · skip
          (refine step_ownN (Wc := W4) (B := Z.heap.size) (xs := []) (ys := p.nodes) rfl _ _ rfl rfl rfl (OwnG.nil _) (HSN.out.mono HZ2.out.drew (fun _ _ h => h)) hl0 (Nat.le_refl _) ?_
           intro v1 w1 ho1 hg1 hb1
           obtain ⟨Y1, rfl⟩ : ∃ W, W = w1 := ⟨_, rfl⟩
           obtain ⟨A5, m5, c5, rfl, hm5⟩ := ho1.shape
           clear hm5
           have HO1 := Lib.hid ho1
           have G1 := Lib.hid ((Below.refl Z.heap.size Z).drew.trans hb1)
           obtain ⟨_, p1⟩ := row2 (box_next G1.out BPZ.out)
           obtain ⟨v0', v1', v2', v3', v4'⟩ := row5 (box_next G1.out BM.out)
           clear ho1 hg1 hb1)
          refine hK.out _ _ ?_ (fun hHeld => ?_)
          · (try dsimp only); go_keep
          clear hK K
          try simp only [Act.put, List.setIfInBounds_toArray, List.set_cons_zero, List.set_cons_succ]
          refine only_at 4 (by kernel_rfl) rfl (fun K hK => ?_)
          go_simp
          refine hK.out _ _ ?_ (fun hHeld => ?_)
          · (try dsimp only); go_keep
          clear hK K
          try simp only [Act.put, List.setIfInBounds_toArray, List.set_cons_zero, List.set_cons_succ]
          have BX := Lib.hid (heap_alloc_new Y1 (.cells #[.string ⟨#[109, 111, 114, 101]⟩, .slice B1 m1 j1, .slice B2 m2 j2, .slice B3 m3 j3, .slice B4 m4 j4] 41))
          have G2 := Lib.hid (G1.out.alloc G1.out.size (.cells #[.string ⟨#[109, 111, 114, 101]⟩, .slice B1 m1 j1, .slice B2 m2 j2, .slice B3 m3 j3, .slice B4 m4 j4] 41))
          have HO2 := Lib.hid (HO1.out.under ((Below.refl Y1.heap.size Y1).alloc (Nat.le_refl _) (.cells #[.string ⟨#[109, 111, 114, 101]⟩, .slice B1 m1 j1, .slice B2 m2 j2, .slice B3 m3 j3, .slice B4 m4 j4] 41)))
          generalize Y1.alloc (.cells #[.string ⟨#[109, 111, 114, 101]⟩, .slice B1 m1 j1, .slice B2 m2 j2, .slice B3 m3 j3, .slice B4 m4 j4] 41) = Y2 at *
          obtain ⟨_, p1⟩ := row2 (box_next G2.out BPZ.out)
          obtain ⟨v0', v1', v2', v3', v4'⟩ := row5 (box_next G2.out BM.out)
          refine only_at 5 (by kernel_rfl) rfl (fun K hK => ?_)
          (refine step_ownN (Wc := W4) (B := Z.heap.size) (xs := [] ++ p.nodes) (ys := [moreN]) rfl _ _ rfl rfl rfl HO2.out (made1 BX.out HMN.out rfl) hl5 G2.out.size ?_
           intro v3 w3 ho3 _ hb3
           obtain ⟨Y3, rfl⟩ : ∃ W, W = w3 := ⟨_, rfl⟩
           obtain ⟨A6, m6, c6, rfl, hm6⟩ := ho3.shape
           have HM6 := Lib.hid hm6
           have HO3 := Lib.hid ho3
           have G3 := Lib.hid (G2.out.trans hb3)
           obtain ⟨_, p1⟩ := row2 (box_next G3.out BPZ.out)
           obtain ⟨v0', v1', v2', v3', v4'⟩ := row5 (box_next G3.out BM.out)
           have BQ3 := Lib.hid (box_next G3.out BQ.out)
           obtain ⟨_, s1⟩ := row2 BQ3.out
           have fq := row_frozen BQ3.out 1
           clear ho3 hb3 hm6)
          refine hK.out _ _ ?_ (fun hHeld => ?_)
          · (try dsimp only); go_keep
          clear hK K
          try simp only [Act.put, List.setIfInBounds_toArray, List.set_cons_zero, List.set_cons_succ]
          refine take_at 6 (v := ?_) rfl (by kernel_rfl) (by kernel_rfl) (by kernel_rfl) (fun _ _ _ h => h) (by rfl) ?_ (by assumption) ?_
          rotate_left
          · intro w hSw; (try dsimp only at hSw); go_simp; (try rw [if_neg (by assumption)]); (try rw [if_pos (by omega)]); (try simp only [hSw]); (try with_reducible rfl)
          try simp only [Act.put, List.setIfInBounds_toArray, List.set_cons_zero, List.set_cons_succ]
          have BP5 := Lib.hid ((Below.heap_setCell Y3 ⟨W4.heap.size + 1, 1, none⟩ (.slice A6 m6 c6) w.heap.size (show w.heap.size ≠ W4.heap.size + 1 by omega)).trans (box_next G3.out BPZ.out))
          obtain ⟨_, p1⟩ := row2 BP5.out
          obtain ⟨v0', v1', v2', v3', v4'⟩ := row5 ((Below.heap_setCell Y3 ⟨W4.heap.size + 1, 1, none⟩ (.slice A6 m6 c6) W4.heap.size (show W4.heap.size ≠ W4.heap.size + 1 by omega)).trans (box_next G3.out BM.out))
          refine only_at 7 (by kernel_rfl) rfl (fun K hK => ?_)
          go_simp
          refine hK.out _ _ ?_ (fun hHeld => ?_)
          · (try dsimp only); go_keep
          clear hK K
          refine wpAnyH_done (by kernel_rfl) ?_ _
          have B5 := Lib.hid (show (Y3.setCell ⟨W4.heap.size + 1, 1, none⟩ (.slice A6 m6 c6)).heap[W4.heap.size + 1]? = some (.cells #[.slice A1 n1 k1, .slice A6 m6 c6] 25 (0, 0)) by have := heap_setCell_same Y3 (W4.heap.size + 1) 1 _ _ (.slice A6 m6 c6) BQ3.out; simpa using this)
          have HB5 := Lib.hid ((HBZ.out.trans (G3.out.mono HBZ.out.size)).setCell (p := ⟨W4.heap.size + 1, 1, none⟩) (show w.heap.size ≤ W4.heap.size + 1 by omega) (.slice A6 m6 c6))
          have H45 := Lib.hid ((HZ2.out.trans (G3.out.mono HZ2.out.size)).setCell (p := ⟨W4.heap.size + 1, 1, none⟩) (show W4.heap.size ≤ W4.heap.size + 1 by omega) (.slice A6 m6 c6))
          have HO5 := Lib.hid ((HO3.out.set (a := ⟨W4.heap.size + 1, 1, none⟩) (show W4.heap.size + 1 < Z.heap.size by omega) (.slice A6 m6 c6)).at_)
          generalize Y3.setCell ⟨W4.heap.size + 1, 1, none⟩ (.slice A6 m6 c6) = Y5 at *
          have HP5 := Lib.hid (show ProgAt Y5 [.slice A1 n1 k1, .slice A6 m6 c6] ⟨p.enums, p.nodes ++ [moreN]⟩ from ⟨_, _, rfl, HE.out.mono HB5.out (fun _ _ h => h.under HB5.out), SliceAt.mono HO5.out (Below.refl _ Y5) (fun _ _ h => h.under H45.out)⟩)
          have HNO5 := Lib.hid (show ∀ W, Below Y5.heap.size Y5 W → Calls Tryz.prog 14 #[.agg #[.slice A1 n1 k1, .slice A6 m6 c6], .string ⟨#[109, 111, 114, 101]⟩] W (NodeRet (nodeF 0 moreT (p.nodes ++ [moreN])) W) from node_any HP5.out moreT)
          have HCK5 := Lib.hid (check_any true HP5.out (fun x hx => by
            rcases List.mem_append.1 hx with hx | hx
            · exact HQ.out x hx
            · rw [List.mem_singleton] at hx; subst hx; exact more_few))
          obtain ⟨_, p1⟩ := row2 BP5.out
          obtain ⟨t0, t1⟩ := row2 B5.out
          go_wp2_with (first
            | (go_at_call 14
               (with_reducible refine (HNO5.out _ (Below.refl _ _)).mono ?_)
               rintro e w6 ⟨he, hb6⟩
               rw [HMK.out.2] at he
               replace he : e = .returned (.tuple #[.int .i64 (p.nodes.length : Int), .bool true]) := he
               subst he
               obtain ⟨Y6, rfl⟩ : ∃ W, W = w6 := ⟨_, rfl⟩
               have HB6 := Lib.hid hb6
               obtain ⟨_, p1⟩ := row2 (box_next hb6 BP5.out)
               obtain ⟨t0, t1⟩ := row2 (box_next hb6 B5.out)
               clear hb6)
            | (go_at_call 10
               (with_reducible refine (HCK5.out _ HB6.out).mono ?_)
               rintro e w8 ⟨he, hb8⟩
               rw [HMK.out.1] at he
               subst he
               obtain ⟨Y8, rfl⟩ : ∃ W, W = w8 := ⟨_, rfl⟩
               have HB8 := Lib.hid (HB6.out.trans (hb8.mono HB6.out.size))
               obtain ⟨_, p1⟩ := row2 (box_next HB8.out BP5.out)
               clear hb8))
          go_ret
          exact ⟨rfl, HB5.out.trans (HB8.out.mono HB5.out.size)⟩
        · skip
          go_simp
          refine hK.out _ _ ?_ (fun hHeld => ?_)
          · (try dsimp only); go_keep
          clear hK K
          try simp only [Act.put, List.setIfInBounds_toArray, List.set_cons_zero, List.set_cons_succ]
          have BX := Lib.hid (show (Z.alloc (.cells #[.string ⟨#[109, 111, 114, 101]⟩, .slice B1 m1 j1, .slice B2 m2 j2, .slice B3 m3 j3, .slice B4 m4 j4] 41)).drew.heap[Z.heap.size]? = some (.cells #[.string ⟨#[109, 111, 114, 101]⟩, .slice B1 m1 j1, .slice B2 m2 j2, .slice B3 m3 j3, .slice B4 m4 j4] 41 (0, 0)) from heap_alloc_new Z _)
          have G2 := Lib.hid ((Below.refl Z.heap.size Z).alloc (Nat.le_refl _) (.cells #[.string ⟨#[109, 111, 114, 101]⟩, .slice B1 m1 j1, .slice B2 m2 j2, .slice B3 m3 j3, .slice B4 m4 j4] 41)).drew
          generalize (Z.alloc (.cells #[.string ⟨#[109, 111, 114, 101]⟩, .slice B1 m1 j1, .slice B2 m2 j2, .slice B3 m3 j3, .slice B4 m4 j4] 41)).drew = Y2 at *
          obtain ⟨_, p1⟩ := row2 (box_next G2.out BPZ.out)
          obtain ⟨v0', v1', v2', v3', v4'⟩ := row5 (box_next G2.out BM.out)
          refine only_at 2 (by kernel_rfl) rfl (fun K hK => ?_)
          (refine step_ownN (Wc := W4) (B := Z.heap.size) (xs := []) (ys := p.nodes) rfl _ _ rfl rfl rfl (OwnG.nil _) (HSN.out.mono (HZ2.out.trans (G2.out.mono HZ2.out.size)) (fun _ _ h => h)) hl0 G2.out.size ?_
           intro v1 w1 ho1 hg1 hb1
           obtain ⟨Y1, rfl⟩ : ∃ W, W = w1 := ⟨_, rfl⟩
           obtain ⟨A5, m5, c5, rfl, hm5⟩ := ho1.shape
           clear hm5
           have HO1 := Lib.hid ho1
           have G1 := Lib.hid (G2.out.trans hb1)
           have BX1 := Lib.hid (box_next (below_grown (show Y2.grownBy Y1 none from hg1)) BX.out)
           obtain ⟨_, p1⟩ := row2 (box_next G1.out BPZ.out)
           obtain ⟨v0', v1', v2', v3', v4'⟩ := row5 (box_next G1.out BM.out)
           clear ho1 hg1 hb1)
          refine hK.out _ _ ?_ (fun hHeld => ?_)
          · (try dsimp only); go_keep
          clear hK K
          try simp only [Act.put, List.setIfInBounds_toArray, List.set_cons_zero, List.set_cons_succ]
          refine only_at 5 (by kernel_rfl) rfl (fun K hK => ?_)
          (refine step_ownN (Wc := W4) (B := Z.heap.size) (xs := [] ++ p.nodes) (ys := [moreN]) rfl _ _ rfl rfl rfl HO1.out (made1 BX1.out HMN.out rfl) hl5 G1.out.size ?_
           intro v3 w3 ho3 _ hb3
           obtain ⟨Y3, rfl⟩ : ∃ W, W = w3 := ⟨_, rfl⟩
           obtain ⟨A6, m6, c6, rfl, hm6⟩ := ho3.shape
           have HM6 := Lib.hid hm6
           have HO3 := Lib.hid ho3
           have G3 := Lib.hid (G1.out.trans hb3)
           obtain ⟨_, p1⟩ := row2 (box_next G3.out BPZ.out)
           obtain ⟨v0', v1', v2', v3', v4'⟩ := row5 (box_next G3.out BM.out)
           have BQ3 := Lib.hid (box_next G3.out BQ.out)
           obtain ⟨_, s1⟩ := row2 BQ3.out
           have fq := row_frozen BQ3.out 1
           clear ho3 hb3 hm6)
          refine hK.out _ _ ?_ (fun hHeld => ?_)
          · (try dsimp only); go_keep
          clear hK K
          try simp only [Act.put, List.setIfInBounds_toArray, List.set_cons_zero, List.set_cons_succ]
          refine take_at 6 (v := ?_) rfl (by kernel_rfl) (by kernel_rfl) (by kernel_rfl) (fun _ _ _ h => h) (by rfl) ?_ (by assumption) ?_
          rotate_left
          · intro w hSw; (try dsimp only at hSw); go_simp; (try rw [if_neg (by assumption)]); (try rw [if_pos (by omega)]); (try simp only [hSw]); (try with_reducible rfl)
          try simp only [Act.put, List.setIfInBounds_toArray, List.set_cons_zero, List.set_cons_succ]
          have BP5 := Lib.hid ((Below.heap_setCell Y3 ⟨W4.heap.size + 1, 1, none⟩ (.slice A6 m6 c6) w.heap.size (show w.heap.size ≠ W4.heap.size + 1 by omega)).trans (box_next G3.out BPZ.out))
          obtain ⟨_, p1⟩ := row2 BP5.out
          obtain ⟨v0', v1', v2', v3', v4'⟩ := row5 ((Below.heap_setCell Y3 ⟨W4.heap.size + 1, 1, none⟩ (.slice A6 m6 c6) W4.heap.size (show W4.heap.size ≠ W4.heap.size + 1 by omega)).trans (box_next G3.out BM.out))
          refine only_at 7 (by kernel_rfl) rfl (fun K hK => ?_)
          go_simp
          refine hK.out _ _ ?_ (fun hHeld => ?_)
          · (try dsimp only); go_keep
          clear hK K
          refine wpAnyH_done (by kernel_rfl) ?_ _
          have B5 := Lib.hid (show (Y3.setCell ⟨W4.heap.size + 1, 1, none⟩ (.slice A6 m6 c6)).heap[W4.heap.size + 1]? = some (.cells #[.slice A1 n1 k1, .slice A6 m6 c6] 25 (0, 0)) by have := heap_setCell_same Y3 (W4.heap.size + 1) 1 _ _ (.slice A6 m6 c6) BQ3.out; simpa using this)
          have HB5 := Lib.hid ((HBZ.out.trans (G3.out.mono HBZ.out.size)).setCell (p := ⟨W4.heap.size + 1, 1, none⟩) (show w.heap.size ≤ W4.heap.size + 1 by omega) (.slice A6 m6 c6))
          have H45 := Lib.hid ((HZ2.out.trans (G3.out.mono HZ2.out.size)).setCell (p := ⟨W4.heap.size + 1, 1, none⟩) (show W4.heap.size ≤ W4.heap.size + 1 by omega) (.slice A6 m6 c6))
          have HO5 := Lib.hid ((HO3.out.set (a := ⟨W4.heap.size + 1, 1, none⟩) (show W4.heap.size + 1 < Z.heap.size by omega) (.slice A6 m6 c6)).at_)
          generalize Y3.setCell ⟨W4.heap.size + 1, 1, none⟩ (.slice A6 m6 c6) = Y5 at *
          have HP5 := Lib.hid (show ProgAt Y5 [.slice A1 n1 k1, .slice A6 m6 c6] ⟨p.enums, p.nodes ++ [moreN]⟩ from ⟨_, _, rfl, HE.out.mono HB5.out (fun _ _ h => h.under HB5.out), SliceAt.mono HO5.out (Below.refl _ Y5) (fun _ _ h => h.under H45.out)⟩)
          have HNO5 := Lib.hid (show ∀ W, Below Y5.heap.size Y5 W → Calls Tryz.prog 14 #[.agg #[.slice A1 n1 k1, .slice A6 m6 c6], .string ⟨#[109, 111, 114, 101]⟩] W (NodeRet (nodeF 0 moreT (p.nodes ++ [moreN])) W) from node_any HP5.out moreT)
          have HCK5 := Lib.hid (check_any true HP5.out (fun x hx => by
            rcases List.mem_append.1 hx with hx | hx
            · exact HQ.out x hx
            · rw [List.mem_singleton] at hx; subst hx; exact more_few))
          obtain ⟨_, p1⟩ := row2 BP5.out
          obtain ⟨t0, t1⟩ := row2 B5.out
          go_wp2_with (first
            | (go_at_call 14
               (with_reducible refine (HNO5.out _ (Below.refl _ _)).mono ?_)
               rintro e w6 ⟨he, hb6⟩
               rw [HMK.out.2] at he
               replace he : e = .returned (.tuple #[.int .i64 (p.nodes.length : Int), .bool true]) := he
               subst he
               obtain ⟨Y6, rfl⟩ : ∃ W, W = w6 := ⟨_, rfl⟩
               have HB6 := Lib.hid hb6
               obtain ⟨_, p1⟩ := row2 (box_next hb6 BP5.out)
               obtain ⟨t0, t1⟩ := row2 (box_next hb6 B5.out)
               clear hb6)
            | (go_at_call 10
               (with_reducible refine (HCK5.out _ HB6.out).mono ?_)
               rintro e w8 ⟨he, hb8⟩
               rw [HMK.out.1] at he
               subst he
               obtain ⟨Y8, rfl⟩ : ∃ W, W = w8 := ⟨_, rfl⟩
               have HB8 := Lib.hid (HB6.out.trans (hb8.mono HB6.out.size))
               obtain ⟨_, p1⟩ := row2 (box_next HB8.out BP5.out)
               clear hb8))
          go_ret
          exact ⟨rfl, HB5.out.trans (HB8.out.mono HB5.out.size)⟩
      · have hd : ((checkQ true p).1 != 0) = true := by simp [hc]
        clear hc
        go_enter Tryz.func8, Tryz.ntmps8
        go_wp2_with (first
          | (go_at_call 9
             (with_reducible refine (lives_any _).mono ?_)
             rintro e w7 ⟨rfl, hb7⟩
             obtain ⟨V1, rfl⟩ : ∃ W, W = w7 := ⟨_, rfl⟩
             have HB1 := Lib.hid (hal.out.trans (hb7.mono hal.out.size))
             have BP1 := Lib.hid (box_next hb7 BP.out)
             obtain ⟨_, _⟩ := row2 BP1.out
             clear hb7)
          | (go_at_call 14
             (with_reducible refine (HNO.out _ HB1.out).mono ?_)
             rintro e w8 ⟨he, hb8⟩
             replace he : e = .returned (.tuple #[.int .i64 r.1, .bool r.2]) := he
             rw [HR2.out] at he
             subst he
             obtain ⟨V2, rfl⟩ : ∃ W, W = w8 := ⟨_, rfl⟩
             have HB2 := Lib.hid (HB1.out.trans (hb8.mono HB1.out.size))
             have BP2 := Lib.hid (box_next hb8 BP1.out)
             obtain ⟨_, _⟩ := row2 BP2.out
             clear hb8)
          | (go_at_call 10
             (with_reducible refine (HCK.out _ HB2.out).mono ?_)
             rintro e w9 ⟨rfl, hb9⟩
             have HB3 := Lib.hid (HB2.out.trans (hb9.mono HB2.out.size))
             clear hb9))
        go_ret
        exact ⟨rfl, HB3.out⟩
    · have hd1 : decide ((p.nodes.length : Int) ≥ 16) = true := by simp; omega
      go_enter Tryz.func8, Tryz.ntmps8
      go_wp2_with (first
        | (go_at_call 9
           (with_reducible refine (lives_any _).mono ?_)
           rintro e w7 ⟨rfl, hb7⟩
           obtain ⟨V1, rfl⟩ : ∃ W, W = w7 := ⟨_, rfl⟩
           have HB1 := Lib.hid (hal.out.trans (hb7.mono hal.out.size))
           have BP1 := Lib.hid (box_next hb7 BP.out)
           obtain ⟨_, _⟩ := row2 BP1.out
           clear hb7)
        | (go_at_call 14
           (with_reducible refine (HNO.out _ HB1.out).mono ?_)
           rintro e w8 ⟨he, hb8⟩
           replace he : e = .returned (.tuple #[.int .i64 r.1, .bool r.2]) := he
           rw [HR2.out] at he
           subst he
           obtain ⟨V2, rfl⟩ : ∃ W, W = w8 := ⟨_, rfl⟩
           have HB2 := Lib.hid (HB1.out.trans (hb8.mono HB1.out.size))
           have BP2 := Lib.hid (box_next hb8 BP1.out)
           obtain ⟨_, _⟩ := row2 BP2.out
           clear hb8))
      go_ret
      exact ⟨rfl, HB2.out⟩
  · have HR2 := Lib.hid hr2
    clear hr2
    go_enter Tryz.func8, Tryz.ntmps8
    go_wp2_with (first
      | (go_at_call 9
         (with_reducible refine (lives_any _).mono ?_)
         rintro e w7 ⟨rfl, hb7⟩
         obtain ⟨V1, rfl⟩ : ∃ W, W = w7 := ⟨_, rfl⟩
         have HB1 := Lib.hid (hal.out.trans (hb7.mono hal.out.size))
         have BP1 := Lib.hid (box_next hb7 BP.out)
         obtain ⟨_, _⟩ := row2 BP1.out
         clear hb7)
      | (go_at_call 14
         (with_reducible refine (HNO.out _ HB1.out).mono ?_)
         rintro e w8 ⟨he, hb8⟩
         replace he : e = .returned (.tuple #[.int .i64 r.1, .bool r.2]) := he
         rw [HR2.out] at he
         subst he
         obtain ⟨V2, rfl⟩ : ∃ W, W = w8 := ⟨_, rfl⟩
         have HB2 := Lib.hid (HB1.out.trans (hb8.mono HB1.out.size))
         have BP2 := Lib.hid (box_next hb8 BP1.out)
         obtain ⟨_, _⟩ := row2 BP2.out
         clear hb8))
    go_ret
    exact ⟨rfl, HB2.out⟩
theorem more_law (L : List Value) (p : QProg) (w : World) (hL : ProgAt w L p) (hp : wProg p ≤ 1048576) : Calls Tryz.prog 8 #[.agg L.toArray] w (Lived w) := by
  obtain ⟨A1, n1, k1, A2, n2, k2, rfl⟩ := prog_shape hL
  exact more_walk hL (prog_few hp)
end Go.Proofs.YtbpbnebcbjacdaaGreat
