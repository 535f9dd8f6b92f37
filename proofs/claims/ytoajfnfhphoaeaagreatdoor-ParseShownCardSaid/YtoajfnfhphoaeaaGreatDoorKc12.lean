/-
  Texts joined, what is not needed here left out: TreeWt ParseGot.
-/
import Derived.Lib.ItoaLen
import Derived.Test.YtoajfnfhphoaeaaGreatDoorKc03
import Derived.Test.YtoajfnfhphoaeaaGreatDoorKc05
import Derived.Test.YtoajfnfhphoaeaaGreatDoorKc08
import Derived.Test.YtoajfnfhphoaeaaGreatDoorKc09
namespace Go.Proofs.YtoajfnfhphoaeaaGreatDoor
theorem wN_app (a b : List Tx) : wN (a ++ b) = wN a + wN b := by
  induction a with
  | nil => simp [wN]
  | cons x r ih => simp [wN, ih]; omega
theorem wN_cons (x : Tx) (r : List Tx) : wN (x :: r) = x.length + 1 + wN r := rfl
theorem wN_nil : wN [] = 0 := rfl
theorem putL_wN (ts : List Tx) : ∀ g, (putL g ts).length ≤ wN ts := by
  induction ts with
  | nil => intro g; simp [putL, wN]
  | cons t r ih =>
    intro g; have h1 := ih true; cases g <;> simp [putL, wN] <;> omega
theorem size_of_wN {ts : List Tx} (h : wN ts ≤ 140737488355328) : SizeOk ts := Nat.le_trans (putL_wN ts false) h
theorem flat_wN {X : Type} {f : X → List Tx} {g : X → Nat} {c : Nat} {l : List X} (h : ∀ x ∈ l, wN (f x) ≤ c * g x) : wN (l.flatMap f) ≤ c * wL g l := by
  induction l with
  | nil => simp [wN, wL]
  | cons x r ih =>
    have h1 := h x (by simp); have h2 := ih (fun y hy => h y (by simp [hy])); rw [List.flatMap_cons, wN_app, wL, Nat.mul_add]; omega
theorem sep_wN {s : Tx} {T : List (List Tx)} (hs : s.length = 1) : wN (sepT s T) ≤ wL (fun t => wN t + 2) T := by
  cases T with
  | nil => simp [sepT, wN, wL]
  | cons x r =>
    have : ∀ r : List (List Tx), wN (r.flatMap fun y => s :: y) = wL (fun t => wN t + 2) r := by
      intro r; induction r with
      | nil => simp [wN, wL]
      | cons y r ih => rw [List.flatMap_cons, wN_app, ih, wN_cons, wL, hs]; omega
    rw [sepT, wN_app, this, wL]; omega
theorem names_wN {s : Tx} {l : List Tx} (hs : s.length = 1) : wN (namesT s l) ≤ 3 * wN l := by
  refine Nat.le_trans (sep_wN hs) ?_; induction l with
  | nil => simp [wN, wL]
  | cons x r ih =>
    simp only [List.map_cons, wL, wN_cons, wN_nil] at ih ⊢; omega
theorem statics_wN (l : List Tx) : wN (staticsT l) ≤ 3 * wN l + 4 := by
  unfold staticsT; split
  · simp [wN]
  · have := names_wN (s := [44]) (l := l) rfl; rw [wN_cons, wN_app, wN_cons, wN_nil]; simp only [List.length_cons, List.length_nil]; omega
theorem kids_wN (T : List (List Tx)) : wN (kidT T 0) + wN (kidT T 1) + wN (kidT T 2) ≤ wL (fun t => wN t + 2) T + 6 := by
  match T with
  | [] => simp [kidT, wN, wL]
  | [a] => simp [kidT, wN, wL] <;> omega
  | [a, b] => simp [kidT, wN, wL] <;> omega
  | a :: b :: c :: r => simp [kidT, wL] <;> omega
theorem arms_wN : ∀ (cs : List Tx) (T : List (List Tx)), wL (fun t => wN t + 2) (armsT cs T) ≤ 6 * wN cs + wL (fun t => wN t + 2) T
  | [], T => by simp [armsT, wL]
  | c :: cs, [] => by simp [armsT, wL]
  | c :: cs, t :: T => by
    have := arms_wN cs T
    simp only [armsT, wL, wN_cons, List.length_cons, List.length_nil] at this ⊢
    omega
/- the numbers are 64-bit ones -/
mutual
def i64x : Ex → Prop
  | .mk _ _ n _ ks => i64B n ∧ i64xs ks
def i64xs : List Ex → Prop
  | [] => True
  | k :: r => i64x k ∧ i64xs r
end
theorem i64xs_all {l : List Ex} : i64xs l ↔ ∀ k ∈ l, i64x k := by
  induction l with
  | nil => simp [i64xs]
  | cons k r ih => simp [i64xs, ih]
theorem ExAt.i64 {w : Go.World} {L : List Go.Value} {x : Ex} (h : ExAt w L x) : i64x x := by
  induction h with
  | mk hop hnm hn hcs hl hc hk hx ih =>
    rw [i64x, i64xs_all]; refine ⟨hn, fun k hk' => ?_⟩; obtain ⟨i, hi, rfl⟩ := List.getElem_of_mem hk'; exact ih i _ (List.getElem?_eq_getElem hi)
theorem bnd_of_i64 : ∀ x : Ex, i64x x → bndX x := by
  intro x; induction x using Ex.ind with
  | h op nm n cs ks ih =>
    intro h; rw [i64x, i64xs_all] at h; rw [bndX, bndXs_all]; exact ⟨h.1.2, fun k hk => ih k hk (h.2 k hk)⟩
theorem toks_wN : ∀ x : Ex, i64x x → wN (toksX x) + 2 ≤ 6 * wX x := by
  intro x; induction x using Ex.ind with
  | h op nm n cs ks ih =>
    intro hb; rw [i64x, i64xs_all] at hb; obtain ⟨hn, hbk⟩ := hb; have hT : wL (fun t => wN t + 2) (ks.map toksX) ≤ 6 * wXs ks := by
      clear hn; induction ks with
      | nil => simp [wL, wXs]
      | cons k r ihr =>
        have h1 := ih k (by simp) (hbk k (by simp)); have h2 := ihr (fun y hy => ih y (by simp [hy])) (fun y hy => hbk y (by simp [hy])); simp only [List.map_cons, wL, wXs]; omega
    have hk := kids_wN (ks.map toksX); have hc := names_wN (s := [44]) (l := cs) rfl; have hs := statics_wN cs; have ha := arms_wN cs (ks.map toksX); have hsp := sep_wN (s := [44]) (T := ks.map toksX) rfl; have hsa := sep_wN (s := [124]) (T := armsT cs (ks.map toksX)) rfl; have hi := Lib.itoa_length_le n hn.1 hn.2; rw [toksX_mk, wX]; rcases op_case op with rfl | rfl | rfl | rfl | rfl | rfl | rfl | rfl | rfl | rfl | rfl | rfl | rfl | rfl | rfl | ⟨h1, h2, h3, h4, h5, h6, h7, h8, h9, h10, h11, h12, h13, h14, h15⟩
    · rw [show toksOf 1 nm n cs (ks.map toksX) = [Lib.itoa n] by simp [toksOf]]; simp only [wN_cons, wN_nil]; omega
    · rw [show toksOf 2 nm n cs (ks.map toksX) = [if n = 1 then trueT else falseT] by simp [toksOf]]; split <;> simp [wN, trueT, falseT] <;> omega
    · rw [show toksOf 3 nm n cs (ks.map toksX) = [nm] by simp [toksOf]]; simp only [wN_cons, wN_nil]; omega
    · rw [show toksOf 4 nm n cs (ks.map toksX) = [nm] by simp [toksOf]]; simp only [wN_cons, wN_nil]; omega
    · rw [show toksOf 5 nm n cs (ks.map toksX) = prefixT nm (ks.map toksX) by simp [toksOf]]; simp only [prefixT, wN_cons, wN_app, wN_nil, List.length_cons, List.length_nil]; omega
    · rw [show toksOf 6 nm n cs (ks.map toksX) = infixT nm (ks.map toksX) by simp [toksOf]]; simp only [infixT, wN_cons, wN_app, wN_nil, List.length_cons, List.length_nil]; omega
    · rw [show toksOf 7 nm n cs (ks.map toksX) = choiceT (ks.map toksX) by simp [toksOf]]; simp only [choiceT, wN_cons, wN_app, wN_nil, List.length_cons, List.length_nil]; omega
    · rw [show toksOf 8 nm n cs (ks.map toksX) = infixT fbyT (ks.map toksX) by simp [toksOf]]; simp only [infixT, fbyT, wN_cons, wN_app, wN_nil, List.length_cons, List.length_nil]; omega
    · rw [show toksOf 9 nm n cs (ks.map toksX) = prefixT preT (ks.map toksX) by simp [toksOf]]; simp only [prefixT, preT, wN_cons, wN_app, wN_nil, List.length_cons, List.length_nil]; omega
    · rw [show toksOf 10 nm n cs (ks.map toksX) = infixT arrowT (ks.map toksX) by simp [toksOf]]; simp only [infixT, arrowT, wN_cons, wN_app, wN_nil, List.length_cons, List.length_nil]; omega
    · rw [show toksOf 11 nm n cs (ks.map toksX) = whenT nm cs (ks.map toksX) by simp [toksOf]]; simp only [whenT, wN_cons, wN_app, wN_nil, List.length_cons, List.length_nil]; omega
    · rw [show toksOf 12 nm n cs (ks.map toksX) = armT mergeT nm cs (ks.map toksX) by simp [toksOf]]; simp only [armT, mergeT, wN_cons, wN_app, wN_nil, List.length_cons, List.length_nil]; omega
    · rw [show toksOf 13 nm n cs (ks.map toksX) = armT matchT nm cs (ks.map toksX) by simp [toksOf]]; simp only [armT, matchT, wN_cons, wN_app, wN_nil, List.length_cons, List.length_nil]; omega
    · rw [show toksOf 14 nm n cs (ks.map toksX) = callT nm cs (ks.map toksX) by simp [toksOf]]; simp only [callT, wN_cons, wN_app, wN_nil, List.length_cons, List.length_nil]; omega
    · rw [show toksOf 15 nm n cs (ks.map toksX) = infixT everyT (ks.map toksX) by simp [toksOf]]; simp only [infixT, everyT, wN_cons, wN_app, wN_nil, List.length_cons, List.length_nil]; omega
    · rw [show toksOf op nm n cs (ks.map toksX) = [[63]] by simp [toksOf, *]]; simp only [wN_cons, wN_nil, List.length_cons, List.length_nil]; omega
/- weights of programs -/
def i64Item (i : QItem) : Prop := i64x i.eq.e ∧ ∀ s ∈ i.states, (∀ q ∈ s.eqs, i64x q.e) ∧ ∀ y ∈ s.ways, i64x y.cond
def i64P (p : QProg) : Prop := ∀ n ∈ p.nodes, ∀ i ∈ n.items, i64Item i
theorem SliceAt.mem {X : Type} {w : Go.World} {R : List Go.Value → X → Prop} {v : Go.Value} {l : List X} (h : SliceAt w R v l) {x : X} (hx : x ∈ l) : ∃ L, R L x := by
  obtain ⟨_, _, _, _, _, h3⟩ := h; obtain ⟨i, hi, rfl⟩ := List.getElem_of_mem hx; obtain ⟨L, _, h⟩ := h3 i _ (List.getElem?_eq_getElem hi); exact ⟨L, h⟩
theorem EqAt.i64 {w : Go.World} {L : List Go.Value} {q : QEq} (h : EqAt w L q) : i64x q.e := by
  obtain ⟨_, _, _, _, h⟩ := h; exact h.i64
theorem ItemAt.i64 {w : Go.World} {L : List Go.Value} {i : QItem} (h : ItemAt w L i) : i64Item i := by
  obtain ⟨_, _, _, h1, h2⟩ := h; refine ⟨h1.i64, fun s hs => ?_⟩; obtain ⟨_, _, _, _, _, h3, h4⟩ := h2.mem hs; refine ⟨fun q hq => ?_, fun y hy => ?_⟩
  · obtain ⟨_, h⟩ := h3.mem hq; exact h.i64
  · obtain ⟨_, _, _, h, _⟩ := h4.mem hy; exact h.i64
theorem ProgAt.i64 {w : Go.World} {L : List Go.Value} {p : QProg} (h : ProgAt w L p) : i64P p := by
  obtain ⟨_, _, _, _, h2⟩ := h; intro n hn i hi; obtain ⟨_, _, _, _, _, _, _, _, _, _, h⟩ := h2.mem hn; obtain ⟨_, h⟩ := h.mem hi; exact h.i64
theorem i64P.bnd {p : QProg} (h : i64P p) : bndP p := fun n hn i hi => by
  obtain ⟨h1, h2⟩ := h n hn i hi
  exact ⟨bnd_of_i64 _ h1, fun s hs => ⟨fun q hq => bnd_of_i64 _ ((h2 s hs).1 q hq), fun y hy => bnd_of_i64 _ ((h2 s hs).2 y hy)⟩⟩
theorem eq_wN {q : QEq} (h : i64x q.e) : wN (eqT q) ≤ 6 * wEq q := by
  have h1 := toks_wN q.e h; have h2 := names_wN (s := [44]) (l := q.names) rfl; unfold eqT wEq; split
  · rename_i x hx; rw [hx] at h2 ⊢; simp only [wN_app, wN_cons, wN_nil, List.length_cons, List.length_nil] at h2 ⊢; omega
  · simp only [wN_app, wN_cons, wN_nil, List.length_cons, List.length_nil]; omega
theorem way_wN {y : QWay} (h : i64x y.cond) : wN (wayT y) ≤ 7 * wWay y := by
  have h1 := toks_wN y.cond h; unfold wayT wWay; simp only [wN_app, wN_cons, wN_nil, List.length_cons, List.length_nil]; omega
theorem state_wN {s : QState} (h : (∀ q ∈ s.eqs, i64x q.e) ∧ ∀ y ∈ s.ways, i64x y.cond) : wN (stateT s) ≤ 7 * wState s := by
  have h1 := flat_wN (f := eqT) (g := wEq) (c := 7) (l := s.eqs) (fun q hq => Nat.le_trans (eq_wN (h.1 q hq)) (by omega)); have h2 := flat_wN (f := wayT) (g := wWay) (c := 7) (l := s.ways) (fun y hy => way_wN (h.2 y hy)); unfold stateT wState; simp only [wN_app, wN_cons, List.length_cons, List.length_nil]; omega
theorem item_wN {i : QItem} (h : i64Item i) : wN (itemT i) ≤ 8 * wItem i := by
  have h1 := eq_wN h.1; have h2 := flat_wN (f := stateT) (g := wState) (c := 7) (l := i.states) (fun s hs => state_wN (h.2 s hs)); unfold itemT wItem; split
  · omega
  · simp only [wN_app, wN_cons, wN_nil, List.length_cons, List.length_nil]; omega
theorem enum_wN (e : QEnum) : wN (enumT e) ≤ 8 * wEnum e := by
  have h2 := names_wN (s := [124]) (l := e.cons) rfl; unfold enumT wEnum; simp only [wN_app, wN_cons, wN_nil, List.length_cons, List.length_nil]; omega
theorem node_wN {n : QNode} (h : ∀ i ∈ n.items, i64Item i) : wN (nodeT n) ≤ 8 * wNode n := by
  have h1 := names_wN (s := [44]) (l := n.ins) rfl; have h2 := names_wN (s := [44]) (l := n.outs) rfl; have h3 := statics_wN n.funs; have h4 := flat_wN (f := itemT) (g := wItem) (c := 8) (l := n.items) (fun i hi => item_wN (h i hi)); unfold nodeT wNode; simp only [wN_app, wN_cons, wN_nil, List.length_cons, List.length_nil]; omega
theorem prog_wN {p : QProg} (h : i64P p) : wN (progT p) ≤ 8 * wProg p := by
  have h1 := flat_wN (f := enumT) (g := wEnum) (c := 8) (l := p.enums) (fun e _ => enum_wN e); have h2 := flat_wN (f := nodeT) (g := wNode) (c := 8) (l := p.nodes) (fun n hn => node_wN (h n hn)); unfold progT wProg; rw [wN_app]; omega
theorem prog_size {p : QProg} (h : i64P p) (hw : wProg p ≤ 1048576) : SizeOk (progT p) := size_of_wN (by have := prog_wN h; omega)
end Go.Proofs.YtoajfnfhphoaeaaGreatDoor

namespace Go.Proofs.YtoajfnfhphoaeaaGreatDoor
theorem wN_brief : ∀ {ts : List Tx}, Briefs ts → wN ts ≤ ts.length * 65537
  | [], _ => by simp [wN_nil]
  | t :: r, h => by
    have h1 : t.length ≤ 65536 := h t (by simp)
    have h2 := wN_brief (ts := r) fun x hx => h x (by simp [hx])
    rw [wN_cons, List.length_cons]
    omega
theorem size_brief {ts : List Tx} (h : Briefs ts) (hl : ts.length ≤ 196611) : SizeOk ts := size_of_wN (by have := wN_brief h; omega)
theorem Briefs.names {s : Tx} (hs : Brief s) {l : List Tx} (h : ∀ x ∈ l, Brief x) : Briefs (namesT s l) := .sep hs fun y hy => by
  obtain ⟨x, hx, rfl⟩ := List.mem_map.1 hy
  exact .cons (h x hx) .nil
theorem GEq.briefs {q : QEq} (h : GEq q) : Briefs (eqT q) := by
  obtain ⟨l, e⟩ := q; obtain ⟨⟨h0, h1⟩, h2⟩ := h; have hr : Briefs ([61] :: (toksX e ++ [[59]])) := .cons brief_lit (.app h2.2 (.cons brief_lit .nil)); unfold eqT; split
  · rename_i x hx; exact .app (.cons (h1 x (by rw [hx]; simp)).2 .nil) hr
  · exact .app (.cons brief_lit (.app (.names brief_lit fun x hx => (h1 x hx).2) (.cons brief_lit .nil))) hr
theorem GWay.briefs {y : QWay} (h : GWay y) : Briefs (wayT y) := .cons brief_lit (.app h.2.2 (.cons brief_lit (.cons h.1.2 (.cons brief_lit .nil))))
theorem GState.briefs {s : QState} (h : GState s) : Briefs (stateT s) := .cons brief_lit (.cons h.1.2 (.cons brief_lit (.app (.flat fun q hq => (h.2.1 q hq).briefs) (.flat fun y hy => (h.2.2 y hy).briefs))))
theorem GItem.briefs {i : QItem} (h : GItem i) : Briefs (itemT i) := by
  unfold itemT; rcases h with ⟨h0, h⟩ | ⟨h0, _, h⟩
  · rw [if_pos h0]; exact h.briefs
  · rw [if_neg h0]; exact .cons brief_lit (.app (.flat fun s hs => (h s hs).briefs) (.cons brief_lit (.cons brief_lit .nil)))
theorem GNode.briefs {n : QNode} (h : GNode n) : Briefs (nodeT n) := by
  obtain ⟨h1, h2, h3, h4, h5⟩ := h; exact .cons brief_lit (.cons h1.2 (.app (statics_briefs h2) (.cons brief_lit (.app (.names brief_lit fun x hx => (h3.2 x hx).2) (.cons brief_lit (.cons brief_lit (.cons brief_lit (.app (.names brief_lit fun x hx => (h4.2 x hx).2) (.cons brief_lit (.cons brief_lit (.app (.flat fun i hi => (h5 i hi).briefs) (.cons brief_lit .nil))))))))))))
theorem GEnum.briefs {e : QEnum} (h : GEnum e) : Briefs (enumT e) := .cons brief_lit (.cons h.1.2 (.cons brief_lit (.app (.names brief_lit fun x hx => (h.2.2 x hx).2) (.cons brief_lit .nil))))
theorem GProg.briefs {p : QProg} (h : GProg p) : Briefs (progT p) := .app (.flat fun e he => (h.1 e he).briefs) (.flat fun n hn => (h.2 n hn).briefs)
/- a node's expressions are no more than its tokens -/
theorem gflat_le {X Y : Type} {f : X → List Y} {T : X → List Tx} : ∀ {l : List X}, (∀ x ∈ l, (f x).length ≤ (T x).length) → (l.flatMap f).length ≤ (l.flatMap T).length
  | [], _ => by simp
  | x :: l, h => by
    have h1 := h x (by simp)
    have h2 := gflat_le (l := l) fun y hy => h y (by simp [hy])
    simp only [List.flatMap_cons, List.length_append]
    omega
theorem flat_mem {X : Type} {T : X → List Tx} {x : X} : ∀ {l : List X}, x ∈ l → (T x).length ≤ (l.flatMap T).length
  | y :: l, h => by
    simp only [List.flatMap_cons, List.length_append]
    rcases List.mem_cons.1 h with rfl | h
    · omega
    · have := flat_mem (T := T) h; omega
theorem state_few (s : QState) : (stateX s).length ≤ (stateT s).length := by
  have h1 := flat_len (T := eqT) eqT_ne s.eqs; have h2 := flat_len (T := wayT) (fun y => by simp [wayT]) s.ways; simp only [stateX, stateT, List.length_append, List.length_map, List.length_cons]; omega
theorem item_few (i : QItem) : (itemX i).length ≤ (itemT i).length := by
  unfold itemX itemT; by_cases h : i.states = []
  · rw [if_pos h, if_pos h, h]; have := List.length_pos_iff.2 (eqT_ne i.eq); simp; omega
  · rw [if_neg h, if_neg h]; have := gflat_le (f := stateX) (T := stateT) (l := i.states) fun s _ => state_few s; simp only [List.nil_append, List.length_cons, List.length_append]; omega
theorem gnode_few (n : QNode) : (nodeX n).length ≤ (nodeT n).length := by
  have := gflat_le (f := itemX) (T := itemT) (l := n.items) fun i _ => item_few i; simp only [nodeX, nodeT, List.length_cons, List.length_append]; omega
theorem gprog_few {p : QProg} {n : QNode} (h : n ∈ p.nodes) : (nodeX n).length ≤ (progT p).length := by
  have h1 := gnode_few n; have h2 := flat_mem (T := nodeT) h; rw [progT, List.length_append]; omega
/- depths -/
theorem depthF_dN : ∀ (ks : List Ex) (n : Int), 0 ≤ n → (∀ k ∈ ks, depthW k = (dN k : Int)) → depthF n ks = max n (dNs ks : Int)
  | [], n, h, _ => by rw [depthF, dNs]; omega
  | k :: r, n, h, hk => by
    rw [depthF, dNs, hk k (by simp), depthF_dN r _ (by omega) fun x hx => hk x (by simp [hx])]
    omega
theorem depthW_dN : ∀ x : Ex, dN x ≤ 9223372036854775807 → depthW x = (dN x : Int) := by
  intro x; induction x using Ex.ind with
  | h op nm n cs ks ih =>
    intro h; rw [dN] at h ⊢; rw [depthW, depthF_dN ks 0 (by omega) fun k hk => ih k hk (by have := dNs_le hk; omega)]; unfold Go.RowKit.wrap64; omega
theorem dN_wX : ∀ x : Ex, dN x ≤ wX x := by
  intro x; induction x using Ex.ind with
  | h op nm n cs ks ih =>
    rw [dN, wX]; have : ∀ l : List Ex, (∀ k ∈ l, dN k ≤ wX k) → dNs l ≤ wXs l := by
      intro l; induction l with
      | nil => intro _; rw [dNs]; omega
      | cons k r ih2 =>
        intro h; have h1 := h k (by simp); have h2 := ih2 fun y hy => h y (by simp [hy]); rw [dNs, wXs]; omega
    have := this ks ih; omega
theorem largeF_depth : ∀ (l : List Ex) (s : Int), largeF s l = false → ∀ x ∈ l, depthW x ≤ 40
  | [], _, _, x, hx => by cases hx
  | y :: r, s, h, x, hx => by
    rw [largeF] at h
    split at h
    · cases h
    · rcases List.mem_cons.1 hx with rfl | hx
      · omega
      · exact largeF_depth r _ h x hx
theorem item_xs {i : QItem} {x : Ex} (h : x ∈ itXs i) : x ∈ itemX i := by
  unfold itXs at h; unfold itemX; split at h
  · rename_i h0; rw [if_pos h0]; exact List.mem_append.2 (.inl h)
  · exact List.mem_append.2 (.inr h)
theorem node_xs {n : QNode} {x : Ex} (h : x ∈ ndXs n) : x ∈ nodeX n := by
  obtain ⟨i, hi, hx⟩ := List.mem_flatMap.1 h; exact List.mem_flatMap.2 ⟨i, hi, item_xs hx⟩
theorem right_large {p : QProg} (h : rightL false p = 0) : ∀ n ∈ p.nodes, largeN n = false := by
  unfold rightL at h; split at h
  · split at h
    · omega
    · rename_i h1; intro n hn; cases hl : largeN n with
      | false => rfl
      | true => exact absurd (List.any_eq_true.2 ⟨n, hn, hl⟩) h1
  · omega
theorem right_deep {p : QProg} (h : rightL false p = 0) (hd : ∀ x ∈ pgXs p, dN x ≤ 9223372036854775807) : ∀ x ∈ pgXs p, dN x ≤ 50 := by
  intro x hx; obtain ⟨n, hn, hxn⟩ := List.mem_flatMap.1 hx; have h1 := largeF_depth _ _ (right_large h n hn) x (node_xs hxn); rw [depthW_dN x (hd x hx)] at h1; omega
/- a text's tokens -/
theorem begs_keys : ∀ {ts : List Tx} {toks : List Tok}, AllOk ts → toks.map Tok.key = ts.map keyAt ++ [endKey] → ∃ e, Begs ts toks [e] ∧ IsEnd e
  | [], toks, _, h => by
    cases toks with
    | nil => cases h
    | cons t r =>
      simp only [List.map_cons, List.map_nil, List.nil_append, List.cons.injEq, List.map_eq_nil_iff] at h
      obtain ⟨h1, rfl⟩ := h
      have := congrArg Key.sort h1
      have := congrArg Key.text h1
      exact ⟨t, rfl, by assumption, by assumption⟩
  | x :: ts, toks, ho, h => by
    cases toks with
    | nil => cases h
    | cons t r =>
      simp only [List.map_cons, List.cons_append, List.cons.injEq] at h
      obtain ⟨h1, h2⟩ := h
      obtain ⟨e, h3, h4⟩ := begs_keys (fun y hy => ho y (by simp [hy])) h2
      refine ⟨e, ⟨t, r, rfl, ⟨?_, congrArg Key.sort h1, congrArg Key.num h1⟩, h3⟩, h4⟩
      have := congrArg Key.text h1
      exact (show t.text = tokText x from this).trans (ho x (by simp)).2.2
theorem scan_lex {s : Tx} {ks : List Key} (h : Lex s ks) (hl : s.length ≤ 65536) : ∃ toks, scanL s = .inl toks ∧ toks.map Tok.key = ks := by
  obtain ⟨h1, h2⟩ := scan_of_lex h; refine ⟨(scanAll s).1, ?_, h2⟩; rw [scanL, if_neg (by omega)]; obtain ⟨q, hq⟩ : ∃ q, scanAll s = q := ⟨_, rfl⟩; obtain ⟨ts, o⟩ := q; rw [hq] at h1 ⊢; replace h1 : o = none := h1; subst h1; rfl
theorem scan_spell {ts : List Tx} (ho : AllOk ts) (hne : ts ≠ []) (hl : (spellL ts).length ≤ 65536) : ∃ toks e, scanL (spellL ts) = .inl toks ∧ Begs ts toks [e] ∧ IsEnd e := by
  obtain ⟨toks, h1, h2⟩ := scan_lex (lex_of_toks ts hne ho) hl; obtain ⟨e, h3, h4⟩ := begs_keys ho h2; exact ⟨toks, e, h1, h3, h4⟩
/-- a program that may be is what its text is read as -/
theorem prog_back {p : QProg} (hr : rightL false p = 0) (hb : bndP p) (hd : ∀ x ∈ pgXs p, dN x ≤ 9223372036854775807) (hl : (spellL (progT p)).length ≤ 65536) : ∃ toks e, scanL (spellL (progT p)) = .inl toks ∧ progO toks = .ok p [e] := by
  obtain ⟨ho, hne⟩ := prog_ok (right_of_0 hr) hb; obtain ⟨toks, e, h1, h2, h3⟩ := scan_spell ho hne hl; obtain ⟨f, hf⟩ := back_prog (right_goodP (right_of_0 hr) hb (right_deep hr hd)) h3 h2; exact ⟨toks, e, h1, progO_eq hf⟩
/-- what comes of a text -/
theorem prog_got {s : Tx} {ts : List Tok} {p : QProg} {r : List Tok} (hs : scanL s = .inl ts) (h : progO ts = .ok p r) : GProg p ∧ (progT p).length ≤ 196611 := by
  obtain ⟨he, h1, h2⟩ := ended_scan hs; obtain ⟨f, hf⟩ := progO_some he; rw [h] at hf; obtain ⟨u, e, h3, _, _, _, h4, h5, _⟩ := progF_loc (oneEnd_scan h2) (good_scan h1 h2) hf; refine ⟨h5, ?_⟩; have hl : ts.length ≤ 65537 := by
    have := scanF_len (f := s.length + 1) (l := s) (p := (1, 1)); rw [show scanF (s.length + 1) s (1, 1) = scanAll s from rfl, h2] at this; have h3 : ts.length ≤ s.length + 1 := this; omega
  rw [h3, List.length_append] at hl; omega
theorem expr_got {s : Tx} {ts : List Tok} {x : Ex} {r : List Tok} (hs : scanL s = .inl ts) (h : exprO ts = .ok x r) : GX x ∧ (toksX x).length ≤ 196611 := by
  obtain ⟨he, h1, h2⟩ := ended_scan hs; obtain ⟨f, hf⟩ := exprO_some he; rw [h] at hf; rcases bindP_some hf with ⟨_, _, e⟩ | ⟨y, r1, e1, e2⟩
  · cases e
  obtain ⟨u, h3, _, _, h4, h5, _⟩ := (all_loc f).1 1 (Nat.le_refl _) 0 ts y r1 he.pos (good_scan h1 h2) e1; have hyx : y = x := by
    cases r1 with
    | nil => cases e2
    | cons t r =>
      replace e2 : (if t.sort = 6 then some (Out.ok y (t :: r)) else some (.bad (faultT 3 t))) = some (.ok x _) := e2; split at e2
      · cases e2; rfl
      · cases e2
  subst hyx; refine ⟨h5, ?_⟩; replace h4 : (toksX y).length ≤ 3 * u.length := h4; have hl : ts.length ≤ 65537 := by
    have := scanF_len (f := s.length + 1) (l := s) (p := (1, 1)); rw [show scanF (s.length + 1) s (1, 1) = scanAll s from rfl, h2] at this; have h3 : ts.length ≤ s.length + 1 := this; omega
  rw [h3, List.length_append] at hl; omega
end Go.Proofs.YtoajfnfhphoaeaaGreatDoor
