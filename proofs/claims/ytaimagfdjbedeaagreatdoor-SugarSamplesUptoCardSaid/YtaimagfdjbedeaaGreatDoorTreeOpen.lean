/-
  Expressions and programs that came in, read as data: their cells, and what their bulk bounds.
-/
import Derived.Test.YtaimagfdjbedeaaGreatDoorRows
import Derived.Test.YtaimagfdjbedeaaGreatDoorTreeMem
import Derived.Deep.Slices
import Derived.Deep.Fields
import Derived.ChangeSame
import Derived.Carry
import Derived.OpenShut
namespace Go.Proofs.YtaimagfdjbedeaaGreatDoor
open Go.ChangeShapes Go.WideShapes Go.Deep Go.RowKit

/-- the letters of a list of names, and one more for each -/
def wN : List Tx → Nat
  | [] => 0
  | x :: r => x.length + 1 + wN r
/- weights of trees: never above their data's bulk -/
mutual
def wX : Ex → Nat
  | .mk _ nm _ cs ks => nm.length + wN cs + wXs ks + 6
def wXs : List Ex → Nat
  | [] => 0
  | k :: r => wX k + wXs r
end
def wL {X : Type} (f : X → Nat) : List X → Nat
  | [] => 0
  | x :: r => f x + wL f r
theorem wXs_L (l : List Ex) : wXs l = wL wX l := by
  induction l with
  | nil => simp [wXs, wL]
  | cons x r ih => simp [wXs, wL, ih]
theorem wN_L (l : List Tx) : wN l = wL (fun x => x.length + 1) l := by
  induction l with
  | nil => simp [wN, wL]
  | cons x r ih => simp [wN, wL, ih]
theorem bulk_one {H : Type} (d : DataW H) : 1 ≤ Rows.uptoBulk d := by
  cases d with
  | lit l => cases l <;> simp [Rows.uptoBulk]
  | _ => simp [Rows.uptoBulk]
theorem bulk_part {H : Type} {d : DataW H} {l : List (DataW H)} (h : d ∈ l) : Rows.uptoBulk d ≤ Rows.uptoBulkAll l := by
  induction l with
  | nil => cases h
  | cons x r ih =>
    simp only [Rows.uptoBulkAll]
    rcases List.mem_cons.1 h with rfl | h
    · omega
    · have := ih h; omega
section
variable {H : Type} {enc : TypeId × Value → H} {W : World} {base : Nat} {spare : Nat → Bool} {held : Bool}
theorem list_of {α β : Type} {l : List β} {n : Nat} {P : Nat → α → β → Prop} (hl : l.length = n) (h : ∀ i b, l[i]? = some b → ∃ a, P i a b) : ∃ m : List α, m.length = n ∧ ∀ i a b, m[i]? = some a → l[i]? = some b → P i a b := by
  induction l generalizing n P with
  | nil => exact ⟨[], by simpa using hl, fun i a b h => by simp at h⟩
  | cons b r ih =>
    obtain ⟨a, ha⟩ := h 0 b rfl
    obtain ⟨m, hm, hP⟩ := ih (n := r.length) (P := fun i => P (i + 1)) rfl (fun i b hb => h (i + 1) b (by simpa using hb))
    refine ⟨a :: m, by simp at hl ⊢; omega, fun i x y hx hy => ?_⟩
    cases i with
    | zero => simp at hx hy; subst hx hy; exact ha
    | succ i => exact hP i x y (by simpa using hx) (by simpa using hy)
theorem slice_opened {X : Type} {R : List Value → X → Prop} {wt : X → Nat} {t e : TypeId} {fuel : Nat} {cs : List Value} {x : DataW H × List MemPlace} (ht : Tryz.prog.underlying t = some (.slice e))
    (h : DataW.trod enc Tryz.prog W base spare held fuel t cs = some x)
    (he : ∀ n, n < fuel → ∀ cs' y, DataW.trod enc Tryz.prog W base spare held n e cs' = some y → ∃ z, R cs' z ∧ wt z ≤ Rows.uptoBulk y.1) : ∃ v l, cs = [v] ∧ SliceAt W R v l ∧ wL wt l + 1 ≤ Rows.uptoBulk x.1 := by
  rcases DataW.trod_slice ht h with ⟨rfl, rfl⟩ | ⟨a, len, cap, elems, rest, n, rfl, rfl, rfl, _, hl, hm, hlen, hel, _⟩
  · exact ⟨_, [], rfl, ⟨none, 0, rfl, Nat.le_refl _, by unfold maxLen; omega, fun i x h => by simp at h⟩, by simp [wL, Rows.uptoBulk]⟩
  · have hall : ∀ (i : Nat) b, elems[i]? = some b → ∃ z, (∃ cs', ElemAt W (some a) i cs' ∧ R cs' z) ∧ wt z ≤ Rows.uptoBulk b.1 := by
      intro i b hb
      have hi : i < len := by rw [← hlen]; exact (List.getElem?_eq_some_iff.1 hb).1
      have := hel i hi
      rw [hb] at this
      obtain ⟨cs', hc, ht'⟩ := Option.bind_eq_some_iff.1 this
      obtain ⟨_, hlc, hat⟩ := World.cells?_some hc
      obtain ⟨z, hz, hw⟩ := he n (Nat.lt_succ_self n) cs' b ht'
      refine ⟨z, ⟨cs', ⟨a, rfl, fun j u hu => ?_⟩, hz⟩, hw⟩
      rw [hlc]
      exact (hat j (by rw [← hlc]; exact (List.getElem?_eq_some_iff.1 hu).1)).trans hu
    obtain ⟨l, hll, hP⟩ := list_of hlen hall
    have hsum : ∀ (es : List (DataW H × List MemPlace)) (m : List X), m.length = es.length → (∀ (i : Nat) z b, m[i]? = some z → es[i]? = some b → wt z ≤ Rows.uptoBulk b.1) → wL wt m ≤ Rows.uptoBulkAll (es.map (·.1)) := by
      intro es
      induction es with
      | nil => intro m hm _; have : m = [] := List.eq_nil_of_length_eq_zero (by simpa using hm); subst this; simp [wL]
      | cons b r ih =>
        intro m hm hq
        cases m with
        | nil => simp at hm
        | cons z m =>
          have h1 := hq 0 z b rfl rfl
          have h2 := ih m (by simpa using hm) (fun i z b hz hb => hq (i + 1) z b (by simpa using hz) (by simpa using hb))
          simp only [wL, List.map_cons, Rows.uptoBulkAll]
          omega
    refine ⟨_, l, rfl, ⟨some a, cap, by rw [hll], by omega, hm, fun i x hx => ?_⟩, ?_⟩
    · have hi : i < elems.length := by rw [hlen, ← hll]; exact (List.getElem?_eq_some_iff.1 hx).1
      obtain ⟨⟨cs', h1, h2⟩, _⟩ := hP i x _ hx (List.getElem?_eq_getElem hi)
      exact ⟨cs', h1, h2⟩
    · have := hsum elems l (by omega) (fun i z b hz hb => (hP i z b hz hb).2)
      simp only [Rows.uptoBulk]
      omega
theorem strs_opened {fuel : Nat} {cs : List Value} {x : DataW H × List MemPlace} (h : DataW.trod enc Tryz.prog W base spare held fuel 22 cs = some x) : ∃ v l, cs = [v] ∧ StrsAt W v l ∧ wN l + 1 ≤ Rows.uptoBulk x.1 := by
  obtain ⟨v, l, h1, h2, h3⟩ := slice_opened (R := StrCell) (wt := fun x => x.length + 1) Tryz.underlying22 h (fun n _ cs' y hy => by
    obtain ⟨s, rfl, rfl, hs⟩ := DataW.trod_string Tryz.underlying9 hy
    exact ⟨s.data.toList, ⟨by rw [str_eq], by rw [Array.length_toList]; exact hs⟩, by simp [Rows.uptoBulk]⟩)
  exact ⟨v, l, h1, h2, by rw [wN_L]; exact h3⟩
theorem five {α : Type _} {l : List α} (h : l.length = 5) : ∃ a b c d e, l = [a, b, c, d, e] := by
  match l, h with
  | [a, b, c, d, e], _ => exact ⟨a, b, c, d, e, rfl⟩
theorem i64_wf {n : Int} (h : (Lit.int .i64 n).wf = true) : i64B n := bounds_i64 h
theorem ex_mk {w : World} {op n : Int} {nm : Tx} {cs : List Tx} {ks : List Ex} {cv kv : Value} (hop : i64B op) (hn : i64B n) (hm : nm.length ≤ maxLen) (hcs : StrsAt w cv cs) (hk : SliceAt w (ExAt w) kv ks) :
    ExAt w [.int .i64 op, .string (str nm), .int .i64 n, cv, kv] (.mk op nm n cs ks) := by
  obtain ⟨A, c, rfl, h1, h2, h3⟩ := hk
  have : ∀ i, ∃ L, ∀ x, ks[i]? = some x → ElemAt w A i L ∧ ExAt w L x := by
    intro i
    cases h : ks[i]? with
    | none => exact ⟨[], fun x hx => by cases hx⟩
    | some y =>
      obtain ⟨L, hL⟩ := h3 i y h
      exact ⟨L, fun x hx => by cases hx; exact hL⟩
  obtain ⟨C, hC⟩ := Classical.axiomOfChoice this
  exact .mk (C := C) hop hm hn hcs h1 h2 (fun i k hi => (hC i k hi).1) (fun i k hi => (hC i k hi).2)
theorem cells_int : Tryz.prog.cellsOf 3 = 1 := by kernel_rfl
theorem cells_i64 : Tryz.prog.cellsOf 2 = 1 := by kernel_rfl
theorem cells_str : Tryz.prog.cellsOf 9 = 1 := by kernel_rfl
theorem cells_strs : Tryz.prog.cellsOf 22 = 1 := by kernel_rfl
theorem cells_exs : Tryz.prog.cellsOf 23 = 1 := by kernel_rfl
theorem cells_ex : Tryz.prog.cellsOf 25 = 5 := by kernel_rfl
set_option maxRecDepth 100000 in
theorem ex_opened : ∀ {fuel : Nat} {cs : List Value} {x : DataW H × List MemPlace}, DataW.trod enc Tryz.prog W base spare held fuel 25 cs = some x → ∃ y : Ex, ExAt W cs y ∧ wX y ≤ Rows.uptoBulk x.1 := by
  intro fuel
  induction fuel using Nat.strongRecOn with
  | _ fuel ih =>
    intro cs x h
    obtain ⟨ys, n, rfl, rfl, hl, hy, hf⟩ := DataW.trod_struct Tryz.underlying25 h
    rw [cells_ex] at hl
    obtain ⟨c0, c1, c2, c3, c4, rfl⟩ := five hl
    obtain ⟨y0, y1, y2, y3, y4, rfl⟩ := five hy
    have h0 : DataW.trod enc Tryz.prog W base spare held n 3 (([c0, c1, c2, c3, c4].drop 0).take (Tryz.prog.cellsOf 3)) = some y0 := hf 0 _ rfl
    have h1 : DataW.trod enc Tryz.prog W base spare held n 9 (([c0, c1, c2, c3, c4].drop 1).take (Tryz.prog.cellsOf 9)) = some y1 := hf 1 _ rfl
    have h2 : DataW.trod enc Tryz.prog W base spare held n 2 (([c0, c1, c2, c3, c4].drop 2).take (Tryz.prog.cellsOf 2)) = some y2 := hf 2 _ rfl
    have h3 : DataW.trod enc Tryz.prog W base spare held n 22 (([c0, c1, c2, c3, c4].drop 3).take (Tryz.prog.cellsOf 22)) = some y3 := hf 3 _ rfl
    have h4 : DataW.trod enc Tryz.prog W base spare held n 23 (([c0, c1, c2, c3, c4].drop 4).take (Tryz.prog.cellsOf 23)) = some y4 := hf 4 _ rfl
    rw [cells_int] at h0
    rw [cells_str] at h1
    rw [cells_i64] at h2
    rw [cells_strs] at h3
    rw [cells_exs] at h4
    obtain ⟨n0, e0, z0, w0⟩ := DataW.trod_int Tryz.underlying3 h0
    obtain ⟨s1, e1, z1, w1⟩ := DataW.trod_string Tryz.underlying9 h1
    obtain ⟨n2, e2, z2, w2⟩ := DataW.trod_int Tryz.underlying2 h2
    obtain ⟨v3, l3, e3, z3, w3⟩ := strs_opened h3
    obtain ⟨v4, l4, e4, z4, w4⟩ := slice_opened (R := ExAt W) (wt := wX) Tryz.underlying23 h4 (fun m hm cs' y hy => ih m (by omega) hy)
    cases e0; cases e1; cases e2; cases e3; cases e4
    subst z0 z1 z2
    refine ⟨.mk n0 s1.data.toList n2 l3 l4, ?_, ?_⟩
    · have := ex_mk (w := W) (op := n0) (n := n2) (nm := s1.data.toList) (i64_wf w0) (i64_wf w2) (by rw [Array.length_toList]; exact w1) z3 z4
      rwa [str_eq] at this
    · rw [wX, wXs_L]
      simp only [List.map_cons, List.map_nil, Rows.uptoBulk, Rows.uptoBulkAll]
      omega
theorem open_expr {v : Value} {d : DataW H} {p : List MemPlace} {fuel : Nat} (h : DataW.trod enc Tryz.prog W base spare held fuel 25 v.cells.toList = some (d, p)) (hv : ∃ L, v = .agg L) : ∃ (L : List Value) (y : Ex), v = .agg L.toArray ∧ ExAt W L y ∧ wX y ≤ Rows.uptoBulk d := by
  obtain ⟨L, rfl⟩ := hv
  obtain ⟨y, h1, h2⟩ := ex_opened h
  exact ⟨L.toList, y, by simp, h1, h2⟩
end
end Go.Proofs.YtaimagfdjbedeaaGreatDoor
namespace Go.Proofs.YtaimagfdjbedeaaGreatDoor

theorem len_wN (l : List Tx) : l.length ≤ wN l := by
  induction l with
  | nil => simp [wN]
  | cons x r ih => simp [wN]; omega
theorem wL_app {X : Type} (f : X → Nat) (a b : List X) : wL f (a ++ b) = wL f a + wL f b := by
  induction a with
  | nil => simp [wL]
  | cons x r ih => simp [wL, ih]; omega
theorem wL_mem {X : Type} {f : X → Nat} {l : List X} {x : X} (h : x ∈ l) : f x ≤ wL f l := by
  induction l with
  | nil => cases h
  | cons y r ih =>
    rcases List.mem_cons.1 h with rfl | h
    · simp [wL]
    · have := ih h; simp [wL]; omega
def wEq (q : QEq) : Nat := wN q.names + wX q.e + 2
def wWay (y : QWay) : Nat := wX y.cond + y.to.length + 2
def wState (s : QState) : Nat := s.name.length + wL wEq s.eqs + wL wWay s.ways + 4
def wItem (i : QItem) : Nat := wEq i.eq + wL wState i.states + 2
def wEnum (e : QEnum) : Nat := e.name.length + wN e.cons + 3
def wNode (n : QNode) : Nat := n.name.length + wN n.funs + wN n.ins + wN n.outs + wL wItem n.items + 6
def wProg (p : QProg) : Nat := wL wEnum p.enums + wL wNode p.nodes + 3
theorem len_flat {X Y : Type} {f : X → List Y} {g : X → Nat} {l : List X} (h : ∀ x ∈ l, (f x).length ≤ g x) : (l.flatMap f).length ≤ wL g l := by
  induction l with
  | nil => simp [wL]
  | cons x r ih =>
    have h1 := h x (by simp)
    have h2 := ih (fun y hy => h y (by simp [hy]))
    rw [List.flatMap_cons, List.length_append, wL]
    omega
theorem len_wL {X : Type} {f : X → Nat} {l : List X} (h : ∀ x ∈ l, 1 ≤ f x) : l.length ≤ wL f l := by
  induction l with
  | nil => simp [wL]
  | cons x r ih =>
    have h1 := h x (by simp)
    have h2 := ih (fun y hy => h y (by simp [hy]))
    rw [List.length_cons, wL]
    omega
theorem node_few {n : QNode} : (nodeX n).length ≤ wNode n := by
  have h := len_flat (f := itemX) (g := wItem) (l := n.items) (fun i _ => by
    have h2 := len_flat (f := stateX) (g := wState) (l := i.states) (fun s _ => by
      have h3 := len_wL (f := wEq) (l := s.eqs) (fun q _ => by unfold wEq; omega)
      have h4 := len_wL (f := wWay) (l := s.ways) (fun q _ => by unfold wWay; omega)
      unfold stateX wState
      simp only [List.length_append, List.length_map]
      omega)
    unfold itemX wItem wEq
    rw [List.length_append]
    split
    · simp only [List.length_cons, List.length_nil]; omega
    · simp only [List.length_nil]; omega)
  unfold nodeX wNode
  omega
theorem prog_few {p : QProg} (hw : wProg p ≤ 1048576) : ∀ x ∈ p.nodes, (nodeX x).length ≤ 1048576 := fun x hx => by
  have h1 := node_few (n := x)
  have h2 := wL_mem (f := wNode) hx
  unfold wProg at hw
  omega
end Go.Proofs.YtaimagfdjbedeaaGreatDoor
namespace Go.Proofs.YtaimagfdjbedeaaGreatDoor
open Go.ChangeShapes Go.WideShapes Go.Deep Go.RowKit

theorem co_sEnum : Tryz.prog.cellsOf 31 = 1 := by kernel_rfl
theorem co_sEq : Tryz.prog.cellsOf 141 = 1 := by kernel_rfl
theorem co_sItem : Tryz.prog.cellsOf 41 = 1 := by kernel_rfl
theorem co_sNode : Tryz.prog.cellsOf 32 = 1 := by kernel_rfl
theorem co_sState : Tryz.prog.cellsOf 47 = 1 := by kernel_rfl
theorem co_sWay : Tryz.prog.cellsOf 142 = 1 := by kernel_rfl
theorem co_sstring : Tryz.prog.cellsOf 22 = 1 := by kernel_rfl
theorem co_Enum : Tryz.prog.cellsOf 83 = 2 := by kernel_rfl
theorem co_Eq : Tryz.prog.cellsOf 46 = 6 := by kernel_rfl
theorem co_Expr : Tryz.prog.cellsOf 25 = 5 := by kernel_rfl
theorem co_Item : Tryz.prog.cellsOf 49 = 7 := by kernel_rfl
theorem co_Node : Tryz.prog.cellsOf 43 = 5 := by kernel_rfl
theorem co_Program : Tryz.prog.cellsOf 34 = 2 := by kernel_rfl
theorem co_State : Tryz.prog.cellsOf 144 = 3 := by kernel_rfl
theorem co_Way : Tryz.prog.cellsOf 169 = 6 := by kernel_rfl
theorem co_string : Tryz.prog.cellsOf 9 = 1 := by kernel_rfl
theorem list2 {α : Type _} {l : List α} (h : l.length = 2) : ∃ x0 x1, l = [x0, x1] := by
  match l, h with
  | [x0, x1], _ => exact ⟨x0, x1, rfl⟩
theorem list3 {α : Type _} {l : List α} (h : l.length = 3) : ∃ x0 x1 x2, l = [x0, x1, x2] := by
  match l, h with
  | [x0, x1, x2], _ => exact ⟨x0, x1, x2, rfl⟩
theorem list6 {α : Type _} {l : List α} (h : l.length = 6) : ∃ x0 x1 x2 x3 x4 x5, l = [x0, x1, x2, x3, x4, x5] := by
  match l, h with
  | [x0, x1, x2, x3, x4, x5], _ => exact ⟨x0, x1, x2, x3, x4, x5, rfl⟩
theorem list7 {α : Type _} {l : List α} (h : l.length = 7) : ∃ x0 x1 x2 x3 x4 x5 x6, l = [x0, x1, x2, x3, x4, x5, x6] := by
  match l, h with
  | [x0, x1, x2, x3, x4, x5, x6], _ => exact ⟨x0, x1, x2, x3, x4, x5, x6, rfl⟩
section
variable {H : Type} {enc : TypeId × Value → H} {W : World} {base : Nat} {spare : Nat → Bool} {held : Bool}
set_option maxRecDepth 100000 in
theorem eq_opened {fuel : Nat} {cs : List Value} {x : DataW H × List MemPlace} (h : DataW.trod enc Tryz.prog W base spare held fuel 46 cs = some x) : ∃ y : QEq, EqAt W cs y ∧ wEq y ≤ Rows.uptoBulk x.1 := by
  obtain ⟨ys, n, rfl, rfl, hl, hy, hf⟩ := DataW.trod_struct Tryz.underlying46 h
  rw [co_Eq] at hl
  obtain ⟨c0, c1, c2, c3, c4, c5, rfl⟩ := list6 hl
  obtain ⟨y0, y1, rfl⟩ := list2 hy
  have h0 : DataW.trod enc Tryz.prog W base spare held n 22 (([c0, c1, c2, c3, c4, c5].drop 0).take (Tryz.prog.cellsOf 22)) = some y0 := hf 0 _ rfl
  rw [co_sstring] at h0
  have h1 : DataW.trod enc Tryz.prog W base spare held n 25 (([c0, c1, c2, c3, c4, c5].drop 1).take (Tryz.prog.cellsOf 25)) = some y1 := hf 1 _ rfl
  rw [co_Expr] at h1
  obtain ⟨v0, l0, e0, a0, b0⟩ := strs_opened h0
  cases e0
  obtain ⟨l1, a1, b1⟩ := ex_opened h1
  replace a1 : ExAt W [c1, c2, c3, c4, c5] l1 := a1
  exact ⟨⟨l0, l1⟩, ⟨_, _, rfl, a0, a1⟩, by simp only [wEq, List.map_cons, List.map_nil, Rows.uptoBulk, Rows.uptoBulkAll] ; omega⟩
set_option maxRecDepth 100000 in
theorem way_opened {fuel : Nat} {cs : List Value} {x : DataW H × List MemPlace} (h : DataW.trod enc Tryz.prog W base spare held fuel 169 cs = some x) : ∃ y : QWay, WayAt W cs y ∧ wWay y ≤ Rows.uptoBulk x.1 := by
  obtain ⟨ys, n, rfl, rfl, hl, hy, hf⟩ := DataW.trod_struct Tryz.underlying169 h
  rw [co_Way] at hl
  obtain ⟨c0, c1, c2, c3, c4, c5, rfl⟩ := list6 hl
  obtain ⟨y0, y1, rfl⟩ := list2 hy
  have h0 : DataW.trod enc Tryz.prog W base spare held n 25 (([c0, c1, c2, c3, c4, c5].drop 0).take (Tryz.prog.cellsOf 25)) = some y0 := hf 0 _ rfl
  rw [co_Expr] at h0
  have h1 : DataW.trod enc Tryz.prog W base spare held n 9 (([c0, c1, c2, c3, c4, c5].drop 5).take (Tryz.prog.cellsOf 9)) = some y1 := hf 1 _ rfl
  rw [co_string] at h1
  obtain ⟨l0, a0, b0⟩ := ex_opened h0
  replace a0 : ExAt W [c0, c1, c2, c3, c4] l0 := a0
  obtain ⟨s1, e1, z1, b1⟩ := DataW.trod_string Tryz.underlying9 h1
  cases e1
  subst z1
  exact ⟨⟨l0, s1.data.toList⟩, ⟨[c0, c1, c2, c3, c4], by rw [str_eq]; rfl, a0, (by rw [Array.length_toList]; exact b1)⟩, by simp only [wWay, List.map_cons, List.map_nil, Rows.uptoBulk, Rows.uptoBulkAll] ; omega⟩
set_option maxRecDepth 100000 in
theorem state_opened {fuel : Nat} {cs : List Value} {x : DataW H × List MemPlace} (h : DataW.trod enc Tryz.prog W base spare held fuel 144 cs = some x) : ∃ y : QState, StateAt W cs y ∧ wState y ≤ Rows.uptoBulk x.1 := by
  obtain ⟨ys, n, rfl, rfl, hl, hy, hf⟩ := DataW.trod_struct Tryz.underlying144 h
  rw [co_State] at hl
  obtain ⟨c0, c1, c2, rfl⟩ := list3 hl
  obtain ⟨y0, y1, y2, rfl⟩ := list3 hy
  have h0 : DataW.trod enc Tryz.prog W base spare held n 9 (([c0, c1, c2].drop 0).take (Tryz.prog.cellsOf 9)) = some y0 := hf 0 _ rfl
  rw [co_string] at h0
  have h1 : DataW.trod enc Tryz.prog W base spare held n 141 (([c0, c1, c2].drop 1).take (Tryz.prog.cellsOf 141)) = some y1 := hf 1 _ rfl
  rw [co_sEq] at h1
  have h2 : DataW.trod enc Tryz.prog W base spare held n 142 (([c0, c1, c2].drop 2).take (Tryz.prog.cellsOf 142)) = some y2 := hf 2 _ rfl
  rw [co_sWay] at h2
  obtain ⟨s0, e0, z0, b0⟩ := DataW.trod_string Tryz.underlying9 h0
  cases e0
  subst z0
  obtain ⟨v1, l1, e1, a1, b1⟩ := slice_opened (R := EqAt W) (wt := wEq) Tryz.underlying141 h1 (fun m _ cs' y hy => eq_opened hy)
  cases e1
  obtain ⟨v2, l2, e2, a2, b2⟩ := slice_opened (R := WayAt W) (wt := wWay) Tryz.underlying142 h2 (fun m _ cs' y hy => way_opened hy)
  cases e2
  exact ⟨⟨s0.data.toList, l1, l2⟩, ⟨_, _, by rw [str_eq], (by rw [Array.length_toList]; exact b0), a1, a2⟩, by simp only [wState, List.map_cons, List.map_nil, Rows.uptoBulk, Rows.uptoBulkAll] ; omega⟩
set_option maxRecDepth 100000 in
theorem item_opened {fuel : Nat} {cs : List Value} {x : DataW H × List MemPlace} (h : DataW.trod enc Tryz.prog W base spare held fuel 49 cs = some x) : ∃ y : QItem, ItemAt W cs y ∧ wItem y ≤ Rows.uptoBulk x.1 := by
  obtain ⟨ys, n, rfl, rfl, hl, hy, hf⟩ := DataW.trod_struct Tryz.underlying49 h
  rw [co_Item] at hl
  obtain ⟨c0, c1, c2, c3, c4, c5, c6, rfl⟩ := list7 hl
  obtain ⟨y0, y1, rfl⟩ := list2 hy
  have h0 : DataW.trod enc Tryz.prog W base spare held n 46 (([c0, c1, c2, c3, c4, c5, c6].drop 0).take (Tryz.prog.cellsOf 46)) = some y0 := hf 0 _ rfl
  rw [co_Eq] at h0
  have h1 : DataW.trod enc Tryz.prog W base spare held n 47 (([c0, c1, c2, c3, c4, c5, c6].drop 6).take (Tryz.prog.cellsOf 47)) = some y1 := hf 1 _ rfl
  rw [co_sState] at h1
  obtain ⟨l0, a0, b0⟩ := eq_opened h0
  replace a0 : EqAt W [c0, c1, c2, c3, c4, c5] l0 := a0
  obtain ⟨v1, l1, e1, a1, b1⟩ := slice_opened (R := StateAt W) (wt := wState) Tryz.underlying47 h1 (fun m _ cs' y hy => state_opened hy)
  cases e1
  exact ⟨⟨l0, l1⟩, ⟨[c0, c1, c2, c3, c4, c5], _, rfl, a0, a1⟩, by simp only [wItem, List.map_cons, List.map_nil, Rows.uptoBulk, Rows.uptoBulkAll] ; omega⟩
set_option maxRecDepth 100000 in
theorem enum_opened {fuel : Nat} {cs : List Value} {x : DataW H × List MemPlace} (h : DataW.trod enc Tryz.prog W base spare held fuel 83 cs = some x) : ∃ y : QEnum, EnumAt W cs y ∧ wEnum y ≤ Rows.uptoBulk x.1 := by
  obtain ⟨ys, n, rfl, rfl, hl, hy, hf⟩ := DataW.trod_struct Tryz.underlying83 h
  rw [co_Enum] at hl
  obtain ⟨c0, c1, rfl⟩ := list2 hl
  obtain ⟨y0, y1, rfl⟩ := list2 hy
  have h0 : DataW.trod enc Tryz.prog W base spare held n 9 (([c0, c1].drop 0).take (Tryz.prog.cellsOf 9)) = some y0 := hf 0 _ rfl
  rw [co_string] at h0
  have h1 : DataW.trod enc Tryz.prog W base spare held n 22 (([c0, c1].drop 1).take (Tryz.prog.cellsOf 22)) = some y1 := hf 1 _ rfl
  rw [co_sstring] at h1
  obtain ⟨s0, e0, z0, b0⟩ := DataW.trod_string Tryz.underlying9 h0
  cases e0
  subst z0
  obtain ⟨v1, l1, e1, a1, b1⟩ := strs_opened h1
  cases e1
  exact ⟨⟨s0.data.toList, l1⟩, ⟨_, by rw [str_eq], (by rw [Array.length_toList]; exact b0), a1⟩, by simp only [wEnum, List.map_cons, List.map_nil, Rows.uptoBulk, Rows.uptoBulkAll] ; omega⟩
set_option maxRecDepth 100000 in
theorem node_opened {fuel : Nat} {cs : List Value} {x : DataW H × List MemPlace} (h : DataW.trod enc Tryz.prog W base spare held fuel 43 cs = some x) : ∃ y : QNode, NodeAt W cs y ∧ wNode y ≤ Rows.uptoBulk x.1 := by
  obtain ⟨ys, n, rfl, rfl, hl, hy, hf⟩ := DataW.trod_struct Tryz.underlying43 h
  rw [co_Node] at hl
  obtain ⟨c0, c1, c2, c3, c4, rfl⟩ := five hl
  obtain ⟨y0, y1, y2, y3, y4, rfl⟩ := five hy
  have h0 : DataW.trod enc Tryz.prog W base spare held n 9 (([c0, c1, c2, c3, c4].drop 0).take (Tryz.prog.cellsOf 9)) = some y0 := hf 0 _ rfl
  rw [co_string] at h0
  have h1 : DataW.trod enc Tryz.prog W base spare held n 22 (([c0, c1, c2, c3, c4].drop 1).take (Tryz.prog.cellsOf 22)) = some y1 := hf 1 _ rfl
  rw [co_sstring] at h1
  have h2 : DataW.trod enc Tryz.prog W base spare held n 22 (([c0, c1, c2, c3, c4].drop 2).take (Tryz.prog.cellsOf 22)) = some y2 := hf 2 _ rfl
  rw [co_sstring] at h2
  have h3 : DataW.trod enc Tryz.prog W base spare held n 22 (([c0, c1, c2, c3, c4].drop 3).take (Tryz.prog.cellsOf 22)) = some y3 := hf 3 _ rfl
  rw [co_sstring] at h3
  have h4 : DataW.trod enc Tryz.prog W base spare held n 41 (([c0, c1, c2, c3, c4].drop 4).take (Tryz.prog.cellsOf 41)) = some y4 := hf 4 _ rfl
  rw [co_sItem] at h4
  obtain ⟨s0, e0, z0, b0⟩ := DataW.trod_string Tryz.underlying9 h0
  cases e0
  subst z0
  obtain ⟨v1, l1, e1, a1, b1⟩ := strs_opened h1
  cases e1
  obtain ⟨v2, l2, e2, a2, b2⟩ := strs_opened h2
  cases e2
  obtain ⟨v3, l3, e3, a3, b3⟩ := strs_opened h3
  cases e3
  obtain ⟨v4, l4, e4, a4, b4⟩ := slice_opened (R := ItemAt W) (wt := wItem) Tryz.underlying41 h4 (fun m _ cs' y hy => item_opened hy)
  cases e4
  exact ⟨⟨s0.data.toList, l1, l2, l3, l4⟩, ⟨_, _, _, _, by rw [str_eq], (by rw [Array.length_toList]; exact b0), a1, a2, a3, a4⟩, by simp only [wNode, List.map_cons, List.map_nil, Rows.uptoBulk, Rows.uptoBulkAll] ; omega⟩
set_option maxRecDepth 100000 in
theorem prog_opened {fuel : Nat} {cs : List Value} {x : DataW H × List MemPlace} (h : DataW.trod enc Tryz.prog W base spare held fuel 34 cs = some x) : ∃ y : QProg, ProgAt W cs y ∧ wProg y ≤ Rows.uptoBulk x.1 := by
  obtain ⟨ys, n, rfl, rfl, hl, hy, hf⟩ := DataW.trod_struct Tryz.underlying34 h
  rw [co_Program] at hl
  obtain ⟨c0, c1, rfl⟩ := list2 hl
  obtain ⟨y0, y1, rfl⟩ := list2 hy
  have h0 : DataW.trod enc Tryz.prog W base spare held n 31 (([c0, c1].drop 0).take (Tryz.prog.cellsOf 31)) = some y0 := hf 0 _ rfl
  rw [co_sEnum] at h0
  have h1 : DataW.trod enc Tryz.prog W base spare held n 32 (([c0, c1].drop 1).take (Tryz.prog.cellsOf 32)) = some y1 := hf 1 _ rfl
  rw [co_sNode] at h1
  obtain ⟨v0, l0, e0, a0, b0⟩ := slice_opened (R := EnumAt W) (wt := wEnum) Tryz.underlying31 h0 (fun m _ cs' y hy => enum_opened hy)
  cases e0
  obtain ⟨v1, l1, e1, a1, b1⟩ := slice_opened (R := NodeAt W) (wt := wNode) Tryz.underlying32 h1 (fun m _ cs' y hy => node_opened hy)
  cases e1
  exact ⟨⟨l0, l1⟩, ⟨_, _, rfl, a0, a1⟩, by simp only [wProg, List.map_cons, List.map_nil, Rows.uptoBulk, Rows.uptoBulkAll] ; omega⟩
end
end Go.Proofs.YtaimagfdjbedeaaGreatDoor
