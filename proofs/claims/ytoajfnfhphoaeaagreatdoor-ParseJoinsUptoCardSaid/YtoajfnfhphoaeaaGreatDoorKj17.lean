/-
  Texts joined.
-/
import Derived.Deep.RegionLaw
import Derived.Test.YtoajfnfhphoaeaaGreatDoorKj15
namespace Go.Proofs.YtoajfnfhphoaeaaGreatDoor
open Go.RowKit
def zeroJE : Value := .agg #[.string ⟨#[]⟩, .slice none 0 0]
theorem jenum_info : (Tryz.prog.info? 65).map (fun i => (i.zero, i.size, i.bytes)) = some (some zeroJE, 2, 40) := by kernel_rfl
def zeroJN : Value := .agg #[.string ⟨#[]⟩, .slice none 0 0, .slice none 0 0, .slice none 0 0, .slice none 0 0]
theorem jnode_info : (Tryz.prog.info? 56).map (fun i => (i.zero, i.size, i.bytes)) = some (some zeroJN, 5, 112) := by kernel_rfl
theorem jenum_len {w : World} : ∀ L n, EnumAt w L n → L.length = 2 := fun L n h => by obtain ⟨_, rfl, _⟩ := h; rfl
theorem jenum_one {w : World} : ∀ L n, EnumAt w L n → ∀ u ∈ L, u.oneCell' = true := fun L n h u hu => by
  obtain ⟨s0, A1, n1, k1, rfl⟩ := h.shape
  simp only [List.mem_cons, List.not_mem_nil, or_false] at hu
  rcases hu with rfl | rfl <;> rfl
theorem jnode_len {w : World} : ∀ L n, NodeAt w L n → L.length = 5 := fun L n h => by
  obtain ⟨_, _, _, _, _, _, _, _, _, _, _, _, _, rfl⟩ := h.shape; rfl
theorem jnode_one {w : World} : ∀ L n, NodeAt w L n → ∀ u ∈ L, u.oneCell' = true := fun L n h u hu => by
  obtain ⟨_, _, _, _, _, _, _, _, _, _, _, _, _, rfl⟩ := h.shape
  simp only [List.mem_cons, List.not_mem_nil, or_false] at hu
  rcases hu with rfl | rfl | rfl | rfl | rfl <;> rfl
section
variable {X : Type} {R : List Value → X → Prop} {B : Nat} {T TS : TypeId} {n bytes : Nat} {z : Value}
theorem step_ownJ {ops : Array Oper} {o : Oper} {a : Act} {K : Act → World → Prop} {Q : Exit → Act → World → Prop} {E : Prop} {W : World} {v : Value} {xs ys : List X} {A : Option Addr} {m c : Nat} (hgd : o.guard = none) (s x : Operand)
    (hop : o.op = .call { callee := .builtin .append, args := #[s, x], argTypes := #[TS, TS] }) (hT : Tryz.prog.underlying TS = some (.slice T)) (hI : (Tryz.prog.info? T).map (fun i => (i.zero, i.size, i.bytes)) = some (some z, n, bytes))
    (hz : z.cells.size = n) (hn : 0 < n) (hby : bytes ≤ 4096) (hR : ∀ L x, R L x → L.length = n) (hone : ∀ L x, R L x → ∀ u ∈ L, u.oneCell' = true)
    (hs : a.eval s = v) (hx : a.eval x = .slice A m c) (hO : OwnG R B T n W v xs) (hS : SliceAt W R (.slice A m c) ys) (hl : xs.length + ys.length ≤ 4194304) (hB : B ≤ W.heap.size)
    (hK : ∀ v' w', OwnG R B T n w' v' (xs ++ ys) → W.grownBy w' v.ownBlock → Below B W w' → K (a.put o.dst v') w') : if Region.wanted o (yielded ops a.tmps) = true then Oper.wp Tryz.prog o a W K Q else E := by
  have hw : Region.wanted o (yielded ops a.tmps) = true := (by simp [Region.wanted, hgd]); rw [if_pos hw]; exact wp_ownG s x hop hT hI hz hn hby hR hone hs hx hO hS hl hB hK
end
theorem OwnG.block {X : Type} {R : List Value → X → Prop} {B : Nat} {T : TypeId} {n : Nat} {W : World} {v : Value} {xs : List X} (h : OwnG R B T n W v xs) {g : Nat} (hg : v.ownBlock = some g) : ∃ cur, W.heap[g]? = some (.cells cur T (0, 0)) := by
  obtain ⟨Ls, h1, _⟩ := h; rcases h1.2 with ⟨rfl, _⟩ | ⟨g', cap, cur, rfl, _, hh, _⟩
  · simp [Value.ownBlock] at hg
  · have : g' = g := by simpa [Value.ownBlock] using hg
    subst this; exact ⟨cur, hh⟩
theorem OwnG.ne {X : Type} {R : List Value → X → Prop} {B : Nat} {T : TypeId} {n : Nat} {W : World} {v : Value} {xs : List X} (h : OwnG R B T n W v xs) {q : Nat} {cs : Array Value} {TP : TypeId} {fz : Nat × Nat} (hq : W.heap[q]? = some (.cells cs TP fz)) (hne : TP ≠ T) : v.ownBlock ≠ some q := by
  intro e; obtain ⟨cur, hh⟩ := h.block e; rw [hq] at hh; injection hh with hh; injection hh with _ ht; exact hne ht
theorem OwnG.keep {X : Type} {R : List Value → X → Prop} {B : Nat} {T : TypeId} {n : Nat} {W W' : World} {v : Value} {xs : List X} (h : OwnG R B T n W v xs) (hk : ∀ g o, v.ownBlock = some g → W.heap[g]? = some o → W'.heap[g]? = some o) : OwnG R B T n W' v xs := by
  obtain ⟨Ls, ⟨h0, h1⟩, h2, h3, h4⟩ := h; refine ⟨Ls, ⟨h0, ?_⟩, h2, h3, h4⟩; rcases h1 with h1 | ⟨g, cap, cur, rfl, hB, hh, hr⟩
  · exact .inl h1
  · exact .inr ⟨g, cap, cur, rfl, hB, hk g _ (by simp [Value.ownBlock]) hh, hr⟩
theorem OwnG.box {X : Type} {R : List Value → X → Prop} {B : Nat} {T : TypeId} {n : Nat} {W W' : World} {v : Value} {xs : List X} (h : OwnG R B T n W v xs) (hg : W.grownBy W' v.ownBlock) {q : Nat} {cs : Array Value} {TP : TypeId} {fz : Nat × Nat} (hq : W.heap[q]? = some (.cells cs TP fz)) (hne : TP ≠ T) : W'.heap[q]? = some (.cells cs TP fz) :=
  (hg.block q (lt_of_heap hq) (fun e => h.ne hq hne e.symm)).trans hq
theorem OwnG.other {X Y : Type} {R : List Value → X → Prop} {S : List Value → Y → Prop} {B C : Nat} {T U : TypeId} {n m : Nat} {W W' : World} {v u : Value} {xs : List X} {ys : List Y} (h : OwnG R B T n W v xs) (hu : OwnG S C U m W u ys) (hg : W.grownBy W' u.ownBlock) (hne : T ≠ U) : OwnG R B T n W' v xs :=
  h.keep fun g o hv ho => by
    obtain ⟨cur, hh⟩ := h.block hv
    exact (hg.block g (lt_of_heap ho) (fun e => hu.ne hh hne e.symm)).trans ho
theorem jen_ne : (65 : TypeId) ≠ 56 := by decide
theorem jne_ne : (56 : TypeId) ≠ 65 := by decide
theorem jpe_ne : (25 : TypeId) ≠ 65 := by decide
theorem jpn_ne : (25 : TypeId) ≠ 56 := by decide
/-- what the region has made so far: types in the one row, nodes in the other; V is the world that it began in -/
def JS (V : World) (ve vn : Value) (le : List QEnum) (ln : List QNode) (W : World) : Prop :=
  Below V.heap.size V W ∧ OwnG (EnumAt V) V.heap.size 65 2 W ve le ∧ OwnG (NodeAt V) V.heap.size 56 5 W vn ln
theorem JS.start (V : World) : JS V (.slice none 0 0) (.slice none 0 0) [] [] V := ⟨Below.refl _ _, OwnG.nil _, OwnG.nil _⟩
theorem JS.alloc {V W : World} {ve vn : Value} {le : List QEnum} {ln : List QNode} (h : JS V ve vn le ln W) (o : Obj) : JS V ve vn le ln (W.alloc o) :=
  ⟨h.1.alloc h.1.size o, h.2.1.under ((Below.refl _ _).alloc (Nat.le_refl _) o), h.2.2.under ((Below.refl _ _).alloc (Nat.le_refl _) o)⟩
theorem JS.drew {V W : World} {ve vn : Value} {le : List QEnum} {ln : List QNode} (h : JS V ve vn le ln W) : JS V ve vn le ln W.drew :=
  ⟨h.1.drew, h.2.1.under (Below.refl _ _).drew, h.2.2.under (Below.refl _ _).drew⟩
theorem OwnG.setBox {X : Type} {R : List Value → X → Prop} {B : Nat} {T : TypeId} {n : Nat} {W : World} {v : Value} {xs : List X} (h : OwnG R B T n W v xs) {q j : Nat} {cs : Array Value} {TP : TypeId} {fz : Nat × Nat} (hq : W.heap[q]? = some (.cells cs TP fz)) (hne : TP ≠ T) (u : Value) : OwnG R B T n (W.setCell ⟨q, j, none⟩ u) v xs :=
  h.keep fun g o hv ho => (Below.heap_setCell W ⟨q, j, none⟩ u g (show g ≠ q from fun e => h.ne hq hne (by rw [hv, e]))).trans ho
/-- a block that is no row of types or nodes -/
def Boxed (W : World) (g : Nat) (L : List Value) : Prop := W.heap[g]? = some (.cells L.toArray 25 (0, 0))
theorem JS.set {V W : World} {ve vn : Value} {le : List QEnum} {ln : List QNode} (h : JS V ve vn le ln W) {g : Nat} {L : List Value} (hb : Boxed W g L) (hg : V.heap.size ≤ g) (j : Nat) (u : Value) : JS V ve vn le ln (W.setCell ⟨g, j, none⟩ u) :=
  ⟨h.1.setCell (p := ⟨g, j, none⟩) hg u, h.2.1.setBox hb jpe_ne u, h.2.2.setBox hb jpn_ne u⟩
theorem JS.fin1 {V W : World} {ve vn : Value} {le : List QEnum} {ln : List QNode} (h : JS V ve vn le ln W) : JS V ve vn le ln (W.alloc (.cells #[ve, vn] 25)) ∧ Boxed (W.alloc (.cells #[ve, vn] 25)) W.heap.size [ve, vn] :=
  ⟨h.alloc _, heap_alloc_new W _⟩
theorem JS.fin2 {V W : World} {ve vn : Value} {le : List QEnum} {ln : List QNode} (h : JS V ve vn le ln W) {g : Nat} {x y : Value} (hb : Boxed W g [x, y]) (hg : V.heap.size ≤ g) :
    JS V ve vn le ln ((W.setCell ⟨g, 0, none⟩ ve).setCell ⟨g, 1, none⟩ vn) ∧ Boxed ((W.setCell ⟨g, 0, none⟩ ve).setCell ⟨g, 1, none⟩ vn) g [ve, vn] := by
  have h1 := heap_setCell_same W g 0 _ _ ve hb; have hb1 : Boxed (W.setCell ⟨g, 0, none⟩ ve) g [ve, y] := (by simpa [Boxed] using h1); have h2 := heap_setCell_same _ g 1 _ _ vn hb1; exact ⟨(h.set hb hg 0 ve).set hb1 hg 1 vn, by simpa [Boxed] using h2⟩
theorem JS.prog {V W : World} {ve vn : Value} {le : List QEnum} {ln : List QNode} (h : JS V ve vn le ln W) : ProgAt W [ve, vn] ⟨le, ln⟩ :=
  ⟨ve, vn, rfl, h.2.1.at_.mono (Below.refl _ _) fun _ _ hh => hh.under h.1, h.2.2.at_.mono (Below.refl _ _) fun _ _ hh => hh.under h.1⟩
theorem prog_parts {w : World} {ev nv : Value} {p : QProg} (h : ProgAt w [ev, nv] p) : SliceAt w (EnumAt w) ev p.enums ∧ SliceAt w (NodeAt w) nv p.nodes := by
  obtain ⟨_, _, e, h1, h2⟩ := h; injection e with e1 e; injection e with e2 _; subst e1 e2; exact ⟨h1, h2⟩
section
variable {V W : World} {ve vn : Value} {le ys : List QEnum} {ln zs : List QNode} {ops : Array Oper} {o : Oper} {a : Act} {K : Act → World → Prop} {Q : Exit → Act → World → Prop} {E : Prop} {A : Option Addr} {m c : Nat}
theorem step_enumJ (hJ : JS V ve vn le ln W) (hS : SliceAt V (EnumAt V) (.slice A m c) ys) (hl : le.length + ys.length ≤ 4194304) (hg : o.guard = none) (s x : Operand) (hop : o.op = .call { callee := .builtin .append, args := #[s, x], argTypes := #[22, 22] })
    (hs : a.eval s = ve) (hx : a.eval x = .slice A m c)
    (hK : ∀ A' m' c' w', JS V (.slice A' m' c') vn (le ++ ys) ln w' → (∀ g L, Boxed W g L → Boxed w' g L) → K (a.put o.dst (.slice A' m' c')) w') : if Region.wanted o (yielded ops a.tmps) = true then Oper.wp Tryz.prog o a W K Q else E := by
  refine step_ownJ (R := EnumAt V) (B := V.heap.size) hg s x hop Tryz.underlying22 jenum_info rfl (by decide) (by decide) jenum_len jenum_one hs hx hJ.2.1 (hS.mono hJ.1 fun _ _ h => h) hl hJ.1.size ?_; intro v' w' ho hgr hb; obtain ⟨A', m', c', rfl, _⟩ := ho.shape; exact hK A' m' c' w' ⟨hJ.1.trans hb, ho, hJ.2.2.other hJ.2.1 hgr jne_ne⟩ fun g L h => hJ.2.1.box hgr h jpe_ne
theorem step_nodeJ (hJ : JS V ve vn le ln W) (hS : SliceAt V (NodeAt V) (.slice A m c) zs) (hl : ln.length + zs.length ≤ 4194304) (hg : o.guard = none) (s x : Operand) (hop : o.op = .call { callee := .builtin .append, args := #[s, x], argTypes := #[23, 23] })
    (hs : a.eval s = vn) (hx : a.eval x = .slice A m c)
    (hK : ∀ A' m' c' w', JS V ve (.slice A' m' c') le (ln ++ zs) w' → (∀ g L, Boxed W g L → Boxed w' g L) → K (a.put o.dst (.slice A' m' c')) w') : if Region.wanted o (yielded ops a.tmps) = true then Oper.wp Tryz.prog o a W K Q else E := by
  refine step_ownJ (R := NodeAt V) (B := V.heap.size) hg s x hop Tryz.underlying23 jnode_info rfl (by decide) (by decide) jnode_len jnode_one hs hx hJ.2.2 (hS.mono hJ.1 fun _ _ h => h) hl hJ.1.size ?_; intro v' w' ho hgr hb; obtain ⟨A', m', c', rfl, _⟩ := ho.shape; exact hK A' m' c' w' ⟨hJ.1.trans hb, hJ.2.1.other hJ.2.2 hgr jen_ne, ho⟩ fun g L h => hJ.2.2.box hgr h jpn_ne
end
end Go.Proofs.YtoajfnfhphoaeaaGreatDoor
