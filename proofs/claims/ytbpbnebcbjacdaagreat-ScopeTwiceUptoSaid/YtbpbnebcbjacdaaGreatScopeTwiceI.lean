/-
  ScopeTwice: the walk.
  ScopeTwice: the walk where an enum stands there twice.
  ScopeTwice: the walk where an item stands there twice.
-/
import Derived.Test.YtbpbnebcbjacdaaGreatScopeTwice
import Derived.Test.YtbpbnebcbjacdaaGreatScopeFinds
import Derived.Test.YtbpbnebcbjacdaaGreatTreeRR
import Derived.Deep.RegionLaw
namespace Go.Proofs.YtbpbnebcbjacdaaGreat
open Go.RowKit

def zeroEN : Value := .agg #[.string ⟨#[]⟩, .slice none 0 0]
theorem enum_info : (Tryz.prog.info? 46).map (fun i => (i.zero, i.size, i.bytes)) = some (some zeroEN, 2, 40) := by kernel_rfl
theorem enum_len {w : World} : ∀ L n, EnumAt w L n → L.length = 2 := fun L n h => by obtain ⟨_, rfl, _⟩ := h; rfl
theorem enum_one {w : World} : ∀ L n, EnumAt w L n → ∀ u ∈ L, u.oneCell' = true := fun L n h u hu => by
  obtain ⟨s0, A1, n1, k1, rfl⟩ := h.shape
  simp only [List.mem_cons, List.not_mem_nil, or_false] at hu
  rcases hu with rfl | rfl <;> rfl
def zeroIT : Value := .agg #[.slice none 0 0, .int .i64 0, .string ⟨#[]⟩, .int .i64 0, .slice none 0 0, .slice none 0 0, .slice none 0 0]
theorem item_info : (Tryz.prog.info? 55).map (fun i => (i.zero, i.size, i.bytes)) = some (some zeroIT, 7, 128) := by kernel_rfl
theorem item_len {w : World} : ∀ L n, ItemAt w L n → L.length = 7 := fun L n h => by
  obtain ⟨_, _, _, _, _, _, _, _, _, _, _, _, _, _, _, rfl⟩ := h.shape; rfl
theorem item_one {w : World} : ∀ L n, ItemAt w L n → ∀ u ∈ L, u.oneCell' = true := fun L n h u hu => by
  obtain ⟨_, _, _, _, _, _, _, _, _, _, _, _, _, _, _, rfl⟩ := h.shape
  simp only [List.mem_cons, List.not_mem_nil, or_false] at hu
  rcases hu with rfl | rfl | rfl | rfl | rfl | rfl | rfl <;> rfl
section
variable {X : Type} {R : List Value → X → Prop} {B : Nat} {T TS : TypeId} {n bytes : Nat} {z : Value}
theorem step_ownG {ops : Array Oper} {o : Oper} {a : Act} {K : Act → World → Prop} {Q : Exit → Act → World → Prop} {E : Prop} {W : World} {v : Value} {xs ys : List X} {A : Option Addr} {m c : Nat} (hgd : o.guard = none) (s x : Operand)
    (hop : o.op = .call { callee := .builtin .append, args := #[s, x], argTypes := #[TS, TS] }) (hT : Tryz.prog.underlying TS = some (.slice T)) (hI : (Tryz.prog.info? T).map (fun i => (i.zero, i.size, i.bytes)) = some (some z, n, bytes))
    (hz : z.cells.size = n) (hn : 0 < n) (hby : bytes ≤ 4096) (hR : ∀ L x, R L x → L.length = n) (hone : ∀ L x, R L x → ∀ u ∈ L, u.oneCell' = true)
    (hs : a.eval s = v) (hx : a.eval x = .slice A m c) (hO : OwnG R B T n W v xs) (hS : SliceAt W R (.slice A m c) ys) (hl : xs.length + ys.length ≤ 4194304) (hB : B ≤ W.heap.size)
    (hK : ∀ v' w', OwnG R B T n w' v' (xs ++ ys) → W.grownBy w' v.ownBlock → Below B W w' → K (a.put o.dst v') w') : if Region.wanted o (yielded ops a.tmps) = true then Oper.wp Tryz.prog o a W K Q else E := by
  have hw : Region.wanted o (yielded ops a.tmps) = true := by simp [Region.wanted, hgd]
  rw [if_pos hw]
  exact wp_ownG s x hop hT hI hz hn hby hR hone hs hx hO hS hl hB hK
theorem list_ownG {ops : Array Oper} {rest : List Oper} {o : Oper} {a : Act} {Q : Exit → Act → World → Prop} {W : World} {v : Value} {xs ys : List X} {A : Option Addr} {m c : Nat} (hgd : o.guard = none) (s x : Operand)
    (hop : o.op = .call { callee := .builtin .append, args := #[s, x], argTypes := #[TS, TS] }) (hT : Tryz.prog.underlying TS = some (.slice T)) (hI : (Tryz.prog.info? T).map (fun i => (i.zero, i.size, i.bytes)) = some (some z, n, bytes))
    (hz : z.cells.size = n) (hn : 0 < n) (hby : bytes ≤ 4096) (hR : ∀ L x, R L x → L.length = n) (hone : ∀ L x, R L x → ∀ u ∈ L, u.oneCell' = true)
    (hs : a.eval s = v) (hx : a.eval x = .slice A m c) (hO : OwnG R B T n W v xs) (hS : SliceAt W R (.slice A m c) ys) (hl : xs.length + ys.length ≤ 4194304) (hB : B ≤ W.heap.size)
    (hK : ∀ v' w', OwnG R B T n w' v' (xs ++ ys) → W.grownBy w' v.ownBlock → Below B W w' → wpList Tryz.prog ops Q rest (a.put o.dst v') w') : wpList Tryz.prog ops Q (o :: rest) a W :=
  wpList_plain hgd fun _ hK' => wp_ownG s x hop hT hI hz hn hby hR hone hs hx hO hS hl hB fun v' w' h1 h2 h3 => hK' _ _ (hK v' w' h1 h2 h3)
end
theorem three (n : Int) : wrap64 ((IntKind.u64.wrap n).tmod 3) = 0 ∨ wrap64 ((IntKind.u64.wrap n).tmod 3) = 1 ∨ wrap64 ((IntKind.u64.wrap n).tmod 3) = 2 := by
  have h0 : 0 ≤ IntKind.u64.wrap n := by simp [IntKind.wrap, IntKind.bits, IntKind.signed]; omega
  rw [Int.tmod_eq_emod_of_nonneg h0]
  have h1 := Int.emod_nonneg (IntKind.u64.wrap n) (show (3 : Int) ≠ 0 by omega)
  have h2 := Int.emod_lt_of_pos (IntKind.u64.wrap n) (show (0 : Int) < 3 by omega)
  rw [IntWalk.wrap64_in _ (by omega)]
  omega
theorem OwnG.block {X : Type} {R : List Value → X → Prop} {B : Nat} {T : TypeId} {n : Nat} {W : World} {v : Value} {xs : List X} (h : OwnG R B T n W v xs) {g : Nat} (hg : v.ownBlock = some g) : ∃ cur, W.heap[g]? = some (.cells cur T (0, 0)) := by
  obtain ⟨Ls, h1, _⟩ := h
  rcases h1.2 with ⟨rfl, _⟩ | ⟨g', cap, cur, rfl, _, hh, _⟩
  · simp [Value.ownBlock] at hg
  · have : g' = g := by simpa [Value.ownBlock] using hg
    subst this
    exact ⟨cur, hh⟩
theorem OwnG.ne {X : Type} {R : List Value → X → Prop} {B : Nat} {T : TypeId} {n : Nat} {W : World} {v : Value} {xs : List X} (h : OwnG R B T n W v xs) {q : Nat} {cs : Array Value} {TP : TypeId} {fz : Nat × Nat} (hq : W.heap[q]? = some (.cells cs TP fz)) (hne : TP ≠ T) : v.ownBlock ≠ some q := by
  intro e
  obtain ⟨cur, hh⟩ := h.block e
  rw [hq] at hh
  injection hh with hh
  injection hh with _ ht
  exact hne ht
theorem OwnG.keep {X : Type} {R : List Value → X → Prop} {B : Nat} {T : TypeId} {n : Nat} {W W' : World} {v : Value} {xs : List X} (h : OwnG R B T n W v xs) (hk : ∀ g o, v.ownBlock = some g → W.heap[g]? = some o → W'.heap[g]? = some o) : OwnG R B T n W' v xs := by
  obtain ⟨Ls, ⟨h0, h1⟩, h2, h3, h4⟩ := h
  refine ⟨Ls, ⟨h0, ?_⟩, h2, h3, h4⟩
  rcases h1 with h1 | ⟨g, cap, cur, rfl, hB, hh, hr⟩
  · exact .inl h1
  · exact .inr ⟨g, cap, cur, rfl, hB, hk g _ (by simp [Value.ownBlock]) hh, hr⟩
theorem OwnG.box {X : Type} {R : List Value → X → Prop} {B : Nat} {T : TypeId} {n : Nat} {W W' : World} {v : Value} {xs : List X} (h : OwnG R B T n W v xs) (hg : W.grownBy W' v.ownBlock) {q : Nat} {cs : Array Value} {TP : TypeId} {fz : Nat × Nat} (hq : W.heap[q]? = some (.cells cs TP fz)) (hne : TP ≠ T) : W'.heap[q]? = some (.cells cs TP fz) :=
  (hg.block q (lt_of_heap hq) (fun e => h.ne hq hne e.symm)).trans hq
theorem OwnG.other {X Y : Type} {R : List Value → X → Prop} {S : List Value → Y → Prop} {B C : Nat} {T U : TypeId} {n m : Nat} {W W' : World} {v u : Value} {xs : List X} {ys : List Y} (h : OwnG R B T n W v xs) (hu : OwnG S C U m W u ys) (hg : W.grownBy W' u.ownBlock) (hne : T ≠ U) : OwnG R B T n W' v xs :=
  h.keep fun g o hv ho => by
    obtain ⟨cur, hh⟩ := h.block hv
    exact (hg.block g (lt_of_heap ho) (fun e => hu.ne hh hne e.symm)).trans ho
theorem OwnG.setBox {X : Type} {R : List Value → X → Prop} {B : Nat} {T : TypeId} {n : Nat} {W : World} {v : Value} {xs : List X} (h : OwnG R B T n W v xs) {q j : Nat} {cs : Array Value} {TP : TypeId} {fz : Nat × Nat} (hq : W.heap[q]? = some (.cells cs TP fz)) (hne : TP ≠ T) (u : Value) : OwnG R B T n (W.setCell ⟨q, j, none⟩ u) v xs :=
  h.keep fun g o hv ho => (Below.heap_setCell W ⟨q, j, none⟩ u g (show g ≠ q from fun e => h.ne hq hne (by rw [hv, e]))).trans ho
theorem pe_ne : (25 : TypeId) ≠ 46 := by decide
theorem pn_ne : (25 : TypeId) ≠ 41 := by decide
theorem en_ne : (46 : TypeId) ≠ 41 := by decide
theorem ne_ne : (41 : TypeId) ≠ 46 := by decide
/-- what the law's copy of the program is -/
structure Copied (w Z : World) (p : QProg) (B Qb : Nat) (vE vN : Value) : Prop where
  below : Below w.heap.size w Z
  box : Z.heap[Qb]? = some (.cells #[vE, vN] 25 (0, 0))
  enums : OwnG (EnumAt w) B 46 2 Z vE p.enums
  nodes : OwnG (NodeAt w) B 41 5 Z vN p.nodes
  big : w.heap.size ≤ B ∧ B ≤ Qb
set_option maxHeartbeats 16000000 in
set_option maxRecDepth 100000 in
theorem twice_bad {w : World} {p : QProg} {A1 A2 : Option Addr} {n1 k1 n2 k2 : Nat} (hL : ProgAt w [.slice A1 n1 k1, .slice A2 n2 k2] p) (hq : ∀ x ∈ p.nodes, (nodeX x).length ≤ 1048576) (n : Int) (hc : ¬ (checkQ true p).1 = 0) :
    Calls Tryz.prog 6 #[.agg #[.slice A1 n1 k1, .slice A2 n2 k2], .int .i64 n] w (Lived w) := by
  have HQ := Lib.hid hq
  have HCK := Lib.hid (check_any true hL hq)
  have hff := field_fault
  obtain ⟨ev, nv, e0, he, hnn⟩ := hL
  injection e0 with ea e0
  injection e0 with eb _
  subst ea eb
  obtain ⟨A9, c9, eq1, hec, hem, hee⟩ := he
  injection eq1 with e1 e2 e3
  subst e1 e2 e3
  obtain ⟨A', c', eq2, hcc, hmc, hne⟩ := hnn
  injection eq2 with e1 e2 e3
  subst e1 e2 e3
  have hal := Lib.hid ((Below.refl w.heap.size w).alloc (Nat.le_refl _) (.cells #[.slice A1 p.enums.length k1, .slice A2 p.nodes.length k2] 25))
  have BP := Lib.hid (heap_alloc_new w (.cells #[.slice A1 p.enums.length k1, .slice A2 p.nodes.length k2] 25))
  have hcap : p.nodes.length ≤ k2 := hcc
  have hnl : p.nodes.length ≤ 9223372036854775807 := by unfold maxLen at hmc; omega
  have hcap1 : p.enums.length ≤ k1 := hec
  have hel : p.enums.length ≤ 9223372036854775807 := by unfold maxLen at hem; omega
  have HN := Lib.hid (show SliceAt w (NodeAt w) (.slice A2 p.nodes.length k2) p.nodes from ⟨A2, k2, rfl, hcc, hmc, hne⟩)
  have HE := Lib.hid (show SliceAt w (EnumAt w) (.slice A1 p.enums.length k1) p.enums from ⟨A1, k1, rfl, hec, hem, hee⟩)
  clear hq hcc hmc hne hec hem hee
  have hd : ((checkQ true p).1 != 0) = true := by simp [hc]
  clear hc
  go_enter Tryz.func6, Tryz.ntmps6
  go_wp2_with (first
                | (go_at_call 9
                   (with_reducible refine (lives_any _).mono ?_)
                   rintro e w7 ⟨rfl, hb7⟩
                   obtain ⟨V1, rfl⟩ : ∃ W, W = w7 := ⟨_, rfl⟩
                   have HB1 := Lib.hid (hal.out.trans (hb7.mono hal.out.size))
                   have BP1 := Lib.hid (box_next hb7 BP.out)
                   obtain ⟨_, _⟩ := row2 BP1.out
                   clear hb7)
                | (go_at_call 10
                   (with_reducible refine (HCK.out _ HB1.out).mono ?_)
                   rintro e w8 ⟨rfl, hb8⟩
                   obtain ⟨V2, rfl⟩ : ∃ W, W = w8 := ⟨_, rfl⟩
                   have HB2 := Lib.hid (HB1.out.trans (hb8.mono HB1.out.size))
                   have BP2 := Lib.hid (box_next hb8 BP1.out)
                   obtain ⟨_, _⟩ := row2 BP2.out
                   clear hb8))
  go_ret
  exact ⟨rfl, HB2.out⟩
set_option maxHeartbeats 16000000 in
set_option maxRecDepth 100000 in
theorem twice_zero {w : World} {p : QProg} {A1 A2 : Option Addr} {n1 k1 n2 k2 : Nat} (hL : ProgAt w [.slice A1 n1 k1, .slice A2 n2 k2] p) (hq : ∀ x ∈ p.nodes, (nodeX x).length ≤ 1048576) (n : Int) (hc : (checkQ true p).1 = 0) (hle : p.enums.length ≤ 2097152) (hsw : wrap64 ((IntKind.u64.wrap n).tmod 3) = 0) :
    Calls Tryz.prog 6 #[.agg #[.slice A1 n1 k1, .slice A2 n2 k2], .int .i64 n] w (Lived w) := by
  have HQ := Lib.hid hq
  have HCK := Lib.hid (check_any true hL hq)
  have hff := field_fault
  obtain ⟨ev, nv, e0, he, hnn⟩ := hL
  injection e0 with ea e0
  injection e0 with eb _
  subst ea eb
  obtain ⟨A9, c9, eq1, hec, hem, hee⟩ := he
  injection eq1 with e1 e2 e3
  subst e1 e2 e3
  obtain ⟨A', c', eq2, hcc, hmc, hne⟩ := hnn
  injection eq2 with e1 e2 e3
  subst e1 e2 e3
  have hal := Lib.hid ((Below.refl w.heap.size w).alloc (Nat.le_refl _) (.cells #[.slice A1 p.enums.length k1, .slice A2 p.nodes.length k2] 25))
  have BP := Lib.hid (heap_alloc_new w (.cells #[.slice A1 p.enums.length k1, .slice A2 p.nodes.length k2] 25))
  have hcap : p.nodes.length ≤ k2 := hcc
  have hnl : p.nodes.length ≤ 9223372036854775807 := by unfold maxLen at hmc; omega
  have hcap1 : p.enums.length ≤ k1 := hec
  have hel : p.enums.length ≤ 9223372036854775807 := by unfold maxLen at hem; omega
  have HN := Lib.hid (show SliceAt w (NodeAt w) (.slice A2 p.nodes.length k2) p.nodes from ⟨A2, k2, rfl, hcc, hmc, hne⟩)
  have HE := Lib.hid (show SliceAt w (EnumAt w) (.slice A1 p.enums.length k1) p.enums from ⟨A1, k1, rfl, hec, hem, hee⟩)
  clear hq hcc hmc hne hec hem hee
  have hp1 := right_pos (check_zero hc).2.1
  have hd : ((p.nodes.length : Int) == 0) = false := beq_eq_false_iff_ne.2 (by omega)
  obtain ⟨n0, hn0⟩ : ∃ n, p.nodes[0]? = some n := ⟨_, List.getElem?_eq_getElem (by omega)⟩
  have HN0 := Lib.hid hn0
  have HZ := Lib.hid (check_zero hc).1
  have HBAD := Lib.hid (twice_node hc (List.mem_of_getElem? hn0))
  clear hc hn0
  go_enter Tryz.func6, Tryz.ntmps6
  go_wp2_with (first
                | (go_at_call 9
                   (with_reducible refine (lives_any _).mono ?_)
                   rintro e w7 ⟨rfl, hb7⟩
                   obtain ⟨V1, rfl⟩ : ∃ W, W = w7 := ⟨_, rfl⟩
                   have HB1 := Lib.hid (hal.out.trans (hb7.mono hal.out.size))
                   have BP1 := Lib.hid (box_next hb7 BP.out)
                   obtain ⟨_, _⟩ := row2 BP1.out
                   clear hb7)
                | (go_at_call 10
                   (with_reducible refine (HCK.out _ HB1.out).mono ?_)
                   rintro e w8 ⟨he, hb8⟩
                   rw [HZ.out] at he
                   subst he
                   obtain ⟨V2, rfl⟩ : ∃ W, W = w8 := ⟨_, rfl⟩
                   have HB2 := Lib.hid (HB1.out.trans (hb8.mono HB1.out.size))
                   have BP2 := Lib.hid (box_next hb8 BP1.out)
                   obtain ⟨_, _⟩ := row2 BP2.out
                   clear hb8))
  have hle0 : ([] : List QEnum).length + p.enums.length ≤ 4194304 := by simp; omega
  have hln0 : ([] : List QNode).length + p.nodes.length ≤ 4194304 := by simp; omega
  have hVw := HB2.out.size
  have HE2 := Lib.hid (show SliceAt V2 (EnumAt w) (.slice A1 p.enums.length k1) p.enums from HE.out.mono HB2.out (fun _ _ h => h))
  have HN2 := Lib.hid (show SliceAt V2 (NodeAt w) (.slice A2 p.nodes.length k2) p.nodes from HN.out.mono HB2.out (fun _ _ h => h))
  obtain ⟨p0, p1⟩ := row2 BP2.out
  have hPl := lt_of_heap BP2.out
  refine wp_region_held_drew (S := (fun W => W.cell? ⟨w.heap.size, 0, none⟩ = some (.slice A1 p.enums.length k1) ∧ W.cell? ⟨w.heap.size, 1, none⟩ = some (.slice A2 p.nodes.length k2))) (by kernel_rfl) ?_ (fun hHeld => ?_)
  · (try dsimp only); go_keep
  refine take_at 0 (v := ?_) rfl (by kernel_rfl) (by kernel_rfl) (by kernel_rfl) (fun _ _ _ h => h) (by rfl) ?_ (by assumption) ?_
  rotate_left
  · intro w hSw; (try dsimp only at hSw); go_simp; (try rw [if_neg (by assumption)]); (try rw [if_pos (by omega)]); (try simp only [hSw]); (try with_reducible rfl)
  try simp only [Act.put, List.setIfInBounds_toArray, List.set_cons_zero, List.set_cons_succ]
  refine take_at 1 (v := ?_) rfl (by kernel_rfl) (by kernel_rfl) (by kernel_rfl) (fun _ _ _ h => h) (by rfl) ?_ (by assumption) ?_
  rotate_left
  · intro w hSw; (try dsimp only at hSw); go_simp; (try rw [if_neg (by assumption)]); (try rw [if_pos (by omega)]); (try simp only [hSw]); (try with_reducible rfl)
  try simp only [Act.put, List.setIfInBounds_toArray, List.set_cons_zero, List.set_cons_succ]
  refine take_at 3 (v := ?_) rfl (by kernel_rfl) (by kernel_rfl) (by kernel_rfl) (fun _ _ _ h => h) (by rfl) ?_ (by assumption) ?_
  rotate_left
  · intro w hSw; (try dsimp only at hSw); go_simp; (try rw [if_neg (by assumption)]); (try rw [if_pos (by omega)]); (try simp only [hSw]); (try with_reducible rfl)
  try simp only [Act.put, List.setIfInBounds_toArray, List.set_cons_zero, List.set_cons_succ]
  refine take_at 4 (v := ?_) rfl (by kernel_rfl) (by kernel_rfl) (by kernel_rfl) (fun _ _ _ h => h) (by rfl) ?_ (by assumption) ?_
  rotate_left
  · intro w hSw; (try dsimp only at hSw); go_simp; (try rw [if_neg (by assumption)]); (try rw [if_pos (by omega)]); (try simp only [hSw]); (try with_reducible rfl)
  try simp only [Act.put, List.setIfInBounds_toArray, List.set_cons_zero, List.set_cons_succ]
  refine wpAnyH_ready (rs := [2, 7]) (by kernel_rfl) (by simp) (cons_at 2 rfl (fun K hK => ?_) (cons_at 7 rfl (fun K hK => ?_) AllReadyH.nil))
  · skip
    (refine step_ownG (R := EnumAt w) (B := V2.heap.size) (xs := []) (ys := p.enums) rfl _ _ rfl Tryz.underlying22 enum_info rfl (by decide) (by decide) enum_len enum_one rfl rfl (OwnG.nil _) (HE2.out.mono (Below.refl V2.heap.size V2).drew (fun _ _ h => h)) hle0 (Nat.le_refl _) ?_
     intro v1 w1 ho1 hg1 hb1
     obtain ⟨Y1, rfl⟩ : ∃ W, W = w1 := ⟨_, rfl⟩
     obtain ⟨EA, em, ec, rfl, hm5⟩ := ho1.shape
     clear hm5
     have HOE := Lib.hid (show OwnG (EnumAt w) V2.heap.size 46 2 Y1 (.slice EA em ec) p.enums from ho1)
     have G1 := Lib.hid ((Below.refl V2.heap.size V2).drew.trans hb1)
     have GG1 := Lib.hid (below_grown (show V2.drew.grownBy Y1 none from hg1))
     obtain ⟨p0, p1⟩ := row2 (box_next G1.out BP2.out)
     clear ho1 hg1 hb1)
    refine hK.out _ _ ?_ (fun hHeld => ?_)
    · (try dsimp only); go_keep
    clear hK K
    try simp only [Act.put, List.setIfInBounds_toArray, List.set_cons_zero, List.set_cons_succ]
    refine wpAnyH_ready (rs := [5, 7]) (by kernel_rfl) (by simp) (cons_at 5 rfl (fun K hK => ?_) (cons_at 7 rfl (fun K hK => ?_) AllReadyH.nil))
    · skip
      (refine step_ownG (R := NodeAt w) (B := V2.heap.size) (xs := []) (ys := p.nodes) rfl _ _ rfl Tryz.underlying23 node_info rfl (by decide) (by decide) node_len node_one rfl rfl (OwnG.nil _) (HN2.out.mono G1.out (fun _ _ h => h)) hln0 G1.out.size ?_
       intro v1 w1 ho1 hg1 hb1
       obtain ⟨Y2, rfl⟩ : ∃ W, W = w1 := ⟨_, rfl⟩
       obtain ⟨NA, nm, nc, rfl, hm5⟩ := ho1.shape
       clear hm5
       have HON := Lib.hid (show OwnG (NodeAt w) V2.heap.size 41 5 Y2 (.slice NA nm nc) p.nodes from ho1)
       have GG2 := Lib.hid (below_grown (show Y1.grownBy Y2 none from hg1))
       have G2 := Lib.hid (G1.out.trans hb1)
       have HOE2 := Lib.hid (HOE.out.under (GG2.out))
       obtain ⟨p0, p1⟩ := row2 (box_next G2.out BP2.out)
       clear ho1 hg1 hb1)
      refine hK.out _ _ ?_ (fun hHeld => ?_)
      · (try dsimp only); go_keep
      clear hK K
      try simp only [Act.put, List.setIfInBounds_toArray, List.set_cons_zero, List.set_cons_succ]
      refine take_at 6 (v := ?_) rfl (by kernel_rfl) (by kernel_rfl) (by kernel_rfl) (fun _ _ _ h => h) (by rfl) ?_ (by assumption) ?_
      rotate_left
      · intro w hSw; (try dsimp only at hSw); go_simp; (try rw [if_neg (by assumption)]); (try rw [if_pos (by omega)]); (try simp only [hSw]); (try with_reducible rfl)
      try simp only [Act.put, List.setIfInBounds_toArray, List.set_cons_zero, List.set_cons_succ]
      refine only_at 7 (by kernel_rfl) rfl (fun K hK => ?_)
      go_simp
      refine hK.out _ _ ?_ (fun hHeld => ?_)
      · (try dsimp only); go_keep
      clear hK K
      try simp only [Act.put, List.setIfInBounds_toArray, List.set_cons_zero, List.set_cons_succ]
      have BQ0 := Lib.hid (heap_alloc_new Y2 (.cells #[.slice none 0 0, .slice none 0 0] 25))
      have G3 := Lib.hid (G2.out.alloc G2.out.size (.cells #[.slice none 0 0, .slice none 0 0] 25))
      have a3 := Lib.hid ((Below.refl Y2.heap.size Y2).alloc (Nat.le_refl _) (.cells #[.slice none 0 0, .slice none 0 0] 25))
      have HOE3 := Lib.hid (HOE2.out.under a3.out)
      have HON3 := Lib.hid (HON.out.under a3.out)
      have hQb := G2.out.size
      generalize hqb : Y2.heap.size = Qb at *
      generalize Y2.alloc (.cells #[.slice none 0 0, .slice none 0 0] 25) = Y3 at *
      clear hqb a3
      obtain ⟨s0, s1⟩ := row2 BQ0.out
      have fq0 := row_frozen BQ0.out 0
      have fq1 := row_frozen BQ0.out 1
      have B5 := Lib.hid (show ((Y3.setCell ⟨Qb, 0, none⟩ (.slice EA em ec)).setCell ⟨Qb, 1, none⟩ (.slice NA nm nc)).heap[Qb]? = some (.cells #[.slice EA em ec, .slice NA nm nc] 25 (0, 0)) by
        have h1 := heap_setCell_same Y3 Qb 0 _ _ (.slice EA em ec) BQ0.out
        have h2 := heap_setCell_same _ Qb 1 _ _ (.slice NA nm nc) h1
        simpa using h2)
      have HCP := Lib.hid (show Copied w ((Y3.setCell ⟨Qb, 0, none⟩ (.slice EA em ec)).setCell ⟨Qb, 1, none⟩ (.slice NA nm nc)) p V2.heap.size Qb (.slice EA em ec) (.slice NA nm nc) from by
        have h1 := heap_setCell_same Y3 Qb 0 _ _ (.slice EA em ec) BQ0.out
        refine ⟨(((HB2.out.trans (G3.out.mono hVw)).setCell (p := ⟨Qb, 0, none⟩) (show w.heap.size ≤ Qb by omega) _).setCell (p := ⟨Qb, 1, none⟩) (show w.heap.size ≤ Qb by omega) _), B5.out, ?_, ?_, by omega, by omega⟩
        · exact (HOE3.out.setBox BQ0.out pe_ne _).setBox h1 pe_ne _
        · exact (HON3.out.setBox BQ0.out pn_ne _).setBox h1 pn_ne _)
      obtain ⟨p0, p1⟩ := row2 ((Below.heap_setCell (Y3.setCell ⟨Qb, 0, none⟩ (.slice EA em ec)) ⟨Qb, 1, none⟩ (.slice NA nm nc) w.heap.size (show w.heap.size ≠ Qb by omega)).trans ((Below.heap_setCell Y3 ⟨Qb, 0, none⟩ (.slice EA em ec) w.heap.size (show w.heap.size ≠ Qb by omega)).trans (box_next G3.out BP2.out)))
      refine only_at 8 (by kernel_rfl) rfl (fun K hK => ?_)
      go_simp
      refine hK.out _ _ ?_ (fun hHeld => ?_)
      · (try dsimp only); go_keep
      clear hK K
      refine wpAnyH_done (by kernel_rfl) ?_ _
      generalize (Y3.setCell ⟨Qb, 0, none⟩ (.slice EA em ec)).setCell ⟨Qb, 1, none⟩ (.slice NA nm nc) = Z at *
      have HZl := lt_of_heap HCP.out.box
      have HZb := HCP.out.big
      obtain ⟨s0, s1⟩ := row2 HCP.out.box
      have HNZ := HCP.out.nodes.at_
      obtain ⟨A5, c5, e5, hc5, hm5, he5⟩ := HNZ
      injection e5 with e51 e52 e53
      subst e51 e52 e53
      obtain ⟨L0, hE0, hN0⟩ := he5 0 n0 HN0.out
      have HNA0 := Lib.hid hN0
      obtain ⟨z0, zA1, zm1, zk1, zA2, zm2, zk2, zA3, zm3, zk3, zA4, zm4, zk4, rfl⟩ := hN0.shape
      obtain ⟨zb, ezb, _, _, d0, d1, d2, d3, d4⟩ := elem5 hE0
      subst ezb
      simp only [Nat.zero_mul, add_zero] at d0 d1 d2 d3 d4
      have hpos : 0 < p.nodes.length := by omega
      clear hE0 hN0 he5 hc5 hm5
      have HZ1 := Lib.hid (((Below.refl Z.heap.size Z).alloc (Nat.le_refl _) (.cells #[.string z0, .slice zA1 zm1 zk1, .slice zA2 zm2 zk2, .slice zA3 zm3 zk3, .slice zA4 zm4 zk4] 41)).alloc (by simp) (.cells #[.string z0, .slice zA1 zm1 zk1, .slice zA2 zm2 zk2, .slice zA3 zm3 zk3, .slice zA4 zm4 zk4] 41))
      have HON1 := Lib.hid (HCP.out.nodes.under HZ1.out)
      have HOE1 := Lib.hid (HCP.out.enums.under HZ1.out)
      have BQ1 := Lib.hid (box_next HZ1.out HCP.out.box)
      have BS1 := Lib.hid (show ((Z.alloc (.cells #[.string z0, .slice zA1 zm1 zk1, .slice zA2 zm2 zk2, .slice zA3 zm3 zk3, .slice zA4 zm4 zk4] 41)).alloc (.cells #[.string z0, .slice zA1 zm1 zk1, .slice zA2 zm2 zk2, .slice zA3 zm3 zk3, .slice zA4 zm4 zk4] 41)).heap[Z.heap.size + 1]? = some (.cells #[.string z0, .slice zA1 zm1 zk1, .slice zA2 zm2 zk2, .slice zA3 zm3 zk3, .slice zA4 zm4 zk4] 41 (0, 0)) from alloc_at (by simp))
      have hB1 : V2.heap.size ≤ ((Z.alloc (.cells #[.string z0, .slice zA1 zm1 zk1, .slice zA2 zm2 zk2, .slice zA3 zm3 zk3, .slice zA4 zm4 zk4] 41)).alloc (.cells #[.string z0, .slice zA1 zm1 zk1, .slice zA2 zm2 zk2, .slice zA3 zm3 zk3, .slice zA4 zm4 zk4] 41)).heap.size := by have := HZ1.out.size; omega
      have hl5 : p.nodes.length + [n0].length ≤ 4194304 := by simp; omega
      by_cases h4 : (checkQ true ⟨p.enums, p.nodes ++ [n0]⟩).1 = 4
      · have H4 := Lib.hid h4
        clear h4
        go_wp2_with (first
          | (at_builtin; refine list_ownG (R := NodeAt w) (B := V2.heap.size) (xs := p.nodes) (ys := [n0]) rfl _ _ rfl Tryz.underlying23 node_info rfl (by decide) (by decide) node_len node_one rfl rfl HON1.out (made1 BS1.out HNA0.out rfl) hl5 hB1 ?_
             intro v3 w3 ho3 hg3 hb3
             obtain ⟨Y5, rfl⟩ : ∃ W, W = w3 := ⟨_, rfl⟩
             obtain ⟨A6, m6, c6, rfl, hm6⟩ := ho3.shape
             clear hm6
             have BQ5 := Lib.hid (HON1.out.box hg3 BQ1.out pn_ne)
             have HOE5 := Lib.hid (HOE1.out.other HON1.out hg3 en_ne)
             have HO5 := Lib.hid ho3
             obtain ⟨s0, s1⟩ := row2 BQ5.out
             have fq := row_frozen BQ5.out 1
             have BQs := Lib.hid (show (Y5.setCell ⟨Qb, 1, none⟩ (.slice A6 m6 c6)).heap[Qb]? = some (.cells #[.slice EA em ec, .slice A6 m6 c6] 25 (0, 0)) by have := heap_setCell_same Y5 Qb 1 _ _ (.slice A6 m6 c6) BQ5.out; simpa using this)
             have HBs := Lib.hid (((HCP.out.below.trans (HZ1.out.mono HCP.out.below.size)).trans (hb3.mono HZb.1)).setCell (p := ⟨Qb, 1, none⟩) (show w.heap.size ≤ Qb by omega) (.slice A6 m6 c6))
             have HPs := Lib.hid (show ProgAt (Y5.setCell ⟨Qb, 1, none⟩ (.slice A6 m6 c6)) [.slice EA em ec, .slice A6 m6 c6] ⟨p.enums, p.nodes ++ [n0]⟩ from ⟨_, _, rfl, SliceAt.mono (HOE5.out.setBox (j := 1) BQ5.out pe_ne (.slice A6 m6 c6)).at_ (Below.refl _ _) (fun _ _ h => h.under HBs.out), SliceAt.mono (HO5.out.setBox (j := 1) BQ5.out pn_ne (.slice A6 m6 c6)).at_ (Below.refl _ _) (fun _ _ h => h.under HBs.out)⟩)
             obtain ⟨s0', s1'⟩ := row2 BQs.out
             have HFEW := Lib.hid (show ∀ x ∈ (⟨p.enums, p.nodes ++ [n0]⟩ : QProg).nodes, (nodeX x).length ≤ 1048576 from (fun x hx => by
               rcases List.mem_append.1 hx with hx | hx
               · exact HQ.out x hx
               · rw [List.mem_singleton] at hx; subst hx; exact HQ.out x (List.mem_of_getElem? HN0.out)))
             have HCK6 := Lib.hid (check_any true HPs.out HFEW.out)
             have HRR6 := Lib.hid (rRight_any true HPs.out HFEW.out)
             have HB6 := Lib.hid (HBs.out)
             have BQ6 := Lib.hid (BQs.out)
             clear ho3 hg3 hb3)
          | (go_at_call 10
             (with_reducible refine (HCK6.out _ (Below.refl _ _)).mono ?_)
             rintro e w8 ⟨he, hb8⟩
             rw [H4.out] at he
             subst he
             obtain ⟨Y8, rfl⟩ : ∃ W, W = w8 := ⟨_, rfl⟩
             have HB8 := Lib.hid (HB6.out.trans (hb8.mono HB6.out.size))
             clear hb8))
        go_ret
        exact ⟨rfl, HB8.out.alloc HB8.out.size _⟩
      · have hrn := HBAD.out.resolve_left h4
        have hd4 : ((checkQ true ⟨p.enums, p.nodes ++ [n0]⟩).1 == 4) = false := beq_eq_false_iff_ne.2 h4
        have hdn : ((checkQ true ⟨p.enums, p.nodes ++ [n0]⟩).1 != 0) = true := bne_iff_ne.2 hrn.2
        have hdr : (rightL true ⟨p.enums, p.nodes ++ [n0]⟩ != 0) = true := bne_iff_ne.2 hrn.1
        clear h4 hrn
        go_wp2_with (first
          | (at_builtin; refine list_ownG (R := NodeAt w) (B := V2.heap.size) (xs := p.nodes) (ys := [n0]) rfl _ _ rfl Tryz.underlying23 node_info rfl (by decide) (by decide) node_len node_one rfl rfl HON1.out (made1 BS1.out HNA0.out rfl) hl5 hB1 ?_
             intro v3 w3 ho3 hg3 hb3
             obtain ⟨Y5, rfl⟩ : ∃ W, W = w3 := ⟨_, rfl⟩
             obtain ⟨A6, m6, c6, rfl, hm6⟩ := ho3.shape
             clear hm6
             have BQ5 := Lib.hid (HON1.out.box hg3 BQ1.out pn_ne)
             have HOE5 := Lib.hid (HOE1.out.other HON1.out hg3 en_ne)
             have HO5 := Lib.hid ho3
             obtain ⟨s0, s1⟩ := row2 BQ5.out
             have fq := row_frozen BQ5.out 1
             have BQs := Lib.hid (show (Y5.setCell ⟨Qb, 1, none⟩ (.slice A6 m6 c6)).heap[Qb]? = some (.cells #[.slice EA em ec, .slice A6 m6 c6] 25 (0, 0)) by have := heap_setCell_same Y5 Qb 1 _ _ (.slice A6 m6 c6) BQ5.out; simpa using this)
             have HBs := Lib.hid (((HCP.out.below.trans (HZ1.out.mono HCP.out.below.size)).trans (hb3.mono HZb.1)).setCell (p := ⟨Qb, 1, none⟩) (show w.heap.size ≤ Qb by omega) (.slice A6 m6 c6))
             have HPs := Lib.hid (show ProgAt (Y5.setCell ⟨Qb, 1, none⟩ (.slice A6 m6 c6)) [.slice EA em ec, .slice A6 m6 c6] ⟨p.enums, p.nodes ++ [n0]⟩ from ⟨_, _, rfl, SliceAt.mono (HOE5.out.setBox (j := 1) BQ5.out pe_ne (.slice A6 m6 c6)).at_ (Below.refl _ _) (fun _ _ h => h.under HBs.out), SliceAt.mono (HO5.out.setBox (j := 1) BQ5.out pn_ne (.slice A6 m6 c6)).at_ (Below.refl _ _) (fun _ _ h => h.under HBs.out)⟩)
             obtain ⟨s0', s1'⟩ := row2 BQs.out
             have HFEW := Lib.hid (show ∀ x ∈ (⟨p.enums, p.nodes ++ [n0]⟩ : QProg).nodes, (nodeX x).length ≤ 1048576 from (fun x hx => by
               rcases List.mem_append.1 hx with hx | hx
               · exact HQ.out x hx
               · rw [List.mem_singleton] at hx; subst hx; exact HQ.out x (List.mem_of_getElem? HN0.out)))
             have HCK6 := Lib.hid (check_any true HPs.out HFEW.out)
             have HRR6 := Lib.hid (rRight_any true HPs.out HFEW.out)
             have HB6 := Lib.hid (HBs.out)
             have BQ6 := Lib.hid (BQs.out)
             clear ho3 hg3 hb3)
          | (go_at_call 10
             (with_reducible refine (HCK6.out _ (Below.refl _ _)).mono ?_)
             rintro e w8 ⟨he, hb8⟩
             subst he
             obtain ⟨Y8, rfl⟩ : ∃ W, W = w8 := ⟨_, rfl⟩
             have HB8 := Lib.hid (HB6.out.trans (hb8.mono HB6.out.size))
             have H68 := Lib.hid hb8
             obtain ⟨_, _⟩ := row2 (alloc_below (o := .cells #[.int .i64 (checkQ true ⟨p.enums, p.nodes ++ [n0]⟩).1, .int .i64 (checkQ true ⟨p.enums, p.nodes ++ [n0]⟩).2.1, .int .i64 (checkQ true ⟨p.enums, p.nodes ++ [n0]⟩).2.2] 29) (box_next hb8 BQ6.out))
             clear hb8)
          | (go_at_call 20
             (with_reducible refine (HRR6.out _ (H68.out.alloc H68.out.size _)).mono ?_)
             rintro e w9 ⟨rfl, hb9⟩
             obtain ⟨Y9, rfl⟩ : ∃ W, W = w9 := ⟨_, rfl⟩
             have HB9 := Lib.hid ((HB8.out.alloc HB8.out.size (.cells #[.int .i64 (checkQ true ⟨p.enums, p.nodes ++ [n0]⟩).1, .int .i64 (checkQ true ⟨p.enums, p.nodes ++ [n0]⟩).2.1, .int .i64 (checkQ true ⟨p.enums, p.nodes ++ [n0]⟩).2.2] 29)).trans (hb9.mono (by have := HB8.out.size; simp; omega)))
             obtain ⟨_, _, _⟩ := row3 (box_next hb9 (heap_alloc_new Y8 (.cells #[.int .i64 (checkQ true ⟨p.enums, p.nodes ++ [n0]⟩).1, .int .i64 (checkQ true ⟨p.enums, p.nodes ++ [n0]⟩).2.1, .int .i64 (checkQ true ⟨p.enums, p.nodes ++ [n0]⟩).2.2] 29)))
             clear hb9))
        go_ret
        exact ⟨rfl, HB9.out⟩
    · skip
      go_simp
      refine hK.out _ _ ?_ (fun hHeld => ?_)
      · (try dsimp only); go_keep
      clear hK K
      try simp only [Act.put, List.setIfInBounds_toArray, List.set_cons_zero, List.set_cons_succ]
      have BQ1 := Lib.hid (heap_alloc_new Y1 (.cells #[.slice none 0 0, .slice none 0 0] 25))
      have G1b := Lib.hid (G1.out.alloc G1.out.size (.cells #[.slice none 0 0, .slice none 0 0] 25))
      have a3 := Lib.hid ((Below.refl Y1.heap.size Y1).alloc (Nat.le_refl _) (.cells #[.slice none 0 0, .slice none 0 0] 25))
      have hQb := G1.out.size
      have HOEb := Lib.hid (HOE.out.under a3.out)
      generalize hqb : Y1.heap.size = Qb at *
      generalize Y1.alloc (.cells #[.slice none 0 0, .slice none 0 0] 25) = Yb at *
      clear hqb
      obtain ⟨p0, p1⟩ := row2 (box_next G1b.out BP2.out)
      refine only_at 5 (by kernel_rfl) rfl (fun K hK => ?_)
      (refine step_ownG (R := NodeAt w) (B := V2.heap.size) (xs := []) (ys := p.nodes) rfl _ _ rfl Tryz.underlying23 node_info rfl (by decide) (by decide) node_len node_one rfl rfl (OwnG.nil _) (HN2.out.mono G1b.out (fun _ _ h => h)) hln0 G1b.out.size ?_
       intro v1 w1 ho1 hg1 hb1
       obtain ⟨Y3, rfl⟩ : ∃ W, W = w1 := ⟨_, rfl⟩
       obtain ⟨NA, nm, nc, rfl, hm5⟩ := ho1.shape
       clear hm5
       have HON := Lib.hid (show OwnG (NodeAt w) V2.heap.size 41 5 Y3 (.slice NA nm nc) p.nodes from ho1)
       have GG2 := Lib.hid (below_grown (show Yb.grownBy Y3 none from hg1))
       have G2 := Lib.hid (G1b.out.trans hb1)
       have HOE2 := Lib.hid (HOEb.out.under (GG2.out))
       obtain ⟨p0, p1⟩ := row2 (box_next G2.out BP2.out)
       clear ho1 hg1 hb1)
      refine hK.out _ _ ?_ (fun hHeld => ?_)
      · (try dsimp only); go_keep
      clear hK K
      try simp only [Act.put, List.setIfInBounds_toArray, List.set_cons_zero, List.set_cons_succ]
      refine take_at 6 (v := ?_) rfl (by kernel_rfl) (by kernel_rfl) (by kernel_rfl) (fun _ _ _ h => h) (by rfl) ?_ (by assumption) ?_
      rotate_left
      · intro w hSw; (try dsimp only at hSw); go_simp; (try rw [if_neg (by assumption)]); (try rw [if_pos (by omega)]); (try simp only [hSw]); (try with_reducible rfl)
      try simp only [Act.put, List.setIfInBounds_toArray, List.set_cons_zero, List.set_cons_succ]
      have BQ0 := Lib.hid (box_next GG2.out BQ1.out)
      have G3 := Lib.hid G2.out
      have HOE3 := Lib.hid HOE2.out
      have HON3 := Lib.hid HON.out
      obtain ⟨s0, s1⟩ := row2 BQ0.out
      have fq0 := row_frozen BQ0.out 0
      have fq1 := row_frozen BQ0.out 1
      have B5 := Lib.hid (show ((Y3.setCell ⟨Qb, 0, none⟩ (.slice EA em ec)).setCell ⟨Qb, 1, none⟩ (.slice NA nm nc)).heap[Qb]? = some (.cells #[.slice EA em ec, .slice NA nm nc] 25 (0, 0)) by
        have h1 := heap_setCell_same Y3 Qb 0 _ _ (.slice EA em ec) BQ0.out
        have h2 := heap_setCell_same _ Qb 1 _ _ (.slice NA nm nc) h1
        simpa using h2)
      have HCP := Lib.hid (show Copied w ((Y3.setCell ⟨Qb, 0, none⟩ (.slice EA em ec)).setCell ⟨Qb, 1, none⟩ (.slice NA nm nc)) p V2.heap.size Qb (.slice EA em ec) (.slice NA nm nc) from by
        have h1 := heap_setCell_same Y3 Qb 0 _ _ (.slice EA em ec) BQ0.out
        refine ⟨(((HB2.out.trans (G3.out.mono hVw)).setCell (p := ⟨Qb, 0, none⟩) (show w.heap.size ≤ Qb by omega) _).setCell (p := ⟨Qb, 1, none⟩) (show w.heap.size ≤ Qb by omega) _), B5.out, ?_, ?_, by omega, by omega⟩
        · exact (HOE3.out.setBox BQ0.out pe_ne _).setBox h1 pe_ne _
        · exact (HON3.out.setBox BQ0.out pn_ne _).setBox h1 pn_ne _)
      obtain ⟨p0, p1⟩ := row2 ((Below.heap_setCell (Y3.setCell ⟨Qb, 0, none⟩ (.slice EA em ec)) ⟨Qb, 1, none⟩ (.slice NA nm nc) w.heap.size (show w.heap.size ≠ Qb by omega)).trans ((Below.heap_setCell Y3 ⟨Qb, 0, none⟩ (.slice EA em ec) w.heap.size (show w.heap.size ≠ Qb by omega)).trans (box_next G3.out BP2.out)))
      refine only_at 8 (by kernel_rfl) rfl (fun K hK => ?_)
      go_simp
      refine hK.out _ _ ?_ (fun hHeld => ?_)
      · (try dsimp only); go_keep
      clear hK K
      refine wpAnyH_done (by kernel_rfl) ?_ _
      generalize (Y3.setCell ⟨Qb, 0, none⟩ (.slice EA em ec)).setCell ⟨Qb, 1, none⟩ (.slice NA nm nc) = Z at *
      have HZl := lt_of_heap HCP.out.box
      have HZb := HCP.out.big
      obtain ⟨s0, s1⟩ := row2 HCP.out.box
      have HNZ := HCP.out.nodes.at_
      obtain ⟨A5, c5, e5, hc5, hm5, he5⟩ := HNZ
      injection e5 with e51 e52 e53
      subst e51 e52 e53
      obtain ⟨L0, hE0, hN0⟩ := he5 0 n0 HN0.out
      have HNA0 := Lib.hid hN0
      obtain ⟨z0, zA1, zm1, zk1, zA2, zm2, zk2, zA3, zm3, zk3, zA4, zm4, zk4, rfl⟩ := hN0.shape
      obtain ⟨zb, ezb, _, _, d0, d1, d2, d3, d4⟩ := elem5 hE0
      subst ezb
      simp only [Nat.zero_mul, add_zero] at d0 d1 d2 d3 d4
      have hpos : 0 < p.nodes.length := by omega
      clear hE0 hN0 he5 hc5 hm5
      have HZ1 := Lib.hid (((Below.refl Z.heap.size Z).alloc (Nat.le_refl _) (.cells #[.string z0, .slice zA1 zm1 zk1, .slice zA2 zm2 zk2, .slice zA3 zm3 zk3, .slice zA4 zm4 zk4] 41)).alloc (by simp) (.cells #[.string z0, .slice zA1 zm1 zk1, .slice zA2 zm2 zk2, .slice zA3 zm3 zk3, .slice zA4 zm4 zk4] 41))
      have HON1 := Lib.hid (HCP.out.nodes.under HZ1.out)
      have HOE1 := Lib.hid (HCP.out.enums.under HZ1.out)
      have BQ1 := Lib.hid (box_next HZ1.out HCP.out.box)
      have BS1 := Lib.hid (show ((Z.alloc (.cells #[.string z0, .slice zA1 zm1 zk1, .slice zA2 zm2 zk2, .slice zA3 zm3 zk3, .slice zA4 zm4 zk4] 41)).alloc (.cells #[.string z0, .slice zA1 zm1 zk1, .slice zA2 zm2 zk2, .slice zA3 zm3 zk3, .slice zA4 zm4 zk4] 41)).heap[Z.heap.size + 1]? = some (.cells #[.string z0, .slice zA1 zm1 zk1, .slice zA2 zm2 zk2, .slice zA3 zm3 zk3, .slice zA4 zm4 zk4] 41 (0, 0)) from alloc_at (by simp))
      have hB1 : V2.heap.size ≤ ((Z.alloc (.cells #[.string z0, .slice zA1 zm1 zk1, .slice zA2 zm2 zk2, .slice zA3 zm3 zk3, .slice zA4 zm4 zk4] 41)).alloc (.cells #[.string z0, .slice zA1 zm1 zk1, .slice zA2 zm2 zk2, .slice zA3 zm3 zk3, .slice zA4 zm4 zk4] 41)).heap.size := by have := HZ1.out.size; omega
      have hl5 : p.nodes.length + [n0].length ≤ 4194304 := by simp; omega
      by_cases h4 : (checkQ true ⟨p.enums, p.nodes ++ [n0]⟩).1 = 4
      · have H4 := Lib.hid h4
        clear h4
        go_wp2_with (first
          | (at_builtin; refine list_ownG (R := NodeAt w) (B := V2.heap.size) (xs := p.nodes) (ys := [n0]) rfl _ _ rfl Tryz.underlying23 node_info rfl (by decide) (by decide) node_len node_one rfl rfl HON1.out (made1 BS1.out HNA0.out rfl) hl5 hB1 ?_
             intro v3 w3 ho3 hg3 hb3
             obtain ⟨Y5, rfl⟩ : ∃ W, W = w3 := ⟨_, rfl⟩
             obtain ⟨A6, m6, c6, rfl, hm6⟩ := ho3.shape
             clear hm6
             have BQ5 := Lib.hid (HON1.out.box hg3 BQ1.out pn_ne)
             have HOE5 := Lib.hid (HOE1.out.other HON1.out hg3 en_ne)
             have HO5 := Lib.hid ho3
             obtain ⟨s0, s1⟩ := row2 BQ5.out
             have fq := row_frozen BQ5.out 1
             have BQs := Lib.hid (show (Y5.setCell ⟨Qb, 1, none⟩ (.slice A6 m6 c6)).heap[Qb]? = some (.cells #[.slice EA em ec, .slice A6 m6 c6] 25 (0, 0)) by have := heap_setCell_same Y5 Qb 1 _ _ (.slice A6 m6 c6) BQ5.out; simpa using this)
             have HBs := Lib.hid (((HCP.out.below.trans (HZ1.out.mono HCP.out.below.size)).trans (hb3.mono HZb.1)).setCell (p := ⟨Qb, 1, none⟩) (show w.heap.size ≤ Qb by omega) (.slice A6 m6 c6))
             have HPs := Lib.hid (show ProgAt (Y5.setCell ⟨Qb, 1, none⟩ (.slice A6 m6 c6)) [.slice EA em ec, .slice A6 m6 c6] ⟨p.enums, p.nodes ++ [n0]⟩ from ⟨_, _, rfl, SliceAt.mono (HOE5.out.setBox (j := 1) BQ5.out pe_ne (.slice A6 m6 c6)).at_ (Below.refl _ _) (fun _ _ h => h.under HBs.out), SliceAt.mono (HO5.out.setBox (j := 1) BQ5.out pn_ne (.slice A6 m6 c6)).at_ (Below.refl _ _) (fun _ _ h => h.under HBs.out)⟩)
             obtain ⟨s0', s1'⟩ := row2 BQs.out
             have HFEW := Lib.hid (show ∀ x ∈ (⟨p.enums, p.nodes ++ [n0]⟩ : QProg).nodes, (nodeX x).length ≤ 1048576 from (fun x hx => by
               rcases List.mem_append.1 hx with hx | hx
               · exact HQ.out x hx
               · rw [List.mem_singleton] at hx; subst hx; exact HQ.out x (List.mem_of_getElem? HN0.out)))
             have HCK6 := Lib.hid (check_any true HPs.out HFEW.out)
             have HRR6 := Lib.hid (rRight_any true HPs.out HFEW.out)
             have HB6 := Lib.hid (HBs.out)
             have BQ6 := Lib.hid (BQs.out)
             clear ho3 hg3 hb3)
          | (go_at_call 10
             (with_reducible refine (HCK6.out _ (Below.refl _ _)).mono ?_)
             rintro e w8 ⟨he, hb8⟩
             rw [H4.out] at he
             subst he
             obtain ⟨Y8, rfl⟩ : ∃ W, W = w8 := ⟨_, rfl⟩
             have HB8 := Lib.hid (HB6.out.trans (hb8.mono HB6.out.size))
             clear hb8))
        go_ret
        exact ⟨rfl, HB8.out.alloc HB8.out.size _⟩
      · have hrn := HBAD.out.resolve_left h4
        have hd4 : ((checkQ true ⟨p.enums, p.nodes ++ [n0]⟩).1 == 4) = false := beq_eq_false_iff_ne.2 h4
        have hdn : ((checkQ true ⟨p.enums, p.nodes ++ [n0]⟩).1 != 0) = true := bne_iff_ne.2 hrn.2
        have hdr : (rightL true ⟨p.enums, p.nodes ++ [n0]⟩ != 0) = true := bne_iff_ne.2 hrn.1
        clear h4 hrn
        go_wp2_with (first
          | (at_builtin; refine list_ownG (R := NodeAt w) (B := V2.heap.size) (xs := p.nodes) (ys := [n0]) rfl _ _ rfl Tryz.underlying23 node_info rfl (by decide) (by decide) node_len node_one rfl rfl HON1.out (made1 BS1.out HNA0.out rfl) hl5 hB1 ?_
             intro v3 w3 ho3 hg3 hb3
             obtain ⟨Y5, rfl⟩ : ∃ W, W = w3 := ⟨_, rfl⟩
             obtain ⟨A6, m6, c6, rfl, hm6⟩ := ho3.shape
             clear hm6
             have BQ5 := Lib.hid (HON1.out.box hg3 BQ1.out pn_ne)
             have HOE5 := Lib.hid (HOE1.out.other HON1.out hg3 en_ne)
             have HO5 := Lib.hid ho3
             obtain ⟨s0, s1⟩ := row2 BQ5.out
             have fq := row_frozen BQ5.out 1
             have BQs := Lib.hid (show (Y5.setCell ⟨Qb, 1, none⟩ (.slice A6 m6 c6)).heap[Qb]? = some (.cells #[.slice EA em ec, .slice A6 m6 c6] 25 (0, 0)) by have := heap_setCell_same Y5 Qb 1 _ _ (.slice A6 m6 c6) BQ5.out; simpa using this)
             have HBs := Lib.hid (((HCP.out.below.trans (HZ1.out.mono HCP.out.below.size)).trans (hb3.mono HZb.1)).setCell (p := ⟨Qb, 1, none⟩) (show w.heap.size ≤ Qb by omega) (.slice A6 m6 c6))
             have HPs := Lib.hid (show ProgAt (Y5.setCell ⟨Qb, 1, none⟩ (.slice A6 m6 c6)) [.slice EA em ec, .slice A6 m6 c6] ⟨p.enums, p.nodes ++ [n0]⟩ from ⟨_, _, rfl, SliceAt.mono (HOE5.out.setBox (j := 1) BQ5.out pe_ne (.slice A6 m6 c6)).at_ (Below.refl _ _) (fun _ _ h => h.under HBs.out), SliceAt.mono (HO5.out.setBox (j := 1) BQ5.out pn_ne (.slice A6 m6 c6)).at_ (Below.refl _ _) (fun _ _ h => h.under HBs.out)⟩)
             obtain ⟨s0', s1'⟩ := row2 BQs.out
             have HFEW := Lib.hid (show ∀ x ∈ (⟨p.enums, p.nodes ++ [n0]⟩ : QProg).nodes, (nodeX x).length ≤ 1048576 from (fun x hx => by
               rcases List.mem_append.1 hx with hx | hx
               · exact HQ.out x hx
               · rw [List.mem_singleton] at hx; subst hx; exact HQ.out x (List.mem_of_getElem? HN0.out)))
             have HCK6 := Lib.hid (check_any true HPs.out HFEW.out)
             have HRR6 := Lib.hid (rRight_any true HPs.out HFEW.out)
             have HB6 := Lib.hid (HBs.out)
             have BQ6 := Lib.hid (BQs.out)
             clear ho3 hg3 hb3)
          | (go_at_call 10
             (with_reducible refine (HCK6.out _ (Below.refl _ _)).mono ?_)
             rintro e w8 ⟨he, hb8⟩
             subst he
             obtain ⟨Y8, rfl⟩ : ∃ W, W = w8 := ⟨_, rfl⟩
             have HB8 := Lib.hid (HB6.out.trans (hb8.mono HB6.out.size))
             have H68 := Lib.hid hb8
             obtain ⟨_, _⟩ := row2 (alloc_below (o := .cells #[.int .i64 (checkQ true ⟨p.enums, p.nodes ++ [n0]⟩).1, .int .i64 (checkQ true ⟨p.enums, p.nodes ++ [n0]⟩).2.1, .int .i64 (checkQ true ⟨p.enums, p.nodes ++ [n0]⟩).2.2] 29) (box_next hb8 BQ6.out))
             clear hb8)
          | (go_at_call 20
             (with_reducible refine (HRR6.out _ (H68.out.alloc H68.out.size _)).mono ?_)
             rintro e w9 ⟨rfl, hb9⟩
             obtain ⟨Y9, rfl⟩ : ∃ W, W = w9 := ⟨_, rfl⟩
             have HB9 := Lib.hid ((HB8.out.alloc HB8.out.size (.cells #[.int .i64 (checkQ true ⟨p.enums, p.nodes ++ [n0]⟩).1, .int .i64 (checkQ true ⟨p.enums, p.nodes ++ [n0]⟩).2.1, .int .i64 (checkQ true ⟨p.enums, p.nodes ++ [n0]⟩).2.2] 29)).trans (hb9.mono (by have := HB8.out.size; simp; omega)))
             obtain ⟨_, _, _⟩ := row3 (box_next hb9 (heap_alloc_new Y8 (.cells #[.int .i64 (checkQ true ⟨p.enums, p.nodes ++ [n0]⟩).1, .int .i64 (checkQ true ⟨p.enums, p.nodes ++ [n0]⟩).2.1, .int .i64 (checkQ true ⟨p.enums, p.nodes ++ [n0]⟩).2.2] 29)))
             clear hb9))
        go_ret
        exact ⟨rfl, HB9.out⟩
  · skip
    go_simp
    refine hK.out _ _ ?_ (fun hHeld => ?_)
    · (try dsimp only); go_keep
    clear hK K
    try simp only [Act.put, List.setIfInBounds_toArray, List.set_cons_zero, List.set_cons_succ]
    have BQ1 := Lib.hid (show (V2.alloc (.cells #[.slice none 0 0, .slice none 0 0] 25)).drew.heap[V2.heap.size]? = some (.cells #[.slice none 0 0, .slice none 0 0] 25 (0, 0)) from heap_alloc_new V2 (.cells #[.slice none 0 0, .slice none 0 0] 25))
    have G0 := Lib.hid ((Below.refl V2.heap.size V2).alloc (Nat.le_refl _) (.cells #[.slice none 0 0, .slice none 0 0] 25)).drew
    generalize (V2.alloc (.cells #[.slice none 0 0, .slice none 0 0] 25)).drew = Y0 at *
    obtain ⟨p0, p1⟩ := row2 (box_next G0.out BP2.out)
    refine only_at 2 (by kernel_rfl) rfl (fun K hK => ?_)
    (refine step_ownG (R := EnumAt w) (B := V2.heap.size) (xs := []) (ys := p.enums) rfl _ _ rfl Tryz.underlying22 enum_info rfl (by decide) (by decide) enum_len enum_one rfl rfl (OwnG.nil _) (HE2.out.mono G0.out (fun _ _ h => h)) hle0 G0.out.size ?_
     intro v1 w1 ho1 hg1 hb1
     obtain ⟨Y1, rfl⟩ : ∃ W, W = w1 := ⟨_, rfl⟩
     obtain ⟨EA, em, ec, rfl, hm5⟩ := ho1.shape
     clear hm5
     have HOE := Lib.hid (show OwnG (EnumAt w) V2.heap.size 46 2 Y1 (.slice EA em ec) p.enums from ho1)
     have G1 := Lib.hid (G0.out.trans hb1)
     have GG1 := Lib.hid (below_grown (show Y0.grownBy Y1 none from hg1))
     obtain ⟨p0, p1⟩ := row2 (box_next G1.out BP2.out)
     clear ho1 hg1 hb1)
    refine hK.out _ _ ?_ (fun hHeld => ?_)
    · (try dsimp only); go_keep
    clear hK K
    try simp only [Act.put, List.setIfInBounds_toArray, List.set_cons_zero, List.set_cons_succ]
    have BQ2 := Lib.hid (box_next GG1.out BQ1.out)
    refine only_at 5 (by kernel_rfl) rfl (fun K hK => ?_)
    (refine step_ownG (R := NodeAt w) (B := V2.heap.size) (xs := []) (ys := p.nodes) rfl _ _ rfl Tryz.underlying23 node_info rfl (by decide) (by decide) node_len node_one rfl rfl (OwnG.nil _) (HN2.out.mono G1.out (fun _ _ h => h)) hln0 G1.out.size ?_
     intro v1 w1 ho1 hg1 hb1
     obtain ⟨Y3, rfl⟩ : ∃ W, W = w1 := ⟨_, rfl⟩
     obtain ⟨NA, nm, nc, rfl, hm5⟩ := ho1.shape
     clear hm5
     have HON := Lib.hid (show OwnG (NodeAt w) V2.heap.size 41 5 Y3 (.slice NA nm nc) p.nodes from ho1)
     have GG2 := Lib.hid (below_grown (show Y1.grownBy Y3 none from hg1))
     have G2 := Lib.hid (G1.out.trans hb1)
     have HOE2 := Lib.hid (HOE.out.under (GG2.out))
     obtain ⟨p0, p1⟩ := row2 (box_next G2.out BP2.out)
     clear ho1 hg1 hb1)
    refine hK.out _ _ ?_ (fun hHeld => ?_)
    · (try dsimp only); go_keep
    clear hK K
    try simp only [Act.put, List.setIfInBounds_toArray, List.set_cons_zero, List.set_cons_succ]
    refine take_at 6 (v := ?_) rfl (by kernel_rfl) (by kernel_rfl) (by kernel_rfl) (fun _ _ _ h => h) (by rfl) ?_ (by assumption) ?_
    rotate_left
    · intro w hSw; (try dsimp only at hSw); go_simp; (try rw [if_neg (by assumption)]); (try rw [if_pos (by omega)]); (try simp only [hSw]); (try with_reducible rfl)
    try simp only [Act.put, List.setIfInBounds_toArray, List.set_cons_zero, List.set_cons_succ]
    have BQ0 := Lib.hid (box_next GG2.out BQ2.out)
    have G3 := Lib.hid G2.out
    have HOE3 := Lib.hid HOE2.out
    have HON3 := Lib.hid HON.out
    obtain ⟨s0, s1⟩ := row2 BQ0.out
    have fq0 := row_frozen BQ0.out 0
    have fq1 := row_frozen BQ0.out 1
    have B5 := Lib.hid (show ((Y3.setCell ⟨V2.heap.size, 0, none⟩ (.slice EA em ec)).setCell ⟨V2.heap.size, 1, none⟩ (.slice NA nm nc)).heap[V2.heap.size]? = some (.cells #[.slice EA em ec, .slice NA nm nc] 25 (0, 0)) by
      have h1 := heap_setCell_same Y3 V2.heap.size 0 _ _ (.slice EA em ec) BQ0.out
      have h2 := heap_setCell_same _ V2.heap.size 1 _ _ (.slice NA nm nc) h1
      simpa using h2)
    have HCP := Lib.hid (show Copied w ((Y3.setCell ⟨V2.heap.size, 0, none⟩ (.slice EA em ec)).setCell ⟨V2.heap.size, 1, none⟩ (.slice NA nm nc)) p V2.heap.size V2.heap.size (.slice EA em ec) (.slice NA nm nc) from by
      have h1 := heap_setCell_same Y3 V2.heap.size 0 _ _ (.slice EA em ec) BQ0.out
      refine ⟨(((HB2.out.trans (G3.out.mono hVw)).setCell (p := ⟨V2.heap.size, 0, none⟩) (show w.heap.size ≤ V2.heap.size by omega) _).setCell (p := ⟨V2.heap.size, 1, none⟩) (show w.heap.size ≤ V2.heap.size by omega) _), B5.out, ?_, ?_, by omega, by omega⟩
      · exact (HOE3.out.setBox BQ0.out pe_ne _).setBox h1 pe_ne _
      · exact (HON3.out.setBox BQ0.out pn_ne _).setBox h1 pn_ne _)
    obtain ⟨p0, p1⟩ := row2 ((Below.heap_setCell (Y3.setCell ⟨V2.heap.size, 0, none⟩ (.slice EA em ec)) ⟨V2.heap.size, 1, none⟩ (.slice NA nm nc) w.heap.size (show w.heap.size ≠ V2.heap.size by omega)).trans ((Below.heap_setCell Y3 ⟨V2.heap.size, 0, none⟩ (.slice EA em ec) w.heap.size (show w.heap.size ≠ V2.heap.size by omega)).trans (box_next G3.out BP2.out)))
    refine only_at 8 (by kernel_rfl) rfl (fun K hK => ?_)
    go_simp
    refine hK.out _ _ ?_ (fun hHeld => ?_)
    · (try dsimp only); go_keep
    clear hK K
    refine wpAnyH_done (by kernel_rfl) ?_ _
    generalize (Y3.setCell ⟨V2.heap.size, 0, none⟩ (.slice EA em ec)).setCell ⟨V2.heap.size, 1, none⟩ (.slice NA nm nc) = Z at *
    have HZl := lt_of_heap HCP.out.box
    have HZb := HCP.out.big
    obtain ⟨s0, s1⟩ := row2 HCP.out.box
    have HNZ := HCP.out.nodes.at_
    obtain ⟨A5, c5, e5, hc5, hm5, he5⟩ := HNZ
    injection e5 with e51 e52 e53
    subst e51 e52 e53
    obtain ⟨L0, hE0, hN0⟩ := he5 0 n0 HN0.out
    have HNA0 := Lib.hid hN0
    obtain ⟨z0, zA1, zm1, zk1, zA2, zm2, zk2, zA3, zm3, zk3, zA4, zm4, zk4, rfl⟩ := hN0.shape
    obtain ⟨zb, ezb, _, _, d0, d1, d2, d3, d4⟩ := elem5 hE0
    subst ezb
    simp only [Nat.zero_mul, add_zero] at d0 d1 d2 d3 d4
    have hpos : 0 < p.nodes.length := by omega
    clear hE0 hN0 he5 hc5 hm5
    have HZ1 := Lib.hid (((Below.refl Z.heap.size Z).alloc (Nat.le_refl _) (.cells #[.string z0, .slice zA1 zm1 zk1, .slice zA2 zm2 zk2, .slice zA3 zm3 zk3, .slice zA4 zm4 zk4] 41)).alloc (by simp) (.cells #[.string z0, .slice zA1 zm1 zk1, .slice zA2 zm2 zk2, .slice zA3 zm3 zk3, .slice zA4 zm4 zk4] 41))
    have HON1 := Lib.hid (HCP.out.nodes.under HZ1.out)
    have HOE1 := Lib.hid (HCP.out.enums.under HZ1.out)
    have BQ1 := Lib.hid (box_next HZ1.out HCP.out.box)
    have BS1 := Lib.hid (show ((Z.alloc (.cells #[.string z0, .slice zA1 zm1 zk1, .slice zA2 zm2 zk2, .slice zA3 zm3 zk3, .slice zA4 zm4 zk4] 41)).alloc (.cells #[.string z0, .slice zA1 zm1 zk1, .slice zA2 zm2 zk2, .slice zA3 zm3 zk3, .slice zA4 zm4 zk4] 41)).heap[Z.heap.size + 1]? = some (.cells #[.string z0, .slice zA1 zm1 zk1, .slice zA2 zm2 zk2, .slice zA3 zm3 zk3, .slice zA4 zm4 zk4] 41 (0, 0)) from alloc_at (by simp))
    have hB1 : V2.heap.size ≤ ((Z.alloc (.cells #[.string z0, .slice zA1 zm1 zk1, .slice zA2 zm2 zk2, .slice zA3 zm3 zk3, .slice zA4 zm4 zk4] 41)).alloc (.cells #[.string z0, .slice zA1 zm1 zk1, .slice zA2 zm2 zk2, .slice zA3 zm3 zk3, .slice zA4 zm4 zk4] 41)).heap.size := by have := HZ1.out.size; omega
    have hl5 : p.nodes.length + [n0].length ≤ 4194304 := by simp; omega
    by_cases h4 : (checkQ true ⟨p.enums, p.nodes ++ [n0]⟩).1 = 4
    · have H4 := Lib.hid h4
      clear h4
      go_wp2_with (first
        | (at_builtin; refine list_ownG (R := NodeAt w) (B := V2.heap.size) (xs := p.nodes) (ys := [n0]) rfl _ _ rfl Tryz.underlying23 node_info rfl (by decide) (by decide) node_len node_one rfl rfl HON1.out (made1 BS1.out HNA0.out rfl) hl5 hB1 ?_
           intro v3 w3 ho3 hg3 hb3
           obtain ⟨Y5, rfl⟩ : ∃ W, W = w3 := ⟨_, rfl⟩
           obtain ⟨A6, m6, c6, rfl, hm6⟩ := ho3.shape
           clear hm6
           have BQ5 := Lib.hid (HON1.out.box hg3 BQ1.out pn_ne)
           have HOE5 := Lib.hid (HOE1.out.other HON1.out hg3 en_ne)
           have HO5 := Lib.hid ho3
           obtain ⟨s0, s1⟩ := row2 BQ5.out
           have fq := row_frozen BQ5.out 1
           have BQs := Lib.hid (show (Y5.setCell ⟨V2.heap.size, 1, none⟩ (.slice A6 m6 c6)).heap[V2.heap.size]? = some (.cells #[.slice EA em ec, .slice A6 m6 c6] 25 (0, 0)) by have := heap_setCell_same Y5 V2.heap.size 1 _ _ (.slice A6 m6 c6) BQ5.out; simpa using this)
           have HBs := Lib.hid (((HCP.out.below.trans (HZ1.out.mono HCP.out.below.size)).trans (hb3.mono HZb.1)).setCell (p := ⟨V2.heap.size, 1, none⟩) (show w.heap.size ≤ V2.heap.size by omega) (.slice A6 m6 c6))
           have HPs := Lib.hid (show ProgAt (Y5.setCell ⟨V2.heap.size, 1, none⟩ (.slice A6 m6 c6)) [.slice EA em ec, .slice A6 m6 c6] ⟨p.enums, p.nodes ++ [n0]⟩ from ⟨_, _, rfl, SliceAt.mono (HOE5.out.setBox (j := 1) BQ5.out pe_ne (.slice A6 m6 c6)).at_ (Below.refl _ _) (fun _ _ h => h.under HBs.out), SliceAt.mono (HO5.out.setBox (j := 1) BQ5.out pn_ne (.slice A6 m6 c6)).at_ (Below.refl _ _) (fun _ _ h => h.under HBs.out)⟩)
           obtain ⟨s0', s1'⟩ := row2 BQs.out
           have HFEW := Lib.hid (show ∀ x ∈ (⟨p.enums, p.nodes ++ [n0]⟩ : QProg).nodes, (nodeX x).length ≤ 1048576 from (fun x hx => by
             rcases List.mem_append.1 hx with hx | hx
             · exact HQ.out x hx
             · rw [List.mem_singleton] at hx; subst hx; exact HQ.out x (List.mem_of_getElem? HN0.out)))
           have HCK6 := Lib.hid (check_any true HPs.out HFEW.out)
           have HRR6 := Lib.hid (rRight_any true HPs.out HFEW.out)
           have HB6 := Lib.hid (HBs.out)
           have BQ6 := Lib.hid (BQs.out)
           clear ho3 hg3 hb3)
        | (go_at_call 10
           (with_reducible refine (HCK6.out _ (Below.refl _ _)).mono ?_)
           rintro e w8 ⟨he, hb8⟩
           rw [H4.out] at he
           subst he
           obtain ⟨Y8, rfl⟩ : ∃ W, W = w8 := ⟨_, rfl⟩
           have HB8 := Lib.hid (HB6.out.trans (hb8.mono HB6.out.size))
           clear hb8))
      go_ret
      exact ⟨rfl, HB8.out.alloc HB8.out.size _⟩
    · have hrn := HBAD.out.resolve_left h4
      have hd4 : ((checkQ true ⟨p.enums, p.nodes ++ [n0]⟩).1 == 4) = false := beq_eq_false_iff_ne.2 h4
      have hdn : ((checkQ true ⟨p.enums, p.nodes ++ [n0]⟩).1 != 0) = true := bne_iff_ne.2 hrn.2
      have hdr : (rightL true ⟨p.enums, p.nodes ++ [n0]⟩ != 0) = true := bne_iff_ne.2 hrn.1
      clear h4 hrn
      go_wp2_with (first
        | (at_builtin; refine list_ownG (R := NodeAt w) (B := V2.heap.size) (xs := p.nodes) (ys := [n0]) rfl _ _ rfl Tryz.underlying23 node_info rfl (by decide) (by decide) node_len node_one rfl rfl HON1.out (made1 BS1.out HNA0.out rfl) hl5 hB1 ?_
           intro v3 w3 ho3 hg3 hb3
           obtain ⟨Y5, rfl⟩ : ∃ W, W = w3 := ⟨_, rfl⟩
           obtain ⟨A6, m6, c6, rfl, hm6⟩ := ho3.shape
           clear hm6
           have BQ5 := Lib.hid (HON1.out.box hg3 BQ1.out pn_ne)
           have HOE5 := Lib.hid (HOE1.out.other HON1.out hg3 en_ne)
           have HO5 := Lib.hid ho3
           obtain ⟨s0, s1⟩ := row2 BQ5.out
           have fq := row_frozen BQ5.out 1
           have BQs := Lib.hid (show (Y5.setCell ⟨V2.heap.size, 1, none⟩ (.slice A6 m6 c6)).heap[V2.heap.size]? = some (.cells #[.slice EA em ec, .slice A6 m6 c6] 25 (0, 0)) by have := heap_setCell_same Y5 V2.heap.size 1 _ _ (.slice A6 m6 c6) BQ5.out; simpa using this)
           have HBs := Lib.hid (((HCP.out.below.trans (HZ1.out.mono HCP.out.below.size)).trans (hb3.mono HZb.1)).setCell (p := ⟨V2.heap.size, 1, none⟩) (show w.heap.size ≤ V2.heap.size by omega) (.slice A6 m6 c6))
           have HPs := Lib.hid (show ProgAt (Y5.setCell ⟨V2.heap.size, 1, none⟩ (.slice A6 m6 c6)) [.slice EA em ec, .slice A6 m6 c6] ⟨p.enums, p.nodes ++ [n0]⟩ from ⟨_, _, rfl, SliceAt.mono (HOE5.out.setBox (j := 1) BQ5.out pe_ne (.slice A6 m6 c6)).at_ (Below.refl _ _) (fun _ _ h => h.under HBs.out), SliceAt.mono (HO5.out.setBox (j := 1) BQ5.out pn_ne (.slice A6 m6 c6)).at_ (Below.refl _ _) (fun _ _ h => h.under HBs.out)⟩)
           obtain ⟨s0', s1'⟩ := row2 BQs.out
           have HFEW := Lib.hid (show ∀ x ∈ (⟨p.enums, p.nodes ++ [n0]⟩ : QProg).nodes, (nodeX x).length ≤ 1048576 from (fun x hx => by
             rcases List.mem_append.1 hx with hx | hx
             · exact HQ.out x hx
             · rw [List.mem_singleton] at hx; subst hx; exact HQ.out x (List.mem_of_getElem? HN0.out)))
           have HCK6 := Lib.hid (check_any true HPs.out HFEW.out)
           have HRR6 := Lib.hid (rRight_any true HPs.out HFEW.out)
           have HB6 := Lib.hid (HBs.out)
           have BQ6 := Lib.hid (BQs.out)
           clear ho3 hg3 hb3)
        | (go_at_call 10
           (with_reducible refine (HCK6.out _ (Below.refl _ _)).mono ?_)
           rintro e w8 ⟨he, hb8⟩
           subst he
           obtain ⟨Y8, rfl⟩ : ∃ W, W = w8 := ⟨_, rfl⟩
           have HB8 := Lib.hid (HB6.out.trans (hb8.mono HB6.out.size))
           have H68 := Lib.hid hb8
           obtain ⟨_, _⟩ := row2 (alloc_below (o := .cells #[.int .i64 (checkQ true ⟨p.enums, p.nodes ++ [n0]⟩).1, .int .i64 (checkQ true ⟨p.enums, p.nodes ++ [n0]⟩).2.1, .int .i64 (checkQ true ⟨p.enums, p.nodes ++ [n0]⟩).2.2] 29) (box_next hb8 BQ6.out))
           clear hb8)
        | (go_at_call 20
           (with_reducible refine (HRR6.out _ (H68.out.alloc H68.out.size _)).mono ?_)
           rintro e w9 ⟨rfl, hb9⟩
           obtain ⟨Y9, rfl⟩ : ∃ W, W = w9 := ⟨_, rfl⟩
           have HB9 := Lib.hid ((HB8.out.alloc HB8.out.size (.cells #[.int .i64 (checkQ true ⟨p.enums, p.nodes ++ [n0]⟩).1, .int .i64 (checkQ true ⟨p.enums, p.nodes ++ [n0]⟩).2.1, .int .i64 (checkQ true ⟨p.enums, p.nodes ++ [n0]⟩).2.2] 29)).trans (hb9.mono (by have := HB8.out.size; simp; omega)))
           obtain ⟨_, _, _⟩ := row3 (box_next hb9 (heap_alloc_new Y8 (.cells #[.int .i64 (checkQ true ⟨p.enums, p.nodes ++ [n0]⟩).1, .int .i64 (checkQ true ⟨p.enums, p.nodes ++ [n0]⟩).2.1, .int .i64 (checkQ true ⟨p.enums, p.nodes ++ [n0]⟩).2.2] 29)))
           clear hb9))
      go_ret
      exact ⟨rfl, HB9.out⟩
end Go.Proofs.YtbpbnebcbjacdaaGreat
namespace Go.Proofs.YtbpbnebcbjacdaaGreat
open Go.RowKit

set_option maxHeartbeats 16000000 in
set_option maxRecDepth 100000 in
theorem twice_one {w : World} {p : QProg} {A1 A2 : Option Addr} {n1 k1 n2 k2 : Nat} (hL : ProgAt w [.slice A1 n1 k1, .slice A2 n2 k2] p) (hq : ∀ x ∈ p.nodes, (nodeX x).length ≤ 1048576) (n : Int) (hc : (checkQ true p).1 = 0) (hle : p.enums.length ≤ 2097152) (hsw : wrap64 ((IntKind.u64.wrap n).tmod 3) = 1) :
    Calls Tryz.prog 6 #[.agg #[.slice A1 n1 k1, .slice A2 n2 k2], .int .i64 n] w (Lived w) := by
  have HQ := Lib.hid hq
  have HCK := Lib.hid (check_any true hL hq)
  have hff := field_fault
  obtain ⟨ev, nv, e0, he, hnn⟩ := hL
  injection e0 with ea e0
  injection e0 with eb _
  subst ea eb
  obtain ⟨A9, c9, eq1, hec, hem, hee⟩ := he
  injection eq1 with e1 e2 e3
  subst e1 e2 e3
  obtain ⟨A', c', eq2, hcc, hmc, hne⟩ := hnn
  injection eq2 with e1 e2 e3
  subst e1 e2 e3
  have hal := Lib.hid ((Below.refl w.heap.size w).alloc (Nat.le_refl _) (.cells #[.slice A1 p.enums.length k1, .slice A2 p.nodes.length k2] 25))
  have BP := Lib.hid (heap_alloc_new w (.cells #[.slice A1 p.enums.length k1, .slice A2 p.nodes.length k2] 25))
  have hcap : p.nodes.length ≤ k2 := hcc
  have hnl : p.nodes.length ≤ 9223372036854775807 := by unfold maxLen at hmc; omega
  have hcap1 : p.enums.length ≤ k1 := hec
  have hel : p.enums.length ≤ 9223372036854775807 := by unfold maxLen at hem; omega
  have HN := Lib.hid (show SliceAt w (NodeAt w) (.slice A2 p.nodes.length k2) p.nodes from ⟨A2, k2, rfl, hcc, hmc, hne⟩)
  have HE := Lib.hid (show SliceAt w (EnumAt w) (.slice A1 p.enums.length k1) p.enums from ⟨A1, k1, rfl, hec, hem, hee⟩)
  clear hq hcc hmc hne hec hem hee
  have hp1 := right_pos (check_zero hc).2.1
  have hd : ((p.nodes.length : Int) == 0) = false := beq_eq_false_iff_ne.2 (by omega)
  obtain ⟨n0, hn0⟩ : ∃ n, p.nodes[0]? = some n := ⟨_, List.getElem?_eq_getElem (by omega)⟩
  have HN0 := Lib.hid hn0
  have HZ := Lib.hid (check_zero hc).1
  have HTW := Lib.hid (fun e he => twice_enum hc (e := e) he)
  clear hc hn0
  go_enter Tryz.func6, Tryz.ntmps6
  go_wp2_with (first
                | (go_at_call 9
                   (with_reducible refine (lives_any _).mono ?_)
                   rintro e w7 ⟨rfl, hb7⟩
                   obtain ⟨V1, rfl⟩ : ∃ W, W = w7 := ⟨_, rfl⟩
                   have HB1 := Lib.hid (hal.out.trans (hb7.mono hal.out.size))
                   have BP1 := Lib.hid (box_next hb7 BP.out)
                   obtain ⟨_, _⟩ := row2 BP1.out
                   clear hb7)
                | (go_at_call 10
                   (with_reducible refine (HCK.out _ HB1.out).mono ?_)
                   rintro e w8 ⟨he, hb8⟩
                   rw [HZ.out] at he
                   subst he
                   obtain ⟨V2, rfl⟩ : ∃ W, W = w8 := ⟨_, rfl⟩
                   have HB2 := Lib.hid (HB1.out.trans (hb8.mono HB1.out.size))
                   have BP2 := Lib.hid (box_next hb8 BP1.out)
                   obtain ⟨_, _⟩ := row2 BP2.out
                   clear hb8))
  have hle0 : ([] : List QEnum).length + p.enums.length ≤ 4194304 := by simp; omega
  have hln0 : ([] : List QNode).length + p.nodes.length ≤ 4194304 := by simp; omega
  have hVw := HB2.out.size
  have HE2 := Lib.hid (show SliceAt V2 (EnumAt w) (.slice A1 p.enums.length k1) p.enums from HE.out.mono HB2.out (fun _ _ h => h))
  have HN2 := Lib.hid (show SliceAt V2 (NodeAt w) (.slice A2 p.nodes.length k2) p.nodes from HN.out.mono HB2.out (fun _ _ h => h))
  obtain ⟨p0, p1⟩ := row2 BP2.out
  have hPl := lt_of_heap BP2.out
  refine wp_region_held_drew (S := (fun W => W.cell? ⟨w.heap.size, 0, none⟩ = some (.slice A1 p.enums.length k1) ∧ W.cell? ⟨w.heap.size, 1, none⟩ = some (.slice A2 p.nodes.length k2))) (by kernel_rfl) ?_ (fun hHeld => ?_)
  · (try dsimp only); go_keep
  refine take_at 0 (v := ?_) rfl (by kernel_rfl) (by kernel_rfl) (by kernel_rfl) (fun _ _ _ h => h) (by rfl) ?_ (by assumption) ?_
  rotate_left
  · intro w hSw; (try dsimp only at hSw); go_simp; (try rw [if_neg (by assumption)]); (try rw [if_pos (by omega)]); (try simp only [hSw]); (try with_reducible rfl)
  try simp only [Act.put, List.setIfInBounds_toArray, List.set_cons_zero, List.set_cons_succ]
  refine take_at 1 (v := ?_) rfl (by kernel_rfl) (by kernel_rfl) (by kernel_rfl) (fun _ _ _ h => h) (by rfl) ?_ (by assumption) ?_
  rotate_left
  · intro w hSw; (try dsimp only at hSw); go_simp; (try rw [if_neg (by assumption)]); (try rw [if_pos (by omega)]); (try simp only [hSw]); (try with_reducible rfl)
  try simp only [Act.put, List.setIfInBounds_toArray, List.set_cons_zero, List.set_cons_succ]
  refine take_at 3 (v := ?_) rfl (by kernel_rfl) (by kernel_rfl) (by kernel_rfl) (fun _ _ _ h => h) (by rfl) ?_ (by assumption) ?_
  rotate_left
  · intro w hSw; (try dsimp only at hSw); go_simp; (try rw [if_neg (by assumption)]); (try rw [if_pos (by omega)]); (try simp only [hSw]); (try with_reducible rfl)
  try simp only [Act.put, List.setIfInBounds_toArray, List.set_cons_zero, List.set_cons_succ]
  refine take_at 4 (v := ?_) rfl (by kernel_rfl) (by kernel_rfl) (by kernel_rfl) (fun _ _ _ h => h) (by rfl) ?_ (by assumption) ?_
  rotate_left
  · intro w hSw; (try dsimp only at hSw); go_simp; (try rw [if_neg (by assumption)]); (try rw [if_pos (by omega)]); (try simp only [hSw]); (try with_reducible rfl)
  try simp only [Act.put, List.setIfInBounds_toArray, List.set_cons_zero, List.set_cons_succ]
  refine wpAnyH_ready (rs := [2, 7]) (by kernel_rfl) (by simp) (cons_at 2 rfl (fun K hK => ?_) (cons_at 7 rfl (fun K hK => ?_) AllReadyH.nil))
  · skip
    (refine step_ownG (R := EnumAt w) (B := V2.heap.size) (xs := []) (ys := p.enums) rfl _ _ rfl Tryz.underlying22 enum_info rfl (by decide) (by decide) enum_len enum_one rfl rfl (OwnG.nil _) (HE2.out.mono (Below.refl V2.heap.size V2).drew (fun _ _ h => h)) hle0 (Nat.le_refl _) ?_
     intro v1 w1 ho1 hg1 hb1
     obtain ⟨Y1, rfl⟩ : ∃ W, W = w1 := ⟨_, rfl⟩
     obtain ⟨EA, em, ec, rfl, hm5⟩ := ho1.shape
     clear hm5
     have HOE := Lib.hid (show OwnG (EnumAt w) V2.heap.size 46 2 Y1 (.slice EA em ec) p.enums from ho1)
     have G1 := Lib.hid ((Below.refl V2.heap.size V2).drew.trans hb1)
     have GG1 := Lib.hid (below_grown (show V2.drew.grownBy Y1 none from hg1))
     obtain ⟨p0, p1⟩ := row2 (box_next G1.out BP2.out)
     clear ho1 hg1 hb1)
    refine hK.out _ _ ?_ (fun hHeld => ?_)
    · (try dsimp only); go_keep
    clear hK K
    try simp only [Act.put, List.setIfInBounds_toArray, List.set_cons_zero, List.set_cons_succ]
    refine wpAnyH_ready (rs := [5, 7]) (by kernel_rfl) (by simp) (cons_at 5 rfl (fun K hK => ?_) (cons_at 7 rfl (fun K hK => ?_) AllReadyH.nil))
    · skip
      (refine step_ownG (R := NodeAt w) (B := V2.heap.size) (xs := []) (ys := p.nodes) rfl _ _ rfl Tryz.underlying23 node_info rfl (by decide) (by decide) node_len node_one rfl rfl (OwnG.nil _) (HN2.out.mono G1.out (fun _ _ h => h)) hln0 G1.out.size ?_
       intro v1 w1 ho1 hg1 hb1
       obtain ⟨Y2, rfl⟩ : ∃ W, W = w1 := ⟨_, rfl⟩
       obtain ⟨NA, nm, nc, rfl, hm5⟩ := ho1.shape
       clear hm5
       have HON := Lib.hid (show OwnG (NodeAt w) V2.heap.size 41 5 Y2 (.slice NA nm nc) p.nodes from ho1)
       have GG2 := Lib.hid (below_grown (show Y1.grownBy Y2 none from hg1))
       have G2 := Lib.hid (G1.out.trans hb1)
       have HOE2 := Lib.hid (HOE.out.under (GG2.out))
       obtain ⟨p0, p1⟩ := row2 (box_next G2.out BP2.out)
       clear ho1 hg1 hb1)
      refine hK.out _ _ ?_ (fun hHeld => ?_)
      · (try dsimp only); go_keep
      clear hK K
      try simp only [Act.put, List.setIfInBounds_toArray, List.set_cons_zero, List.set_cons_succ]
      refine take_at 6 (v := ?_) rfl (by kernel_rfl) (by kernel_rfl) (by kernel_rfl) (fun _ _ _ h => h) (by rfl) ?_ (by assumption) ?_
      rotate_left
      · intro w hSw; (try dsimp only at hSw); go_simp; (try rw [if_neg (by assumption)]); (try rw [if_pos (by omega)]); (try simp only [hSw]); (try with_reducible rfl)
      try simp only [Act.put, List.setIfInBounds_toArray, List.set_cons_zero, List.set_cons_succ]
      refine only_at 7 (by kernel_rfl) rfl (fun K hK => ?_)
      go_simp
      refine hK.out _ _ ?_ (fun hHeld => ?_)
      · (try dsimp only); go_keep
      clear hK K
      try simp only [Act.put, List.setIfInBounds_toArray, List.set_cons_zero, List.set_cons_succ]
      have BQ0 := Lib.hid (heap_alloc_new Y2 (.cells #[.slice none 0 0, .slice none 0 0] 25))
      have G3 := Lib.hid (G2.out.alloc G2.out.size (.cells #[.slice none 0 0, .slice none 0 0] 25))
      have a3 := Lib.hid ((Below.refl Y2.heap.size Y2).alloc (Nat.le_refl _) (.cells #[.slice none 0 0, .slice none 0 0] 25))
      have HOE3 := Lib.hid (HOE2.out.under a3.out)
      have HON3 := Lib.hid (HON.out.under a3.out)
      have hQb := G2.out.size
      generalize hqb : Y2.heap.size = Qb at *
      generalize Y2.alloc (.cells #[.slice none 0 0, .slice none 0 0] 25) = Y3 at *
      clear hqb a3
      obtain ⟨s0, s1⟩ := row2 BQ0.out
      have fq0 := row_frozen BQ0.out 0
      have fq1 := row_frozen BQ0.out 1
      have B5 := Lib.hid (show ((Y3.setCell ⟨Qb, 0, none⟩ (.slice EA em ec)).setCell ⟨Qb, 1, none⟩ (.slice NA nm nc)).heap[Qb]? = some (.cells #[.slice EA em ec, .slice NA nm nc] 25 (0, 0)) by
        have h1 := heap_setCell_same Y3 Qb 0 _ _ (.slice EA em ec) BQ0.out
        have h2 := heap_setCell_same _ Qb 1 _ _ (.slice NA nm nc) h1
        simpa using h2)
      have HCP := Lib.hid (show Copied w ((Y3.setCell ⟨Qb, 0, none⟩ (.slice EA em ec)).setCell ⟨Qb, 1, none⟩ (.slice NA nm nc)) p V2.heap.size Qb (.slice EA em ec) (.slice NA nm nc) from by
        have h1 := heap_setCell_same Y3 Qb 0 _ _ (.slice EA em ec) BQ0.out
        refine ⟨(((HB2.out.trans (G3.out.mono hVw)).setCell (p := ⟨Qb, 0, none⟩) (show w.heap.size ≤ Qb by omega) _).setCell (p := ⟨Qb, 1, none⟩) (show w.heap.size ≤ Qb by omega) _), B5.out, ?_, ?_, by omega, by omega⟩
        · exact (HOE3.out.setBox BQ0.out pe_ne _).setBox h1 pe_ne _
        · exact (HON3.out.setBox BQ0.out pn_ne _).setBox h1 pn_ne _)
      obtain ⟨p0, p1⟩ := row2 ((Below.heap_setCell (Y3.setCell ⟨Qb, 0, none⟩ (.slice EA em ec)) ⟨Qb, 1, none⟩ (.slice NA nm nc) w.heap.size (show w.heap.size ≠ Qb by omega)).trans ((Below.heap_setCell Y3 ⟨Qb, 0, none⟩ (.slice EA em ec) w.heap.size (show w.heap.size ≠ Qb by omega)).trans (box_next G3.out BP2.out)))
      refine only_at 8 (by kernel_rfl) rfl (fun K hK => ?_)
      go_simp
      refine hK.out _ _ ?_ (fun hHeld => ?_)
      · (try dsimp only); go_keep
      clear hK K
      refine wpAnyH_done (by kernel_rfl) ?_ _
      generalize (Y3.setCell ⟨Qb, 0, none⟩ (.slice EA em ec)).setCell ⟨Qb, 1, none⟩ (.slice NA nm nc) = Z at *
      have HZl := lt_of_heap HCP.out.box
      have HZb := HCP.out.big
      obtain ⟨s0, s1⟩ := row2 HCP.out.box
      have HNZ := HCP.out.nodes.at_
      obtain ⟨A5, c5, e5, hc5, hm5, he5⟩ := HNZ
      injection e5 with e51 e52 e53
      subst e51 e52 e53
      obtain ⟨L0, hE0, hN0⟩ := he5 0 n0 HN0.out
      have HNA0 := Lib.hid hN0
      obtain ⟨z0, zA1, zm1, zk1, zA2, zm2, zk2, zA3, zm3, zk3, zA4, zm4, zk4, rfl⟩ := hN0.shape
      obtain ⟨zb, ezb, _, _, d0, d1, d2, d3, d4⟩ := elem5 hE0
      subst ezb
      simp only [Nat.zero_mul, add_zero] at d0 d1 d2 d3 d4
      have hpos : 0 < p.nodes.length := by omega
      clear hE0 hN0 he5 hc5 hm5
      have HEZ := HCP.out.enums.at_
      obtain ⟨A7, c7, e7, hc7, hm7, he7⟩ := HEZ
      injection e7 with e71 e72 e73
      subst e71 e72 e73
      by_cases he0 : p.enums = []
      · have hdE : ((p.enums.length : Int) == 0) = true := by rw [he0]; rfl
        clear he0 he7 hc7 hm7
        go_wp2_with fail
        go_ret
        exact ⟨rfl, HCP.out.below.alloc HCP.out.below.size _⟩
      · have hposE : 0 < p.enums.length := List.length_pos_iff.2 he0
        have hdE : ((p.enums.length : Int) == 0) = false := beq_eq_false_iff_ne.2 (by omega)
        obtain ⟨e0, hee0⟩ : ∃ e, p.enums[0]? = some e := ⟨_, List.getElem?_eq_getElem hposE⟩
        have HE0 := Lib.hid hee0
        have HBAD := Lib.hid (HTW.out e0 (List.mem_of_getElem? hee0))
        obtain ⟨M0, hF0, hM0⟩ := he7 0 e0 hee0
        have HMA0 := Lib.hid hM0
        obtain ⟨y0, yA, ym, yk, rfl⟩ := hM0.shape
        obtain ⟨yb, eyb, _, _, f0, f1⟩ := elem2 hF0
        subst eyb
        simp only [Nat.zero_mul, add_zero] at f0 f1
        clear he0 hee0 hF0 hM0 he7 hc7 hm7
        go_wp2_with fail
        have HZf := Lib.hid ((Below.refl Z.heap.size Z).alloc (Nat.le_refl _) (.cells #[.string z0, .slice zA1 zm1 zk1, .slice zA2 zm2 zk2, .slice zA3 zm3 zk3, .slice zA4 zm4 zk4] 41))
        have HOE1 := Lib.hid (HCP.out.enums.under HZf.out)
        have HON1 := Lib.hid (HCP.out.nodes.under HZf.out)
        have BQ1 := Lib.hid (box_next HZf.out HCP.out.box)
        have hfs := HZf.out.size
        have fc0 := (HZf.out.cell (p := yb) (World.block_lt_of_cell? Z _ f0)).trans f0
        have fc1 := (HZf.out.cell (p := ⟨yb.block, yb.off + 1, none⟩) (World.block_lt_of_cell? Z _ f1)).trans f1
        generalize Z.alloc (.cells #[.string z0, .slice zA1 zm1 zk1, .slice zA2 zm2 zk2, .slice zA3 zm3 zk3, .slice zA4 zm4 zk4] 41) = Zf at *
        obtain ⟨s0, s1⟩ := row2 BQ1.out
        have fq := row_frozen BQ1.out 0
        have a4 := Lib.hid ((Below.refl Zf.heap.size Zf).alloc (Nat.le_refl _) (.cells #[.string y0, .slice yA ym yk] 46)).drew
        have BE4 := Lib.hid (show (Zf.alloc (.cells #[.string y0, .slice yA ym yk] 46)).drew.heap[Zf.heap.size]? = some (.cells #[.string y0, .slice yA ym yk] 46 (0, 0)) from heap_alloc_new Zf (.cells #[.string y0, .slice yA ym yk] 46))
        have HOE4 := Lib.hid (HOE1.out.under a4.out)
        have HON4 := Lib.hid (HON1.out.under a4.out)
        have BQ4 := Lib.hid (box_next a4.out BQ1.out)
        have hZZ := HZf.out.size
        have hB4 : V2.heap.size ≤ (Zf.alloc (.cells #[.string y0, .slice yA ym yk] 46)).drew.heap.size := Nat.le_trans (by omega) a4.out.size
        have hl5 : p.enums.length + [e0].length ≤ 4194304 := by simp; omega
        have hBZ4 := Lib.hid ((HCP.out.below.trans (HZf.out.mono HCP.out.below.size)).trans (a4.out.mono (Nat.le_trans HCP.out.below.size hZZ)))
        obtain ⟨s0b, s1b⟩ := row2 (alloc_below (o := (.cells #[.string y0, .slice yA ym yk] 46)) BQ1.out)
        obtain ⟨s0c, s1c⟩ := row2 BQ4.out
        go_region_law (refine step_ownG (R := EnumAt w) (B := V2.heap.size) (xs := p.enums) (ys := [e0]) rfl _ _ rfl Tryz.underlying22 enum_info rfl (by decide) (by decide) enum_len enum_one rfl rfl HOE4.out (made1 BE4.out HMA0.out rfl) hl5 hB4 ?_
                       intro v3 w3 ho3 hg3 hb3
                       obtain ⟨Y5, rfl⟩ : ∃ W, W = w3 := ⟨_, rfl⟩
                       obtain ⟨A6, m6, c6, rfl, hm6⟩ := ho3.shape
                       clear hm6
                       have BQ5 := Lib.hid (HOE4.out.box hg3 BQ4.out pe_ne)
                       have HON5 := Lib.hid (HON4.out.other HOE4.out hg3 ne_ne)
                       have HO5 := Lib.hid ho3
                       obtain ⟨s0, s1⟩ := row2 BQ5.out
                       have fq := row_frozen BQ5.out 0
                       have BQs := Lib.hid (show (Y5.setCell ⟨Qb, 0, none⟩ (.slice A6 m6 c6)).heap[Qb]? = some (.cells #[.slice A6 m6 c6, .slice (some zb) p.nodes.length nc] 25 (0, 0)) by have := heap_setCell_same Y5 Qb 0 _ _ (.slice A6 m6 c6) BQ5.out; simpa using this)
                       have HBs := Lib.hid ((hBZ4.out.trans (hb3.mono HZb.1)).setCell (p := ⟨Qb, 0, none⟩) (show w.heap.size ≤ Qb by omega) (.slice A6 m6 c6))
                       have HPs := Lib.hid (show ProgAt (Y5.setCell ⟨Qb, 0, none⟩ (.slice A6 m6 c6)) [.slice A6 m6 c6, .slice (some zb) p.nodes.length nc] ⟨p.enums ++ [e0], p.nodes⟩ from ⟨_, _, rfl, SliceAt.mono (HO5.out.setBox (j := 0) BQ5.out pe_ne (.slice A6 m6 c6)).at_ (Below.refl _ _) (fun _ _ h => h.under HBs.out), SliceAt.mono (HON5.out.setBox (j := 0) BQ5.out pn_ne (.slice A6 m6 c6)).at_ (Below.refl _ _) (fun _ _ h => h.under HBs.out)⟩)
                       obtain ⟨s0', s1'⟩ := row2 BQs.out
                       have HFEW := Lib.hid (show ∀ x ∈ (⟨p.enums ++ [e0], p.nodes⟩ : QProg).nodes, (nodeX x).length ≤ 1048576 from (fun x hx => HQ.out x hx))
                       have HCK6 := Lib.hid (check_any true HPs.out HFEW.out)
                       have HRR6 := Lib.hid (rRight_any true HPs.out HFEW.out)
                       have HB6 := Lib.hid (HBs.out)
                       have BQ6 := Lib.hid (BQs.out)
                       clear ho3 hg3 hb3)
        all_goals
          by_cases h4 : (checkQ true ⟨p.enums ++ [e0], p.nodes⟩).1 = 4
          · have H4 := Lib.hid h4
            clear h4
            go_wp2_with (first
              | (go_at_call 10
                 (with_reducible refine (HCK6.out _ (Below.refl _ _)).mono ?_)
                 rintro e w8 ⟨he, hb8⟩
                 rw [H4.out] at he
                 subst he
                 obtain ⟨Y8, rfl⟩ : ∃ W, W = w8 := ⟨_, rfl⟩
                 have HB8 := Lib.hid (HB6.out.trans (hb8.mono HB6.out.size))
                 clear hb8))
            go_ret
            exact ⟨rfl, HB8.out.alloc HB8.out.size _⟩
          · have hrn := HBAD.out.resolve_left h4
            have hd4 : ((checkQ true ⟨p.enums ++ [e0], p.nodes⟩).1 == 4) = false := beq_eq_false_iff_ne.2 h4
            have hdn : ((checkQ true ⟨p.enums ++ [e0], p.nodes⟩).1 != 0) = true := bne_iff_ne.2 hrn.2
            have hdr : (rightL true ⟨p.enums ++ [e0], p.nodes⟩ != 0) = true := bne_iff_ne.2 hrn.1
            clear h4 hrn
            go_wp2_with (first
              | (go_at_call 10
                 (with_reducible refine (HCK6.out _ (Below.refl _ _)).mono ?_)
                 rintro e w8 ⟨he, hb8⟩
                 subst he
                 obtain ⟨Y8, rfl⟩ : ∃ W, W = w8 := ⟨_, rfl⟩
                 have HB8 := Lib.hid (HB6.out.trans (hb8.mono HB6.out.size))
                 have H68 := Lib.hid hb8
                 obtain ⟨_, _⟩ := row2 (alloc_below (o := .cells #[.int .i64 (checkQ true ⟨p.enums ++ [e0], p.nodes⟩).1, .int .i64 (checkQ true ⟨p.enums ++ [e0], p.nodes⟩).2.1, .int .i64 (checkQ true ⟨p.enums ++ [e0], p.nodes⟩).2.2] 29) (box_next hb8 BQ6.out))
                 clear hb8)
              | (go_at_call 20
                 (with_reducible refine (HRR6.out _ (H68.out.alloc H68.out.size _)).mono ?_)
                 rintro e w9 ⟨rfl, hb9⟩
                 obtain ⟨Y9, rfl⟩ : ∃ W, W = w9 := ⟨_, rfl⟩
                 have HB9 := Lib.hid ((HB8.out.alloc HB8.out.size (.cells #[.int .i64 (checkQ true ⟨p.enums ++ [e0], p.nodes⟩).1, .int .i64 (checkQ true ⟨p.enums ++ [e0], p.nodes⟩).2.1, .int .i64 (checkQ true ⟨p.enums ++ [e0], p.nodes⟩).2.2] 29)).trans (hb9.mono (by have := HB8.out.size; simp; omega)))
                 obtain ⟨_, _, _⟩ := row3 (box_next hb9 (heap_alloc_new Y8 (.cells #[.int .i64 (checkQ true ⟨p.enums ++ [e0], p.nodes⟩).1, .int .i64 (checkQ true ⟨p.enums ++ [e0], p.nodes⟩).2.1, .int .i64 (checkQ true ⟨p.enums ++ [e0], p.nodes⟩).2.2] 29)))
                 clear hb9))
            go_ret
            exact ⟨rfl, HB9.out⟩
    · skip
      go_simp
      refine hK.out _ _ ?_ (fun hHeld => ?_)
      · (try dsimp only); go_keep
      clear hK K
      try simp only [Act.put, List.setIfInBounds_toArray, List.set_cons_zero, List.set_cons_succ]
      have BQ1 := Lib.hid (heap_alloc_new Y1 (.cells #[.slice none 0 0, .slice none 0 0] 25))
      have G1b := Lib.hid (G1.out.alloc G1.out.size (.cells #[.slice none 0 0, .slice none 0 0] 25))
      have a3 := Lib.hid ((Below.refl Y1.heap.size Y1).alloc (Nat.le_refl _) (.cells #[.slice none 0 0, .slice none 0 0] 25))
      have hQb := G1.out.size
      have HOEb := Lib.hid (HOE.out.under a3.out)
      generalize hqb : Y1.heap.size = Qb at *
      generalize Y1.alloc (.cells #[.slice none 0 0, .slice none 0 0] 25) = Yb at *
      clear hqb
      obtain ⟨p0, p1⟩ := row2 (box_next G1b.out BP2.out)
      refine only_at 5 (by kernel_rfl) rfl (fun K hK => ?_)
      (refine step_ownG (R := NodeAt w) (B := V2.heap.size) (xs := []) (ys := p.nodes) rfl _ _ rfl Tryz.underlying23 node_info rfl (by decide) (by decide) node_len node_one rfl rfl (OwnG.nil _) (HN2.out.mono G1b.out (fun _ _ h => h)) hln0 G1b.out.size ?_
       intro v1 w1 ho1 hg1 hb1
       obtain ⟨Y3, rfl⟩ : ∃ W, W = w1 := ⟨_, rfl⟩
       obtain ⟨NA, nm, nc, rfl, hm5⟩ := ho1.shape
       clear hm5
       have HON := Lib.hid (show OwnG (NodeAt w) V2.heap.size 41 5 Y3 (.slice NA nm nc) p.nodes from ho1)
       have GG2 := Lib.hid (below_grown (show Yb.grownBy Y3 none from hg1))
       have G2 := Lib.hid (G1b.out.trans hb1)
       have HOE2 := Lib.hid (HOEb.out.under (GG2.out))
       obtain ⟨p0, p1⟩ := row2 (box_next G2.out BP2.out)
       clear ho1 hg1 hb1)
      refine hK.out _ _ ?_ (fun hHeld => ?_)
      · (try dsimp only); go_keep
      clear hK K
      try simp only [Act.put, List.setIfInBounds_toArray, List.set_cons_zero, List.set_cons_succ]
      refine take_at 6 (v := ?_) rfl (by kernel_rfl) (by kernel_rfl) (by kernel_rfl) (fun _ _ _ h => h) (by rfl) ?_ (by assumption) ?_
      rotate_left
      · intro w hSw; (try dsimp only at hSw); go_simp; (try rw [if_neg (by assumption)]); (try rw [if_pos (by omega)]); (try simp only [hSw]); (try with_reducible rfl)
      try simp only [Act.put, List.setIfInBounds_toArray, List.set_cons_zero, List.set_cons_succ]
      have BQ0 := Lib.hid (box_next GG2.out BQ1.out)
      have G3 := Lib.hid G2.out
      have HOE3 := Lib.hid HOE2.out
      have HON3 := Lib.hid HON.out
      obtain ⟨s0, s1⟩ := row2 BQ0.out
      have fq0 := row_frozen BQ0.out 0
      have fq1 := row_frozen BQ0.out 1
      have B5 := Lib.hid (show ((Y3.setCell ⟨Qb, 0, none⟩ (.slice EA em ec)).setCell ⟨Qb, 1, none⟩ (.slice NA nm nc)).heap[Qb]? = some (.cells #[.slice EA em ec, .slice NA nm nc] 25 (0, 0)) by
        have h1 := heap_setCell_same Y3 Qb 0 _ _ (.slice EA em ec) BQ0.out
        have h2 := heap_setCell_same _ Qb 1 _ _ (.slice NA nm nc) h1
        simpa using h2)
      have HCP := Lib.hid (show Copied w ((Y3.setCell ⟨Qb, 0, none⟩ (.slice EA em ec)).setCell ⟨Qb, 1, none⟩ (.slice NA nm nc)) p V2.heap.size Qb (.slice EA em ec) (.slice NA nm nc) from by
        have h1 := heap_setCell_same Y3 Qb 0 _ _ (.slice EA em ec) BQ0.out
        refine ⟨(((HB2.out.trans (G3.out.mono hVw)).setCell (p := ⟨Qb, 0, none⟩) (show w.heap.size ≤ Qb by omega) _).setCell (p := ⟨Qb, 1, none⟩) (show w.heap.size ≤ Qb by omega) _), B5.out, ?_, ?_, by omega, by omega⟩
        · exact (HOE3.out.setBox BQ0.out pe_ne _).setBox h1 pe_ne _
        · exact (HON3.out.setBox BQ0.out pn_ne _).setBox h1 pn_ne _)
      obtain ⟨p0, p1⟩ := row2 ((Below.heap_setCell (Y3.setCell ⟨Qb, 0, none⟩ (.slice EA em ec)) ⟨Qb, 1, none⟩ (.slice NA nm nc) w.heap.size (show w.heap.size ≠ Qb by omega)).trans ((Below.heap_setCell Y3 ⟨Qb, 0, none⟩ (.slice EA em ec) w.heap.size (show w.heap.size ≠ Qb by omega)).trans (box_next G3.out BP2.out)))
      refine only_at 8 (by kernel_rfl) rfl (fun K hK => ?_)
      go_simp
      refine hK.out _ _ ?_ (fun hHeld => ?_)
      · (try dsimp only); go_keep
      clear hK K
      refine wpAnyH_done (by kernel_rfl) ?_ _
      generalize (Y3.setCell ⟨Qb, 0, none⟩ (.slice EA em ec)).setCell ⟨Qb, 1, none⟩ (.slice NA nm nc) = Z at *
      have HZl := lt_of_heap HCP.out.box
      have HZb := HCP.out.big
      obtain ⟨s0, s1⟩ := row2 HCP.out.box
      have HNZ := HCP.out.nodes.at_
      obtain ⟨A5, c5, e5, hc5, hm5, he5⟩ := HNZ
      injection e5 with e51 e52 e53
      subst e51 e52 e53
      obtain ⟨L0, hE0, hN0⟩ := he5 0 n0 HN0.out
      have HNA0 := Lib.hid hN0
      obtain ⟨z0, zA1, zm1, zk1, zA2, zm2, zk2, zA3, zm3, zk3, zA4, zm4, zk4, rfl⟩ := hN0.shape
      obtain ⟨zb, ezb, _, _, d0, d1, d2, d3, d4⟩ := elem5 hE0
      subst ezb
      simp only [Nat.zero_mul, add_zero] at d0 d1 d2 d3 d4
      have hpos : 0 < p.nodes.length := by omega
      clear hE0 hN0 he5 hc5 hm5
      have HEZ := HCP.out.enums.at_
      obtain ⟨A7, c7, e7, hc7, hm7, he7⟩ := HEZ
      injection e7 with e71 e72 e73
      subst e71 e72 e73
      by_cases he0 : p.enums = []
      · have hdE : ((p.enums.length : Int) == 0) = true := by rw [he0]; rfl
        clear he0 he7 hc7 hm7
        go_wp2_with fail
        go_ret
        exact ⟨rfl, HCP.out.below.alloc HCP.out.below.size _⟩
      · have hposE : 0 < p.enums.length := List.length_pos_iff.2 he0
        have hdE : ((p.enums.length : Int) == 0) = false := beq_eq_false_iff_ne.2 (by omega)
        obtain ⟨e0, hee0⟩ : ∃ e, p.enums[0]? = some e := ⟨_, List.getElem?_eq_getElem hposE⟩
        have HE0 := Lib.hid hee0
        have HBAD := Lib.hid (HTW.out e0 (List.mem_of_getElem? hee0))
        obtain ⟨M0, hF0, hM0⟩ := he7 0 e0 hee0
        have HMA0 := Lib.hid hM0
        obtain ⟨y0, yA, ym, yk, rfl⟩ := hM0.shape
        obtain ⟨yb, eyb, _, _, f0, f1⟩ := elem2 hF0
        subst eyb
        simp only [Nat.zero_mul, add_zero] at f0 f1
        clear he0 hee0 hF0 hM0 he7 hc7 hm7
        go_wp2_with fail
        have HZf := Lib.hid ((Below.refl Z.heap.size Z).alloc (Nat.le_refl _) (.cells #[.string z0, .slice zA1 zm1 zk1, .slice zA2 zm2 zk2, .slice zA3 zm3 zk3, .slice zA4 zm4 zk4] 41))
        have HOE1 := Lib.hid (HCP.out.enums.under HZf.out)
        have HON1 := Lib.hid (HCP.out.nodes.under HZf.out)
        have BQ1 := Lib.hid (box_next HZf.out HCP.out.box)
        have hfs := HZf.out.size
        have fc0 := (HZf.out.cell (p := yb) (World.block_lt_of_cell? Z _ f0)).trans f0
        have fc1 := (HZf.out.cell (p := ⟨yb.block, yb.off + 1, none⟩) (World.block_lt_of_cell? Z _ f1)).trans f1
        generalize Z.alloc (.cells #[.string z0, .slice zA1 zm1 zk1, .slice zA2 zm2 zk2, .slice zA3 zm3 zk3, .slice zA4 zm4 zk4] 41) = Zf at *
        obtain ⟨s0, s1⟩ := row2 BQ1.out
        have fq := row_frozen BQ1.out 0
        have a4 := Lib.hid ((Below.refl Zf.heap.size Zf).alloc (Nat.le_refl _) (.cells #[.string y0, .slice yA ym yk] 46)).drew
        have BE4 := Lib.hid (show (Zf.alloc (.cells #[.string y0, .slice yA ym yk] 46)).drew.heap[Zf.heap.size]? = some (.cells #[.string y0, .slice yA ym yk] 46 (0, 0)) from heap_alloc_new Zf (.cells #[.string y0, .slice yA ym yk] 46))
        have HOE4 := Lib.hid (HOE1.out.under a4.out)
        have HON4 := Lib.hid (HON1.out.under a4.out)
        have BQ4 := Lib.hid (box_next a4.out BQ1.out)
        have hZZ := HZf.out.size
        have hB4 : V2.heap.size ≤ (Zf.alloc (.cells #[.string y0, .slice yA ym yk] 46)).drew.heap.size := Nat.le_trans (by omega) a4.out.size
        have hl5 : p.enums.length + [e0].length ≤ 4194304 := by simp; omega
        have hBZ4 := Lib.hid ((HCP.out.below.trans (HZf.out.mono HCP.out.below.size)).trans (a4.out.mono (Nat.le_trans HCP.out.below.size hZZ)))
        obtain ⟨s0b, s1b⟩ := row2 (alloc_below (o := (.cells #[.string y0, .slice yA ym yk] 46)) BQ1.out)
        obtain ⟨s0c, s1c⟩ := row2 BQ4.out
        go_region_law (refine step_ownG (R := EnumAt w) (B := V2.heap.size) (xs := p.enums) (ys := [e0]) rfl _ _ rfl Tryz.underlying22 enum_info rfl (by decide) (by decide) enum_len enum_one rfl rfl HOE4.out (made1 BE4.out HMA0.out rfl) hl5 hB4 ?_
                       intro v3 w3 ho3 hg3 hb3
                       obtain ⟨Y5, rfl⟩ : ∃ W, W = w3 := ⟨_, rfl⟩
                       obtain ⟨A6, m6, c6, rfl, hm6⟩ := ho3.shape
                       clear hm6
                       have BQ5 := Lib.hid (HOE4.out.box hg3 BQ4.out pe_ne)
                       have HON5 := Lib.hid (HON4.out.other HOE4.out hg3 ne_ne)
                       have HO5 := Lib.hid ho3
                       obtain ⟨s0, s1⟩ := row2 BQ5.out
                       have fq := row_frozen BQ5.out 0
                       have BQs := Lib.hid (show (Y5.setCell ⟨Qb, 0, none⟩ (.slice A6 m6 c6)).heap[Qb]? = some (.cells #[.slice A6 m6 c6, .slice (some zb) p.nodes.length nc] 25 (0, 0)) by have := heap_setCell_same Y5 Qb 0 _ _ (.slice A6 m6 c6) BQ5.out; simpa using this)
                       have HBs := Lib.hid ((hBZ4.out.trans (hb3.mono HZb.1)).setCell (p := ⟨Qb, 0, none⟩) (show w.heap.size ≤ Qb by omega) (.slice A6 m6 c6))
                       have HPs := Lib.hid (show ProgAt (Y5.setCell ⟨Qb, 0, none⟩ (.slice A6 m6 c6)) [.slice A6 m6 c6, .slice (some zb) p.nodes.length nc] ⟨p.enums ++ [e0], p.nodes⟩ from ⟨_, _, rfl, SliceAt.mono (HO5.out.setBox (j := 0) BQ5.out pe_ne (.slice A6 m6 c6)).at_ (Below.refl _ _) (fun _ _ h => h.under HBs.out), SliceAt.mono (HON5.out.setBox (j := 0) BQ5.out pn_ne (.slice A6 m6 c6)).at_ (Below.refl _ _) (fun _ _ h => h.under HBs.out)⟩)
                       obtain ⟨s0', s1'⟩ := row2 BQs.out
                       have HFEW := Lib.hid (show ∀ x ∈ (⟨p.enums ++ [e0], p.nodes⟩ : QProg).nodes, (nodeX x).length ≤ 1048576 from (fun x hx => HQ.out x hx))
                       have HCK6 := Lib.hid (check_any true HPs.out HFEW.out)
                       have HRR6 := Lib.hid (rRight_any true HPs.out HFEW.out)
                       have HB6 := Lib.hid (HBs.out)
                       have BQ6 := Lib.hid (BQs.out)
                       clear ho3 hg3 hb3)
        all_goals
          by_cases h4 : (checkQ true ⟨p.enums ++ [e0], p.nodes⟩).1 = 4
          · have H4 := Lib.hid h4
            clear h4
            go_wp2_with (first
              | (go_at_call 10
                 (with_reducible refine (HCK6.out _ (Below.refl _ _)).mono ?_)
                 rintro e w8 ⟨he, hb8⟩
                 rw [H4.out] at he
                 subst he
                 obtain ⟨Y8, rfl⟩ : ∃ W, W = w8 := ⟨_, rfl⟩
                 have HB8 := Lib.hid (HB6.out.trans (hb8.mono HB6.out.size))
                 clear hb8))
            go_ret
            exact ⟨rfl, HB8.out.alloc HB8.out.size _⟩
          · have hrn := HBAD.out.resolve_left h4
            have hd4 : ((checkQ true ⟨p.enums ++ [e0], p.nodes⟩).1 == 4) = false := beq_eq_false_iff_ne.2 h4
            have hdn : ((checkQ true ⟨p.enums ++ [e0], p.nodes⟩).1 != 0) = true := bne_iff_ne.2 hrn.2
            have hdr : (rightL true ⟨p.enums ++ [e0], p.nodes⟩ != 0) = true := bne_iff_ne.2 hrn.1
            clear h4 hrn
            go_wp2_with (first
              | (go_at_call 10
                 (with_reducible refine (HCK6.out _ (Below.refl _ _)).mono ?_)
                 rintro e w8 ⟨he, hb8⟩
                 subst he
                 obtain ⟨Y8, rfl⟩ : ∃ W, W = w8 := ⟨_, rfl⟩
                 have HB8 := Lib.hid (HB6.out.trans (hb8.mono HB6.out.size))
                 have H68 := Lib.hid hb8
                 obtain ⟨_, _⟩ := row2 (alloc_below (o := .cells #[.int .i64 (checkQ true ⟨p.enums ++ [e0], p.nodes⟩).1, .int .i64 (checkQ true ⟨p.enums ++ [e0], p.nodes⟩).2.1, .int .i64 (checkQ true ⟨p.enums ++ [e0], p.nodes⟩).2.2] 29) (box_next hb8 BQ6.out))
                 clear hb8)
              | (go_at_call 20
                 (with_reducible refine (HRR6.out _ (H68.out.alloc H68.out.size _)).mono ?_)
                 rintro e w9 ⟨rfl, hb9⟩
                 obtain ⟨Y9, rfl⟩ : ∃ W, W = w9 := ⟨_, rfl⟩
                 have HB9 := Lib.hid ((HB8.out.alloc HB8.out.size (.cells #[.int .i64 (checkQ true ⟨p.enums ++ [e0], p.nodes⟩).1, .int .i64 (checkQ true ⟨p.enums ++ [e0], p.nodes⟩).2.1, .int .i64 (checkQ true ⟨p.enums ++ [e0], p.nodes⟩).2.2] 29)).trans (hb9.mono (by have := HB8.out.size; simp; omega)))
                 obtain ⟨_, _, _⟩ := row3 (box_next hb9 (heap_alloc_new Y8 (.cells #[.int .i64 (checkQ true ⟨p.enums ++ [e0], p.nodes⟩).1, .int .i64 (checkQ true ⟨p.enums ++ [e0], p.nodes⟩).2.1, .int .i64 (checkQ true ⟨p.enums ++ [e0], p.nodes⟩).2.2] 29)))
                 clear hb9))
            go_ret
            exact ⟨rfl, HB9.out⟩
  · skip
    go_simp
    refine hK.out _ _ ?_ (fun hHeld => ?_)
    · (try dsimp only); go_keep
    clear hK K
    try simp only [Act.put, List.setIfInBounds_toArray, List.set_cons_zero, List.set_cons_succ]
    have BQ1 := Lib.hid (show (V2.alloc (.cells #[.slice none 0 0, .slice none 0 0] 25)).drew.heap[V2.heap.size]? = some (.cells #[.slice none 0 0, .slice none 0 0] 25 (0, 0)) from heap_alloc_new V2 (.cells #[.slice none 0 0, .slice none 0 0] 25))
    have G0 := Lib.hid ((Below.refl V2.heap.size V2).alloc (Nat.le_refl _) (.cells #[.slice none 0 0, .slice none 0 0] 25)).drew
    generalize (V2.alloc (.cells #[.slice none 0 0, .slice none 0 0] 25)).drew = Y0 at *
    obtain ⟨p0, p1⟩ := row2 (box_next G0.out BP2.out)
    refine only_at 2 (by kernel_rfl) rfl (fun K hK => ?_)
    (refine step_ownG (R := EnumAt w) (B := V2.heap.size) (xs := []) (ys := p.enums) rfl _ _ rfl Tryz.underlying22 enum_info rfl (by decide) (by decide) enum_len enum_one rfl rfl (OwnG.nil _) (HE2.out.mono G0.out (fun _ _ h => h)) hle0 G0.out.size ?_
     intro v1 w1 ho1 hg1 hb1
     obtain ⟨Y1, rfl⟩ : ∃ W, W = w1 := ⟨_, rfl⟩
     obtain ⟨EA, em, ec, rfl, hm5⟩ := ho1.shape
     clear hm5
     have HOE := Lib.hid (show OwnG (EnumAt w) V2.heap.size 46 2 Y1 (.slice EA em ec) p.enums from ho1)
     have G1 := Lib.hid (G0.out.trans hb1)
     have GG1 := Lib.hid (below_grown (show Y0.grownBy Y1 none from hg1))
     obtain ⟨p0, p1⟩ := row2 (box_next G1.out BP2.out)
     clear ho1 hg1 hb1)
    refine hK.out _ _ ?_ (fun hHeld => ?_)
    · (try dsimp only); go_keep
    clear hK K
    try simp only [Act.put, List.setIfInBounds_toArray, List.set_cons_zero, List.set_cons_succ]
    have BQ2 := Lib.hid (box_next GG1.out BQ1.out)
    refine only_at 5 (by kernel_rfl) rfl (fun K hK => ?_)
    (refine step_ownG (R := NodeAt w) (B := V2.heap.size) (xs := []) (ys := p.nodes) rfl _ _ rfl Tryz.underlying23 node_info rfl (by decide) (by decide) node_len node_one rfl rfl (OwnG.nil _) (HN2.out.mono G1.out (fun _ _ h => h)) hln0 G1.out.size ?_
     intro v1 w1 ho1 hg1 hb1
     obtain ⟨Y3, rfl⟩ : ∃ W, W = w1 := ⟨_, rfl⟩
     obtain ⟨NA, nm, nc, rfl, hm5⟩ := ho1.shape
     clear hm5
     have HON := Lib.hid (show OwnG (NodeAt w) V2.heap.size 41 5 Y3 (.slice NA nm nc) p.nodes from ho1)
     have GG2 := Lib.hid (below_grown (show Y1.grownBy Y3 none from hg1))
     have G2 := Lib.hid (G1.out.trans hb1)
     have HOE2 := Lib.hid (HOE.out.under (GG2.out))
     obtain ⟨p0, p1⟩ := row2 (box_next G2.out BP2.out)
     clear ho1 hg1 hb1)
    refine hK.out _ _ ?_ (fun hHeld => ?_)
    · (try dsimp only); go_keep
    clear hK K
    try simp only [Act.put, List.setIfInBounds_toArray, List.set_cons_zero, List.set_cons_succ]
    refine take_at 6 (v := ?_) rfl (by kernel_rfl) (by kernel_rfl) (by kernel_rfl) (fun _ _ _ h => h) (by rfl) ?_ (by assumption) ?_
    rotate_left
    · intro w hSw; (try dsimp only at hSw); go_simp; (try rw [if_neg (by assumption)]); (try rw [if_pos (by omega)]); (try simp only [hSw]); (try with_reducible rfl)
    try simp only [Act.put, List.setIfInBounds_toArray, List.set_cons_zero, List.set_cons_succ]
    have BQ0 := Lib.hid (box_next GG2.out BQ2.out)
    have G3 := Lib.hid G2.out
    have HOE3 := Lib.hid HOE2.out
    have HON3 := Lib.hid HON.out
    obtain ⟨s0, s1⟩ := row2 BQ0.out
    have fq0 := row_frozen BQ0.out 0
    have fq1 := row_frozen BQ0.out 1
    have B5 := Lib.hid (show ((Y3.setCell ⟨V2.heap.size, 0, none⟩ (.slice EA em ec)).setCell ⟨V2.heap.size, 1, none⟩ (.slice NA nm nc)).heap[V2.heap.size]? = some (.cells #[.slice EA em ec, .slice NA nm nc] 25 (0, 0)) by
      have h1 := heap_setCell_same Y3 V2.heap.size 0 _ _ (.slice EA em ec) BQ0.out
      have h2 := heap_setCell_same _ V2.heap.size 1 _ _ (.slice NA nm nc) h1
      simpa using h2)
    have HCP := Lib.hid (show Copied w ((Y3.setCell ⟨V2.heap.size, 0, none⟩ (.slice EA em ec)).setCell ⟨V2.heap.size, 1, none⟩ (.slice NA nm nc)) p V2.heap.size V2.heap.size (.slice EA em ec) (.slice NA nm nc) from by
      have h1 := heap_setCell_same Y3 V2.heap.size 0 _ _ (.slice EA em ec) BQ0.out
      refine ⟨(((HB2.out.trans (G3.out.mono hVw)).setCell (p := ⟨V2.heap.size, 0, none⟩) (show w.heap.size ≤ V2.heap.size by omega) _).setCell (p := ⟨V2.heap.size, 1, none⟩) (show w.heap.size ≤ V2.heap.size by omega) _), B5.out, ?_, ?_, by omega, by omega⟩
      · exact (HOE3.out.setBox BQ0.out pe_ne _).setBox h1 pe_ne _
      · exact (HON3.out.setBox BQ0.out pn_ne _).setBox h1 pn_ne _)
    obtain ⟨p0, p1⟩ := row2 ((Below.heap_setCell (Y3.setCell ⟨V2.heap.size, 0, none⟩ (.slice EA em ec)) ⟨V2.heap.size, 1, none⟩ (.slice NA nm nc) w.heap.size (show w.heap.size ≠ V2.heap.size by omega)).trans ((Below.heap_setCell Y3 ⟨V2.heap.size, 0, none⟩ (.slice EA em ec) w.heap.size (show w.heap.size ≠ V2.heap.size by omega)).trans (box_next G3.out BP2.out)))
    refine only_at 8 (by kernel_rfl) rfl (fun K hK => ?_)
    go_simp
    refine hK.out _ _ ?_ (fun hHeld => ?_)
    · (try dsimp only); go_keep
    clear hK K
    refine wpAnyH_done (by kernel_rfl) ?_ _
    generalize (Y3.setCell ⟨V2.heap.size, 0, none⟩ (.slice EA em ec)).setCell ⟨V2.heap.size, 1, none⟩ (.slice NA nm nc) = Z at *
    have HZl := lt_of_heap HCP.out.box
    have HZb := HCP.out.big
    obtain ⟨s0, s1⟩ := row2 HCP.out.box
    have HNZ := HCP.out.nodes.at_
    obtain ⟨A5, c5, e5, hc5, hm5, he5⟩ := HNZ
    injection e5 with e51 e52 e53
    subst e51 e52 e53
    obtain ⟨L0, hE0, hN0⟩ := he5 0 n0 HN0.out
    have HNA0 := Lib.hid hN0
    obtain ⟨z0, zA1, zm1, zk1, zA2, zm2, zk2, zA3, zm3, zk3, zA4, zm4, zk4, rfl⟩ := hN0.shape
    obtain ⟨zb, ezb, _, _, d0, d1, d2, d3, d4⟩ := elem5 hE0
    subst ezb
    simp only [Nat.zero_mul, add_zero] at d0 d1 d2 d3 d4
    have hpos : 0 < p.nodes.length := by omega
    clear hE0 hN0 he5 hc5 hm5
    have HEZ := HCP.out.enums.at_
    obtain ⟨A7, c7, e7, hc7, hm7, he7⟩ := HEZ
    injection e7 with e71 e72 e73
    subst e71 e72 e73
    by_cases he0 : p.enums = []
    · have hdE : ((p.enums.length : Int) == 0) = true := by rw [he0]; rfl
      clear he0 he7 hc7 hm7
      go_wp2_with fail
      go_ret
      exact ⟨rfl, HCP.out.below.alloc HCP.out.below.size _⟩
    · have hposE : 0 < p.enums.length := List.length_pos_iff.2 he0
      have hdE : ((p.enums.length : Int) == 0) = false := beq_eq_false_iff_ne.2 (by omega)
      obtain ⟨e0, hee0⟩ : ∃ e, p.enums[0]? = some e := ⟨_, List.getElem?_eq_getElem hposE⟩
      have HE0 := Lib.hid hee0
      have HBAD := Lib.hid (HTW.out e0 (List.mem_of_getElem? hee0))
      obtain ⟨M0, hF0, hM0⟩ := he7 0 e0 hee0
      have HMA0 := Lib.hid hM0
      obtain ⟨y0, yA, ym, yk, rfl⟩ := hM0.shape
      obtain ⟨yb, eyb, _, _, f0, f1⟩ := elem2 hF0
      subst eyb
      simp only [Nat.zero_mul, add_zero] at f0 f1
      clear he0 hee0 hF0 hM0 he7 hc7 hm7
      go_wp2_with fail
      have HZf := Lib.hid ((Below.refl Z.heap.size Z).alloc (Nat.le_refl _) (.cells #[.string z0, .slice zA1 zm1 zk1, .slice zA2 zm2 zk2, .slice zA3 zm3 zk3, .slice zA4 zm4 zk4] 41))
      have HOE1 := Lib.hid (HCP.out.enums.under HZf.out)
      have HON1 := Lib.hid (HCP.out.nodes.under HZf.out)
      have BQ1 := Lib.hid (box_next HZf.out HCP.out.box)
      have hfs := HZf.out.size
      have fc0 := (HZf.out.cell (p := yb) (World.block_lt_of_cell? Z _ f0)).trans f0
      have fc1 := (HZf.out.cell (p := ⟨yb.block, yb.off + 1, none⟩) (World.block_lt_of_cell? Z _ f1)).trans f1
      generalize Z.alloc (.cells #[.string z0, .slice zA1 zm1 zk1, .slice zA2 zm2 zk2, .slice zA3 zm3 zk3, .slice zA4 zm4 zk4] 41) = Zf at *
      obtain ⟨s0, s1⟩ := row2 BQ1.out
      have fq := row_frozen BQ1.out 0
      have a4 := Lib.hid ((Below.refl Zf.heap.size Zf).alloc (Nat.le_refl _) (.cells #[.string y0, .slice yA ym yk] 46)).drew
      have BE4 := Lib.hid (show (Zf.alloc (.cells #[.string y0, .slice yA ym yk] 46)).drew.heap[Zf.heap.size]? = some (.cells #[.string y0, .slice yA ym yk] 46 (0, 0)) from heap_alloc_new Zf (.cells #[.string y0, .slice yA ym yk] 46))
      have HOE4 := Lib.hid (HOE1.out.under a4.out)
      have HON4 := Lib.hid (HON1.out.under a4.out)
      have BQ4 := Lib.hid (box_next a4.out BQ1.out)
      have hZZ := HZf.out.size
      have hB4 : V2.heap.size ≤ (Zf.alloc (.cells #[.string y0, .slice yA ym yk] 46)).drew.heap.size := Nat.le_trans (by omega) a4.out.size
      have hl5 : p.enums.length + [e0].length ≤ 4194304 := by simp; omega
      have hBZ4 := Lib.hid ((HCP.out.below.trans (HZf.out.mono HCP.out.below.size)).trans (a4.out.mono (Nat.le_trans HCP.out.below.size hZZ)))
      obtain ⟨s0b, s1b⟩ := row2 (alloc_below (o := (.cells #[.string y0, .slice yA ym yk] 46)) BQ1.out)
      obtain ⟨s0c, s1c⟩ := row2 BQ4.out
      go_region_law (refine step_ownG (R := EnumAt w) (B := V2.heap.size) (xs := p.enums) (ys := [e0]) rfl _ _ rfl Tryz.underlying22 enum_info rfl (by decide) (by decide) enum_len enum_one rfl rfl HOE4.out (made1 BE4.out HMA0.out rfl) hl5 hB4 ?_
                     intro v3 w3 ho3 hg3 hb3
                     obtain ⟨Y5, rfl⟩ : ∃ W, W = w3 := ⟨_, rfl⟩
                     obtain ⟨A6, m6, c6, rfl, hm6⟩ := ho3.shape
                     clear hm6
                     have BQ5 := Lib.hid (HOE4.out.box hg3 BQ4.out pe_ne)
                     have HON5 := Lib.hid (HON4.out.other HOE4.out hg3 ne_ne)
                     have HO5 := Lib.hid ho3
                     obtain ⟨s0, s1⟩ := row2 BQ5.out
                     have fq := row_frozen BQ5.out 0
                     have BQs := Lib.hid (show (Y5.setCell ⟨V2.heap.size, 0, none⟩ (.slice A6 m6 c6)).heap[V2.heap.size]? = some (.cells #[.slice A6 m6 c6, .slice (some zb) p.nodes.length nc] 25 (0, 0)) by have := heap_setCell_same Y5 V2.heap.size 0 _ _ (.slice A6 m6 c6) BQ5.out; simpa using this)
                     have HBs := Lib.hid ((hBZ4.out.trans (hb3.mono HZb.1)).setCell (p := ⟨V2.heap.size, 0, none⟩) (show w.heap.size ≤ V2.heap.size by omega) (.slice A6 m6 c6))
                     have HPs := Lib.hid (show ProgAt (Y5.setCell ⟨V2.heap.size, 0, none⟩ (.slice A6 m6 c6)) [.slice A6 m6 c6, .slice (some zb) p.nodes.length nc] ⟨p.enums ++ [e0], p.nodes⟩ from ⟨_, _, rfl, SliceAt.mono (HO5.out.setBox (j := 0) BQ5.out pe_ne (.slice A6 m6 c6)).at_ (Below.refl _ _) (fun _ _ h => h.under HBs.out), SliceAt.mono (HON5.out.setBox (j := 0) BQ5.out pn_ne (.slice A6 m6 c6)).at_ (Below.refl _ _) (fun _ _ h => h.under HBs.out)⟩)
                     obtain ⟨s0', s1'⟩ := row2 BQs.out
                     have HFEW := Lib.hid (show ∀ x ∈ (⟨p.enums ++ [e0], p.nodes⟩ : QProg).nodes, (nodeX x).length ≤ 1048576 from (fun x hx => HQ.out x hx))
                     have HCK6 := Lib.hid (check_any true HPs.out HFEW.out)
                     have HRR6 := Lib.hid (rRight_any true HPs.out HFEW.out)
                     have HB6 := Lib.hid (HBs.out)
                     have BQ6 := Lib.hid (BQs.out)
                     clear ho3 hg3 hb3)
      all_goals
        by_cases h4 : (checkQ true ⟨p.enums ++ [e0], p.nodes⟩).1 = 4
        · have H4 := Lib.hid h4
          clear h4
          go_wp2_with (first
            | (go_at_call 10
               (with_reducible refine (HCK6.out _ (Below.refl _ _)).mono ?_)
               rintro e w8 ⟨he, hb8⟩
               rw [H4.out] at he
               subst he
               obtain ⟨Y8, rfl⟩ : ∃ W, W = w8 := ⟨_, rfl⟩
               have HB8 := Lib.hid (HB6.out.trans (hb8.mono HB6.out.size))
               clear hb8))
          go_ret
          exact ⟨rfl, HB8.out.alloc HB8.out.size _⟩
        · have hrn := HBAD.out.resolve_left h4
          have hd4 : ((checkQ true ⟨p.enums ++ [e0], p.nodes⟩).1 == 4) = false := beq_eq_false_iff_ne.2 h4
          have hdn : ((checkQ true ⟨p.enums ++ [e0], p.nodes⟩).1 != 0) = true := bne_iff_ne.2 hrn.2
          have hdr : (rightL true ⟨p.enums ++ [e0], p.nodes⟩ != 0) = true := bne_iff_ne.2 hrn.1
          clear h4 hrn
          go_wp2_with (first
            | (go_at_call 10
               (with_reducible refine (HCK6.out _ (Below.refl _ _)).mono ?_)
               rintro e w8 ⟨he, hb8⟩
               subst he
               obtain ⟨Y8, rfl⟩ : ∃ W, W = w8 := ⟨_, rfl⟩
               have HB8 := Lib.hid (HB6.out.trans (hb8.mono HB6.out.size))
               have H68 := Lib.hid hb8
               obtain ⟨_, _⟩ := row2 (alloc_below (o := .cells #[.int .i64 (checkQ true ⟨p.enums ++ [e0], p.nodes⟩).1, .int .i64 (checkQ true ⟨p.enums ++ [e0], p.nodes⟩).2.1, .int .i64 (checkQ true ⟨p.enums ++ [e0], p.nodes⟩).2.2] 29) (box_next hb8 BQ6.out))
               clear hb8)
            | (go_at_call 20
               (with_reducible refine (HRR6.out _ (H68.out.alloc H68.out.size _)).mono ?_)
               rintro e w9 ⟨rfl, hb9⟩
               obtain ⟨Y9, rfl⟩ : ∃ W, W = w9 := ⟨_, rfl⟩
               have HB9 := Lib.hid ((HB8.out.alloc HB8.out.size (.cells #[.int .i64 (checkQ true ⟨p.enums ++ [e0], p.nodes⟩).1, .int .i64 (checkQ true ⟨p.enums ++ [e0], p.nodes⟩).2.1, .int .i64 (checkQ true ⟨p.enums ++ [e0], p.nodes⟩).2.2] 29)).trans (hb9.mono (by have := HB8.out.size; simp; omega)))
               obtain ⟨_, _, _⟩ := row3 (box_next hb9 (heap_alloc_new Y8 (.cells #[.int .i64 (checkQ true ⟨p.enums ++ [e0], p.nodes⟩).1, .int .i64 (checkQ true ⟨p.enums ++ [e0], p.nodes⟩).2.1, .int .i64 (checkQ true ⟨p.enums ++ [e0], p.nodes⟩).2.2] 29)))
               clear hb9))
          go_ret
          exact ⟨rfl, HB9.out⟩
end Go.Proofs.YtbpbnebcbjacdaaGreat
namespace Go.Proofs.YtbpbnebcbjacdaaGreat
open Go.RowKit

theorem OwnG.head {X : Type} {R : List Value → X → Prop} {B : Nat} {T : TypeId} {n : Nat} {W : World} {A : Option Addr} {m c : Nat} {xs : List X} (h : OwnG R B T n W (.slice A m c) xs) (hx : xs ≠ []) : ∃ g cur, A = some ⟨g, 0, none⟩ ∧ W.heap[g]? = some (.cells cur T (0, 0)) ∧ B ≤ g := by
  obtain ⟨Ls, h1, _⟩ := h
  rcases h1.2 with ⟨_, h0⟩ | ⟨g, cap, cur, e, hBg, hh, _⟩
  · exact absurd (List.eq_nil_of_length_eq_zero h0) hx
  · injection e with e1
    exact ⟨g, cur, e1, hh, hBg⟩
theorem add_at (g k : Nat) : (⟨g, 0, none⟩ : Addr).add k = ⟨g, k, none⟩ := by unfold Addr.add; split <;> simp_all
theorem nodes_set {w W : World} {g nc : Nat} {z f i o x x' : Value} {n n' : QNode} {r : List QNode} (hS : SliceAt W (NodeAt w) (.slice (some ⟨g, 0, none⟩) (n :: r).length nc) (n :: r))
    (c0 : W.cell? ⟨g, 0, none⟩ = some z) (c1 : W.cell? ⟨g, 1, none⟩ = some f) (c2 : W.cell? ⟨g, 2, none⟩ = some i) (c3 : W.cell? ⟨g, 3, none⟩ = some o) (c4 : W.cell? ⟨g, 4, none⟩ = some x)
    (hN : NodeAt (W.setCell ⟨g, 4, none⟩ x') [z, f, i, o, x'] n') (hb : ∀ L m, NodeAt w L m → NodeAt (W.setCell ⟨g, 4, none⟩ x') L m) :
    SliceAt (W.setCell ⟨g, 4, none⟩ x') (NodeAt (W.setCell ⟨g, 4, none⟩ x')) (.slice (some ⟨g, 0, none⟩) (n :: r).length nc) (n' :: r) := by
  obtain ⟨A, c, e, h1, h2, h3⟩ := hS
  injection e with e1 _ e3
  subst e1 e3
  refine ⟨_, _, rfl, h1, h2, fun k y hy => ?_⟩
  cases k with
  | zero =>
    cases hy
    refine ⟨_, ⟨_, rfl, fun j u hu => ?_⟩, hN⟩
    rw [Nat.zero_mul, add_zero, add_at]
    match j with
    | 0 => cases hu; exact (World.cell?_setCell_other W _ _ _ (by simp)).trans c0
    | 1 => cases hu; exact (World.cell?_setCell_other W _ _ _ (by simp)).trans c1
    | 2 => cases hu; exact (World.cell?_setCell_other W _ _ _ (by simp)).trans c2
    | 3 => cases hu; exact (World.cell?_setCell_other W _ _ _ (by simp)).trans c3
    | 4 => cases hu; exact World.cell?_setCell_same W _ _ c4
    | j + 5 => simp at hu
  | succ k =>
    obtain ⟨L, ⟨a, ea, hc⟩, hM⟩ := h3 (k + 1) y hy
    cases ea
    refine ⟨L, ⟨_, rfl, fun j u hu => ?_⟩, hb L y hM⟩
    have h5 := node_len L y hM
    have := hc j u hu
    rw [h5, add_add, add_at] at this ⊢
    refine (World.cell?_setCell_other W _ _ _ ?_).trans this
    intro e
    injection e with _ e2 _
    rw [Nat.succ_mul] at e2
    omega
theorem ni_ne : (41 : TypeId) ≠ 55 := by decide
set_option maxHeartbeats 16000000 in
set_option maxRecDepth 100000 in
theorem twice_two {w : World} {p : QProg} {A1 A2 : Option Addr} {n1 k1 n2 k2 : Nat} (hL : ProgAt w [.slice A1 n1 k1, .slice A2 n2 k2] p) (hq : ∀ x ∈ p.nodes, (nodeX x).length ≤ 1048576) (n : Int) (hc : (checkQ true p).1 = 0) (hle : p.enums.length ≤ 2097152) (hsw : wrap64 ((IntKind.u64.wrap n).tmod 3) = 2)
    (hfw : ∀ n ∈ p.nodes, ∀ i ∈ n.items, (nodeX { n with items := n.items ++ [i] }).length ≤ 1048576) (hdf : ∀ n ∈ p.nodes, ∀ i ∈ n.items, (definedQ i).length ≤ 2097152) (hil : ∀ n ∈ p.nodes, n.items.length ≤ 2097152) :
    Calls Tryz.prog 6 #[.agg #[.slice A1 n1 k1, .slice A2 n2 k2], .int .i64 n] w (Lived w) := by
  have HQ := Lib.hid hq
  have HCK := Lib.hid (check_any true hL hq)
  have hff := field_fault
  obtain ⟨ev, nv, e0, he, hnn⟩ := hL
  injection e0 with ea e0
  injection e0 with eb _
  subst ea eb
  obtain ⟨A9, c9, eq1, hec, hem, hee⟩ := he
  injection eq1 with e1 e2 e3
  subst e1 e2 e3
  obtain ⟨A', c', eq2, hcc, hmc, hne⟩ := hnn
  injection eq2 with e1 e2 e3
  subst e1 e2 e3
  have hal := Lib.hid ((Below.refl w.heap.size w).alloc (Nat.le_refl _) (.cells #[.slice A1 p.enums.length k1, .slice A2 p.nodes.length k2] 25))
  have BP := Lib.hid (heap_alloc_new w (.cells #[.slice A1 p.enums.length k1, .slice A2 p.nodes.length k2] 25))
  have hcap : p.nodes.length ≤ k2 := hcc
  have hnl : p.nodes.length ≤ 9223372036854775807 := by unfold maxLen at hmc; omega
  have hcap1 : p.enums.length ≤ k1 := hec
  have hel : p.enums.length ≤ 9223372036854775807 := by unfold maxLen at hem; omega
  have HN := Lib.hid (show SliceAt w (NodeAt w) (.slice A2 p.nodes.length k2) p.nodes from ⟨A2, k2, rfl, hcc, hmc, hne⟩)
  have HE := Lib.hid (show SliceAt w (EnumAt w) (.slice A1 p.enums.length k1) p.enums from ⟨A1, k1, rfl, hec, hem, hee⟩)
  clear hq hcc hmc hne hec hem hee
  have HFW := Lib.hid hfw
  have HDF := Lib.hid hdf
  have HIL := Lib.hid hil
  have hp1 := right_pos (check_zero hc).2.1
  have hd : ((p.nodes.length : Int) == 0) = false := beq_eq_false_iff_ne.2 (by omega)
  obtain ⟨n0, r, hpr⟩ : ∃ n r, p.nodes = n :: r := by
    cases hp : p.nodes with
    | nil => rw [hp] at hp1; simp at hp1
    | cons a b => exact ⟨a, b, rfl⟩
  have HPR := Lib.hid hpr
  have HN0 := Lib.hid (show p.nodes[0]? = some n0 by rw [hpr]; rfl)
  have HZ := Lib.hid (check_zero hc).1
  have HTW := Lib.hid (fun n r h i => twice_item hc (n := n) (r := r) h (i := i))
  clear hc hpr hfw hdf hil
  go_enter Tryz.func6, Tryz.ntmps6
  go_wp2_with (first
                | (go_at_call 9
                   (with_reducible refine (lives_any _).mono ?_)
                   rintro e w7 ⟨rfl, hb7⟩
                   obtain ⟨V1, rfl⟩ : ∃ W, W = w7 := ⟨_, rfl⟩
                   have HB1 := Lib.hid (hal.out.trans (hb7.mono hal.out.size))
                   have BP1 := Lib.hid (box_next hb7 BP.out)
                   obtain ⟨_, _⟩ := row2 BP1.out
                   clear hb7)
                | (go_at_call 10
                   (with_reducible refine (HCK.out _ HB1.out).mono ?_)
                   rintro e w8 ⟨he, hb8⟩
                   rw [HZ.out] at he
                   subst he
                   obtain ⟨V2, rfl⟩ : ∃ W, W = w8 := ⟨_, rfl⟩
                   have HB2 := Lib.hid (HB1.out.trans (hb8.mono HB1.out.size))
                   have BP2 := Lib.hid (box_next hb8 BP1.out)
                   obtain ⟨_, _⟩ := row2 BP2.out
                   clear hb8))
  have hle0 : ([] : List QEnum).length + p.enums.length ≤ 4194304 := by simp; omega
  have hln0 : ([] : List QNode).length + p.nodes.length ≤ 4194304 := by simp; omega
  have hVw := HB2.out.size
  have HE2 := Lib.hid (show SliceAt V2 (EnumAt w) (.slice A1 p.enums.length k1) p.enums from HE.out.mono HB2.out (fun _ _ h => h))
  have HN2 := Lib.hid (show SliceAt V2 (NodeAt w) (.slice A2 p.nodes.length k2) p.nodes from HN.out.mono HB2.out (fun _ _ h => h))
  obtain ⟨p0, p1⟩ := row2 BP2.out
  have hPl := lt_of_heap BP2.out
  refine wp_region_held_drew (S := (fun W => W.cell? ⟨w.heap.size, 0, none⟩ = some (.slice A1 p.enums.length k1) ∧ W.cell? ⟨w.heap.size, 1, none⟩ = some (.slice A2 p.nodes.length k2))) (by kernel_rfl) ?_ (fun hHeld => ?_)
  · (try dsimp only); go_keep
  refine take_at 0 (v := ?_) rfl (by kernel_rfl) (by kernel_rfl) (by kernel_rfl) (fun _ _ _ h => h) (by rfl) ?_ (by assumption) ?_
  rotate_left
  · intro w hSw; (try dsimp only at hSw); go_simp; (try rw [if_neg (by assumption)]); (try rw [if_pos (by omega)]); (try simp only [hSw]); (try with_reducible rfl)
  try simp only [Act.put, List.setIfInBounds_toArray, List.set_cons_zero, List.set_cons_succ]
  refine take_at 1 (v := ?_) rfl (by kernel_rfl) (by kernel_rfl) (by kernel_rfl) (fun _ _ _ h => h) (by rfl) ?_ (by assumption) ?_
  rotate_left
  · intro w hSw; (try dsimp only at hSw); go_simp; (try rw [if_neg (by assumption)]); (try rw [if_pos (by omega)]); (try simp only [hSw]); (try with_reducible rfl)
  try simp only [Act.put, List.setIfInBounds_toArray, List.set_cons_zero, List.set_cons_succ]
  refine take_at 3 (v := ?_) rfl (by kernel_rfl) (by kernel_rfl) (by kernel_rfl) (fun _ _ _ h => h) (by rfl) ?_ (by assumption) ?_
  rotate_left
  · intro w hSw; (try dsimp only at hSw); go_simp; (try rw [if_neg (by assumption)]); (try rw [if_pos (by omega)]); (try simp only [hSw]); (try with_reducible rfl)
  try simp only [Act.put, List.setIfInBounds_toArray, List.set_cons_zero, List.set_cons_succ]
  refine take_at 4 (v := ?_) rfl (by kernel_rfl) (by kernel_rfl) (by kernel_rfl) (fun _ _ _ h => h) (by rfl) ?_ (by assumption) ?_
  rotate_left
  · intro w hSw; (try dsimp only at hSw); go_simp; (try rw [if_neg (by assumption)]); (try rw [if_pos (by omega)]); (try simp only [hSw]); (try with_reducible rfl)
  try simp only [Act.put, List.setIfInBounds_toArray, List.set_cons_zero, List.set_cons_succ]
  refine wpAnyH_ready (rs := [2, 7]) (by kernel_rfl) (by simp) (cons_at 2 rfl (fun K hK => ?_) (cons_at 7 rfl (fun K hK => ?_) AllReadyH.nil))
  · skip
    (refine step_ownG (R := EnumAt w) (B := V2.heap.size) (xs := []) (ys := p.enums) rfl _ _ rfl Tryz.underlying22 enum_info rfl (by decide) (by decide) enum_len enum_one rfl rfl (OwnG.nil _) (HE2.out.mono (Below.refl V2.heap.size V2).drew (fun _ _ h => h)) hle0 (Nat.le_refl _) ?_
     intro v1 w1 ho1 hg1 hb1
     obtain ⟨Y1, rfl⟩ : ∃ W, W = w1 := ⟨_, rfl⟩
     obtain ⟨EA, em, ec, rfl, hm5⟩ := ho1.shape
     clear hm5
     have HOE := Lib.hid (show OwnG (EnumAt w) V2.heap.size 46 2 Y1 (.slice EA em ec) p.enums from ho1)
     have G1 := Lib.hid ((Below.refl V2.heap.size V2).drew.trans hb1)
     have GG1 := Lib.hid (below_grown (show V2.drew.grownBy Y1 none from hg1))
     obtain ⟨p0, p1⟩ := row2 (box_next G1.out BP2.out)
     clear ho1 hg1 hb1)
    refine hK.out _ _ ?_ (fun hHeld => ?_)
    · (try dsimp only); go_keep
    clear hK K
    try simp only [Act.put, List.setIfInBounds_toArray, List.set_cons_zero, List.set_cons_succ]
    refine wpAnyH_ready (rs := [5, 7]) (by kernel_rfl) (by simp) (cons_at 5 rfl (fun K hK => ?_) (cons_at 7 rfl (fun K hK => ?_) AllReadyH.nil))
    · skip
      (refine step_ownG (R := NodeAt w) (B := V2.heap.size) (xs := []) (ys := p.nodes) rfl _ _ rfl Tryz.underlying23 node_info rfl (by decide) (by decide) node_len node_one rfl rfl (OwnG.nil _) (HN2.out.mono G1.out (fun _ _ h => h)) hln0 G1.out.size ?_
       intro v1 w1 ho1 hg1 hb1
       obtain ⟨Y2, rfl⟩ : ∃ W, W = w1 := ⟨_, rfl⟩
       obtain ⟨NA, nm, nc, rfl, hm5⟩ := ho1.shape
       clear hm5
       have HON := Lib.hid (show OwnG (NodeAt w) V2.heap.size 41 5 Y2 (.slice NA nm nc) p.nodes from ho1)
       have GG2 := Lib.hid (below_grown (show Y1.grownBy Y2 none from hg1))
       have G2 := Lib.hid (G1.out.trans hb1)
       have HOE2 := Lib.hid (HOE.out.under (GG2.out))
       obtain ⟨p0, p1⟩ := row2 (box_next G2.out BP2.out)
       clear ho1 hg1 hb1)
      refine hK.out _ _ ?_ (fun hHeld => ?_)
      · (try dsimp only); go_keep
      clear hK K
      try simp only [Act.put, List.setIfInBounds_toArray, List.set_cons_zero, List.set_cons_succ]
      refine take_at 6 (v := ?_) rfl (by kernel_rfl) (by kernel_rfl) (by kernel_rfl) (fun _ _ _ h => h) (by rfl) ?_ (by assumption) ?_
      rotate_left
      · intro w hSw; (try dsimp only at hSw); go_simp; (try rw [if_neg (by assumption)]); (try rw [if_pos (by omega)]); (try simp only [hSw]); (try with_reducible rfl)
      try simp only [Act.put, List.setIfInBounds_toArray, List.set_cons_zero, List.set_cons_succ]
      refine only_at 7 (by kernel_rfl) rfl (fun K hK => ?_)
      go_simp
      refine hK.out _ _ ?_ (fun hHeld => ?_)
      · (try dsimp only); go_keep
      clear hK K
      try simp only [Act.put, List.setIfInBounds_toArray, List.set_cons_zero, List.set_cons_succ]
      have BQ0 := Lib.hid (heap_alloc_new Y2 (.cells #[.slice none 0 0, .slice none 0 0] 25))
      have G3 := Lib.hid (G2.out.alloc G2.out.size (.cells #[.slice none 0 0, .slice none 0 0] 25))
      have a3 := Lib.hid ((Below.refl Y2.heap.size Y2).alloc (Nat.le_refl _) (.cells #[.slice none 0 0, .slice none 0 0] 25))
      have HOE3 := Lib.hid (HOE2.out.under a3.out)
      have HON3 := Lib.hid (HON.out.under a3.out)
      have hQb := G2.out.size
      generalize hqb : Y2.heap.size = Qb at *
      generalize Y2.alloc (.cells #[.slice none 0 0, .slice none 0 0] 25) = Y3 at *
      clear hqb a3
      obtain ⟨s0, s1⟩ := row2 BQ0.out
      have fq0 := row_frozen BQ0.out 0
      have fq1 := row_frozen BQ0.out 1
      have B5 := Lib.hid (show ((Y3.setCell ⟨Qb, 0, none⟩ (.slice EA em ec)).setCell ⟨Qb, 1, none⟩ (.slice NA nm nc)).heap[Qb]? = some (.cells #[.slice EA em ec, .slice NA nm nc] 25 (0, 0)) by
        have h1 := heap_setCell_same Y3 Qb 0 _ _ (.slice EA em ec) BQ0.out
        have h2 := heap_setCell_same _ Qb 1 _ _ (.slice NA nm nc) h1
        simpa using h2)
      have HCP := Lib.hid (show Copied w ((Y3.setCell ⟨Qb, 0, none⟩ (.slice EA em ec)).setCell ⟨Qb, 1, none⟩ (.slice NA nm nc)) p V2.heap.size Qb (.slice EA em ec) (.slice NA nm nc) from by
        have h1 := heap_setCell_same Y3 Qb 0 _ _ (.slice EA em ec) BQ0.out
        refine ⟨(((HB2.out.trans (G3.out.mono hVw)).setCell (p := ⟨Qb, 0, none⟩) (show w.heap.size ≤ Qb by omega) _).setCell (p := ⟨Qb, 1, none⟩) (show w.heap.size ≤ Qb by omega) _), B5.out, ?_, ?_, by omega, by omega⟩
        · exact (HOE3.out.setBox BQ0.out pe_ne _).setBox h1 pe_ne _
        · exact (HON3.out.setBox BQ0.out pn_ne _).setBox h1 pn_ne _)
      obtain ⟨p0, p1⟩ := row2 ((Below.heap_setCell (Y3.setCell ⟨Qb, 0, none⟩ (.slice EA em ec)) ⟨Qb, 1, none⟩ (.slice NA nm nc) w.heap.size (show w.heap.size ≠ Qb by omega)).trans ((Below.heap_setCell Y3 ⟨Qb, 0, none⟩ (.slice EA em ec) w.heap.size (show w.heap.size ≠ Qb by omega)).trans (box_next G3.out BP2.out)))
      refine only_at 8 (by kernel_rfl) rfl (fun K hK => ?_)
      go_simp
      refine hK.out _ _ ?_ (fun hHeld => ?_)
      · (try dsimp only); go_keep
      clear hK K
      refine wpAnyH_done (by kernel_rfl) ?_ _
      generalize (Y3.setCell ⟨Qb, 0, none⟩ (.slice EA em ec)).setCell ⟨Qb, 1, none⟩ (.slice NA nm nc) = Z at *
      have HZl := lt_of_heap HCP.out.box
      have HZb := HCP.out.big
      obtain ⟨s0, s1⟩ := row2 HCP.out.box
      obtain ⟨g, gcur, hgA, hgB, hBg⟩ := HCP.out.nodes.head (by rw [HPR.out]; simp)
      subst hgA
      have HGB := Lib.hid hgB
      have HNZ := HCP.out.nodes.at_
      obtain ⟨A5, c5, e5, hc5, hm5, he5⟩ := HNZ
      injection e5 with e51 e52 e53
      subst e51 e52 e53
      obtain ⟨L0, hE0, hN0⟩ := he5 0 n0 HN0.out
      have HNA0 := Lib.hid hN0
      obtain ⟨fv, iv, ov, xv, rfl, hnl0, hfu, hin, hou, hit⟩ := hN0
      have HFU := Lib.hid hfu
      have HIN := Lib.hid hin
      have HOU := Lib.hid hou
      have HNL0 := Lib.hid hnl0
      obtain ⟨zA1, zm1, zk1, rfl⟩ := SliceAt.shape hfu
      obtain ⟨zA2, zm2, zk2, rfl⟩ := SliceAt.shape hin
      obtain ⟨zA3, zm3, zk3, rfl⟩ := SliceAt.shape hou
      have HIT := Lib.hid hit
      obtain ⟨zA4, zk4, rfl, hxc, hxm, hxe⟩ := hit
      have hxl : n0.items.length ≤ 9223372036854775807 := by have h : n0.items.length ≤ zk4 := hxc; unfold maxLen at hxm; omega
      obtain ⟨zb, ezb, _, _, d0, d1, d2, d3, d4⟩ := elem5 hE0
      cases ezb
      simp only [Nat.zero_mul, add_zero] at d0 d1 d2 d3 d4
      have hpos : 0 < p.nodes.length := by omega
      have hgZ := lt_of_heap hgB
      clear hE0 he5 hc5 hm5 hgB hfu hin hou hnl0 hxc hxm
      by_cases hi0 : n0.items = []
      · have hdI : ((n0.items.length : Int) == 0) = true := by rw [hi0]; rfl
        clear hi0 hxe
        go_wp2_with fail
        go_ret
        exact ⟨rfl, HCP.out.below.alloc HCP.out.below.size _⟩
      · have hposI : 0 < n0.items.length := List.length_pos_iff.2 hi0
        have hdI : ((n0.items.length : Int) == 0) = false := beq_eq_false_iff_ne.2 (by omega)
        obtain ⟨i0, hii0⟩ : ∃ e, n0.items[0]? = some e := ⟨_, List.getElem?_eq_getElem hposI⟩
        have HI0 := Lib.hid hii0
        have hmemI := List.mem_of_getElem? hii0
        have HLD := Lib.hid (HDF.out n0 (List.mem_of_getElem? HN0.out) i0 hmemI)
        obtain ⟨M0, hF0, hM0⟩ := hxe 0 i0 hii0
        have HMA0 := Lib.hid hM0
        obtain ⟨y0, y1, y2, y3, y4, y5, y6, y7, y8, y9, y10, y11, y12, y13, y14, rfl⟩ := hM0.shape
        have HF0 := Lib.hid hF0
        have HZf := Lib.hid ((Below.refl Z.heap.size Z).alloc (Nat.le_refl _) (.cells #[.string (str n0.name), .slice zA1 zm1 zk1, .slice zA2 zm2 zk2, .slice zA3 zm3 zk3, .slice zA4 n0.items.length zk4] 41))
        have hBZf := Lib.hid (HCP.out.below.trans (HZf.out.mono HCP.out.below.size))
        have BF := Lib.hid (heap_alloc_new Z (.cells #[.string (str n0.name), .slice zA1 zm1 zk1, .slice zA2 zm2 zk2, .slice zA3 zm3 zk3, .slice zA4 n0.items.length zk4] 41))
        obtain ⟨yb, eyb, hybw, _, _, _, _, _, _, _, _⟩ := elem7 hF0
        subst eyb
        obtain ⟨yb', eyb', _, _, f0, f1, f2, f3, f4, f5, f6⟩ := elem7 (hF0.under hBZf.out)
        cases eyb'
        simp only [Nat.zero_mul, add_zero] at f0 f1 f2 f3 f4 f5 f6
        have HDEF := Lib.hid (rdefined_any HMA0.out HLD.out _ hBZf.out)
        clear hi0 hii0 hF0 hM0 hxe
        by_cases hdq : definedQ i0 = []
        · have HDQ := Lib.hid hdq
          clear hdq
          go_wp2_with (go_at_call 19
                       (with_reducible refine HDEF.out.mono ?_)
                       rintro e w8 ⟨v8, rfl, hs8, hb8⟩
                       obtain ⟨A8, k8, rfl, _⟩ := hs8
                       have hn8 : (((definedQ i0).length : Int) == 0) = true := by rw [HDQ.out]; rfl
                       have HB8 := Lib.hid (hBZf.out.trans (hb8.mono hBZf.out.size))
                       clear hb8)
          go_ret
          exact ⟨rfl, HB8.out⟩
        · have HDQ := Lib.hid hdq
          clear hdq
          have HBAD := Lib.hid (HTW.out n0 r HPR.out i0 hmemI HDQ.out)
          have HFW1 := Lib.hid (HFW.out n0 (List.mem_of_getElem? HN0.out) i0 hmemI)
          have HIL1 := Lib.hid (HIL.out n0 (List.mem_of_getElem? HN0.out))
          clear hmemI
          go_wp2_with (go_at_call 19
                       (with_reducible refine HDEF.out.mono ?_)
                       rintro e w8 ⟨v8, rfl, hs8, hb8⟩
                       obtain ⟨A8, k8, rfl, _⟩ := hs8
                       have hn8 : (((definedQ i0).length : Int) == 0) = false := beq_eq_false_iff_ne.2 (by have := List.length_pos_iff.2 HDQ.out; omega)
                       obtain ⟨D, rfl⟩ : ∃ W, W = w8 := ⟨_, rfl⟩
                       have HZD := Lib.hid (HZf.out.trans (hb8.mono HZf.out.size))
                       have HBD := Lib.hid (hBZf.out.trans (hb8.mono hBZf.out.size))
                       have BFD := Lib.hid (box_next hb8 BF.out)
                       clear hb8)
          have BQD := Lib.hid (box_next HZD.out HCP.out.box)
          have HGD := Lib.hid (box_next HZD.out HGB.out)
          obtain ⟨s0, s1⟩ := row2 BQD.out
          obtain ⟨_, _, _, _, fb4⟩ := row5 BFD.out
          obtain ⟨yb', eyb', _, _, f0, f1, f2, f3, f4, f5, f6⟩ := elem7 (HF0.out.under HBD.out)
          cases eyb'
          simp only [Nat.zero_mul, add_zero] at f0 f1 f2 f3 f4 f5 f6
          have gl : ∀ k, (⟨g, k, none⟩ : Addr).block < Z.heap.size := fun _ => hgZ
          have d4D := (HZD.out.cell (p := ⟨g, 4, none⟩) (gl 4)).trans d4
          have hDl := HBD.out.size
          have hDZ := HZD.out.size
          have hgD : g < D.heap.size := by omega
          have hQD : Qb < D.heap.size := by omega
          have hgQ : g ≠ Qb := fun e => by
            have h1 := HGB.out
            rw [e, HCP.out.box] at h1
            injection h1 with h1
            injection h1 with _ ht
            exact pn_ne ht
          have hyl := World.block_lt_of_cell? D _ f0
          have hFl := lt_of_heap BFD.out
          have hZF : Z.heap.size ≠ g := by omega
          have hil0 : ([] : List QItem).length + n0.items.length ≤ 4194304 := by have := HIL1.out; simp; omega
          have hil1 : n0.items.length + [i0].length ≤ 4194304 := by have := HIL1.out; simp; omega
          refine wp_region_held_drew (S := (fun W => W.cell? ⟨Qb, 1, none⟩ = some (.slice (some ⟨g, 0, none⟩) p.nodes.length nc) ∧ W.cell? ⟨Z.heap.size, 4, none⟩ = some (.slice (some yb) n0.items.length zk4) ∧ W.cell? yb = some (.slice y0 y1 y2) ∧ W.cell? { block := yb.block, off := yb.off + 1 } = some (.int .i64 y3) ∧ W.cell? { block := yb.block, off := yb.off + 2 } = some (.string y4) ∧ W.cell? { block := yb.block, off := yb.off + 3 } = some (.int .i64 y5) ∧ W.cell? { block := yb.block, off := yb.off + 4 } = some (.slice y6 y7 y8) ∧ W.cell? { block := yb.block, off := yb.off + 5 } = some (.slice y9 y10 y11) ∧ W.cell? { block := yb.block, off := yb.off + 6 } = some (.slice y12 y13 y14))) (by kernel_rfl) ?_ (fun hHeld => ?_)
          · (try dsimp only); go_keep
          refine take_at 0 (v := ?_) rfl (by kernel_rfl) (by kernel_rfl) (by kernel_rfl) (fun _ _ _ h => h) (by rfl) ?_ (by assumption) ?_
          rotate_left
          · intro w hSw; (try dsimp only at hSw); go_simp; (try rw [if_neg (by assumption)]); (try rw [if_pos (by omega)]); (try simp only [hSw]); (try with_reducible rfl)
          try simp only [Act.put, List.setIfInBounds_toArray, List.set_cons_zero, List.set_cons_succ]
          refine take_at 1 (v := ?_) rfl (by kernel_rfl) (by kernel_rfl) (by kernel_rfl) (fun _ _ _ h => h) (by rfl) ?_ (by assumption) ?_
          rotate_left
          · intro w hSw; (try dsimp only at hSw); go_simp; (try rw [if_neg (by assumption)]); (try rw [if_pos (by omega)]); (try simp only [hSw]); (try with_reducible rfl)
          try simp only [Act.put, List.setIfInBounds_toArray, List.set_cons_zero, List.set_cons_succ]
          refine take_at 2 (v := ?_) rfl (by kernel_rfl) (by kernel_rfl) (by kernel_rfl) (fun _ _ _ h => h) (by rfl) ?_ (by assumption) ?_
          rotate_left
          · intro w hSw; (try dsimp only at hSw); go_simp; (try rw [if_neg (by assumption)]); (try rw [if_pos (by omega)]); (try simp only [hSw]); (try with_reducible rfl)
          try simp only [Act.put, List.setIfInBounds_toArray, List.set_cons_zero, List.set_cons_succ]
          refine take_at 3 (v := ?_) rfl (by kernel_rfl) (by kernel_rfl) (by kernel_rfl) (fun _ _ _ h => h) (by rfl) ?_ (by assumption) ?_
          rotate_left
          · intro w hSw; (try dsimp only at hSw); go_simp; (try rw [if_neg (by assumption)]); (try rw [if_pos (by omega)]); (try simp only [hSw]); (try with_reducible rfl)
          try simp only [Act.put, List.setIfInBounds_toArray, List.set_cons_zero, List.set_cons_succ]
          refine take_at 5 (v := ?_) rfl (by kernel_rfl) (by kernel_rfl) (by kernel_rfl) (fun _ _ _ h => h) (by rfl) ?_ (by assumption) ?_
          rotate_left
          · intro w hSw; (try dsimp only at hSw); go_simp; (try rw [if_neg (by assumption)]); (try rw [if_pos (by omega)]); (try simp only [hSw]); (try with_reducible rfl)
          try simp only [Act.put, List.setIfInBounds_toArray, List.set_cons_zero, List.set_cons_succ]
          refine take_at 6 (v := ?_) rfl (by kernel_rfl) (by kernel_rfl) (by kernel_rfl) (fun _ _ _ h => h) (by rfl) ?_ (by assumption) ?_
          rotate_left
          · intro w hSw; (try dsimp only at hSw); go_simp; (try rw [if_neg (by assumption)]); (try rw [if_pos (by omega)]); (try simp only [hSw]); (try with_reducible rfl)
          try simp only [Act.put, List.setIfInBounds_toArray, List.set_cons_zero, List.set_cons_succ]
          refine take_at 7 (v := ?_) rfl (by kernel_rfl) (by kernel_rfl) (by kernel_rfl) (fun _ _ _ h => h) (by rfl) ?_ (by assumption) ?_
          rotate_left
          · intro w hSw; (try dsimp only at hSw); go_simp; (try rw [if_neg (by assumption)]); (try rw [if_pos (by omega)]); (try simp only [hSw]); (try with_reducible rfl)
          try simp only [Act.put, List.setIfInBounds_toArray, List.set_cons_zero, List.set_cons_succ]
          refine take_at 8 (v := ?_) rfl (by kernel_rfl) (by kernel_rfl) (by kernel_rfl) (fun _ _ _ h => h) (by rfl) ?_ (by assumption) ?_
          rotate_left
          · intro w hSw; (try dsimp only at hSw); go_simp; (try rw [if_neg (by assumption)]); (try rw [if_pos (by omega)]); (try simp only [hSw]); (try with_reducible rfl)
          try simp only [Act.put, List.setIfInBounds_toArray, List.set_cons_zero, List.set_cons_succ]
          refine wpAnyH_ready (rs := [4, 9]) (by kernel_rfl) (by simp) (cons_at 4 rfl (fun K hK => ?_) (cons_at 9 rfl (fun K hK => ?_) AllReadyH.nil))
          · skip
            (refine step_ownG (R := ItemAt w) (B := D.heap.size) (xs := []) (ys := n0.items) rfl _ _ rfl Tryz.underlying39 item_info rfl (by decide) (by decide) item_len item_one rfl rfl (OwnG.nil _) (HIT.out.mono HBD.out.drew (fun _ _ h => h)) hil0 (Nat.le_refl _) ?_
             intro v1 w1 ho1 hg1 hb1
             obtain ⟨Y1, rfl⟩ : ∃ W, W = w1 := ⟨_, rfl⟩
             obtain ⟨A5, m5, c5, rfl, hm5⟩ := ho1.shape
             clear hm5
             have HO1 := Lib.hid (show OwnG (ItemAt w) D.heap.size 55 7 Y1 (.slice A5 m5 c5) n0.items from ho1)
             have G1 := Lib.hid ((Below.refl D.heap.size D).drew.trans hb1)
             obtain ⟨_, s1⟩ := row2 (box_next G1.out BQD.out)
             obtain ⟨_, _, _, _, fb4⟩ := row5 (box_next G1.out BFD.out)
             obtain ⟨yb', eyb', _, _, f0, f1, f2, f3, f4, f5, f6⟩ := elem7 (HF0.out.under (HBD.out.trans (G1.out.mono hDl)))
             cases eyb'
             simp only [Nat.zero_mul, add_zero] at f0 f1 f2 f3 f4 f5 f6
             clear ho1 hg1 hb1)
            refine hK.out _ _ ?_ (fun hHeld => ?_)
            · (try dsimp only); go_keep
            clear hK K
            try simp only [Act.put, List.setIfInBounds_toArray, List.set_cons_zero, List.set_cons_succ]
            refine only_at 9 (by kernel_rfl) rfl (fun K hK => ?_)
            go_simp
            refine hK.out _ _ ?_ (fun hHeld => ?_)
            · (try dsimp only); go_keep
            clear hK K
            try simp only [Act.put, List.setIfInBounds_toArray, List.set_cons_zero, List.set_cons_succ]
            have BX := Lib.hid (heap_alloc_new Y1 (.cells #[.slice y0 y1 y2, .int .i64 y3, .string y4, .int .i64 y5, .slice y6 y7 y8, .slice y9 y10 y11, .slice y12 y13 y14] 55))
            have G2 := Lib.hid (G1.out.alloc G1.out.size (.cells #[.slice y0 y1 y2, .int .i64 y3, .string y4, .int .i64 y5, .slice y6 y7 y8, .slice y9 y10 y11, .slice y12 y13 y14] 55))
            have HO2 := Lib.hid (HO1.out.under ((Below.refl Y1.heap.size Y1).alloc (Nat.le_refl _) (.cells #[.slice y0 y1 y2, .int .i64 y3, .string y4, .int .i64 y5, .slice y6 y7 y8, .slice y9 y10 y11, .slice y12 y13 y14] 55)))
            generalize Y1.alloc (.cells #[.slice y0 y1 y2, .int .i64 y3, .string y4, .int .i64 y5, .slice y6 y7 y8, .slice y9 y10 y11, .slice y12 y13 y14] 55) = Y2 at *
            obtain ⟨_, s1⟩ := row2 (box_next G2.out BQD.out)
            obtain ⟨_, _, _, _, fb4⟩ := row5 (box_next G2.out BFD.out)
            obtain ⟨yb', eyb', _, _, f0, f1, f2, f3, f4, f5, f6⟩ := elem7 (HF0.out.under (HBD.out.trans (G2.out.mono hDl)))
            cases eyb'
            simp only [Nat.zero_mul, add_zero] at f0 f1 f2 f3 f4 f5 f6
            refine only_at 10 (by kernel_rfl) rfl (fun K hK => ?_)
            (refine step_ownG (R := ItemAt w) (B := D.heap.size) (xs := n0.items) (ys := [i0]) rfl _ _ rfl Tryz.underlying39 item_info rfl (by decide) (by decide) item_len item_one rfl rfl HO2.out (made1 BX.out HMA0.out rfl) hil1 G2.out.size ?_
             intro v3 w3 ho3 _ hb3
             obtain ⟨Y3, rfl⟩ : ∃ W, W = w3 := ⟨_, rfl⟩
             obtain ⟨A6, m6, c6, rfl, hm6⟩ := ho3.shape
             clear hm6
             have HO3 := Lib.hid ho3
             have G3 := Lib.hid (G2.out.trans hb3)
             obtain ⟨_, s1⟩ := row2 (box_next G3.out BQD.out)
             obtain ⟨_, _, _, _, fb4⟩ := row5 (box_next G3.out BFD.out)
             obtain ⟨yb', eyb', _, _, f0, f1, f2, f3, f4, f5, f6⟩ := elem7 (HF0.out.under (HBD.out.trans (G3.out.mono hDl)))
             cases eyb'
             simp only [Nat.zero_mul, add_zero] at f0 f1 f2 f3 f4 f5 f6
             have HG3 := Lib.hid (box_next G3.out HGD.out)
             have d43 := (G3.out.cell (p := ⟨g, 4, none⟩) hgD).trans d4D
             have fq := row_frozen HG3.out 4
             clear ho3 hb3)
            refine hK.out _ _ ?_ (fun hHeld => ?_)
            · (try dsimp only); go_keep
            clear hK K
            try simp only [Act.put, List.setIfInBounds_toArray, List.set_cons_zero, List.set_cons_succ]
            refine take_at 11 (v := ?_) rfl (by kernel_rfl) (by kernel_rfl) (by kernel_rfl) (fun _ _ _ h => h) (by rfl) ?_ (by assumption) ?_
            rotate_left
            · intro w hSw; (try dsimp only at hSw); go_simp; (try rw [if_neg (by assumption)]); (try rw [if_pos (by omega)]); (try simp only [hSw]); (try with_reducible rfl)
            try simp only [Act.put, List.setIfInBounds_toArray, List.set_cons_zero, List.set_cons_succ]
            refine take_at 12 (v := ?_) rfl (by kernel_rfl) (by kernel_rfl) (by kernel_rfl) (fun _ _ _ h => h) (by rfl) ?_ (by assumption) ?_
            rotate_left
            · intro w hSw; (try dsimp only at hSw); go_simp; (try rw [if_neg (by assumption)]); (try rw [if_pos (by omega)]); (try simp only [hSw]); (try with_reducible rfl)
            try simp only [Act.put, List.setIfInBounds_toArray, List.set_cons_zero, List.set_cons_succ]
            have BQ5 := Lib.hid ((Below.heap_setCell Y3 ⟨g, 4, none⟩ (.slice A6 m6 c6) Qb (fun e => hgQ e.symm)).trans (box_next G3.out BQD.out))
            have BF5 := (Below.heap_setCell Y3 ⟨g, 4, none⟩ (.slice A6 m6 c6) Z.heap.size hZF).trans (box_next G3.out BFD.out)
            obtain ⟨s0', s1'⟩ := row2 BQ5.out
            obtain ⟨_, _, _, _, fb4'⟩ := row5 BF5
            have f0' := cell_set_ne (q := ⟨g, 4, none⟩) (u := .slice A6 m6 c6) (show yb.block ≠ g by omega) f0
            have f1' := cell_set_ne (p := ⟨yb.block, yb.off + 1, none⟩) (q := ⟨g, 4, none⟩) (u := .slice A6 m6 c6) (show yb.block ≠ g by omega) f1
            have f2' := cell_set_ne (p := ⟨yb.block, yb.off + 2, none⟩) (q := ⟨g, 4, none⟩) (u := .slice A6 m6 c6) (show yb.block ≠ g by omega) f2
            have f3' := cell_set_ne (p := ⟨yb.block, yb.off + 3, none⟩) (q := ⟨g, 4, none⟩) (u := .slice A6 m6 c6) (show yb.block ≠ g by omega) f3
            have f4' := cell_set_ne (p := ⟨yb.block, yb.off + 4, none⟩) (q := ⟨g, 4, none⟩) (u := .slice A6 m6 c6) (show yb.block ≠ g by omega) f4
            have f5' := cell_set_ne (p := ⟨yb.block, yb.off + 5, none⟩) (q := ⟨g, 4, none⟩) (u := .slice A6 m6 c6) (show yb.block ≠ g by omega) f5
            have f6' := cell_set_ne (p := ⟨yb.block, yb.off + 6, none⟩) (q := ⟨g, 4, none⟩) (u := .slice A6 m6 c6) (show yb.block ≠ g by omega) f6
            refine only_at 13 (by kernel_rfl) rfl (fun K hK => ?_)
            go_simp
            refine hK.out _ _ ?_ (fun hHeld => ?_)
            · (try dsimp only); go_keep
            clear hK K
            refine wpAnyH_done (by kernel_rfl) ?_ _
            have HB5 := Lib.hid ((HBD.out.trans (G3.out.mono hDl)).setCell (p := ⟨g, 4, none⟩) (show w.heap.size ≤ g by omega) (.slice A6 m6 c6))
            have HOI5 := Lib.hid (HO3.out.setBox (j := 4) HG3.out ni_ne (.slice A6 m6 c6)).at_
            have HOE5 := Lib.hid (((HCP.out.enums.under HZD.out).under G3.out).setBox (j := 4) HG3.out ne_ne (.slice A6 m6 c6)).at_
            have HNS := Lib.hid ((HCP.out.nodes.under HZD.out).under G3.out).at_
            have c03 := (G3.out.cell (p := ⟨g, 0, none⟩) hgD).trans ((HZD.out.cell (p := ⟨g, 0, none⟩) (gl 0)).trans d0)
            have c13 := (G3.out.cell (p := ⟨g, 1, none⟩) hgD).trans ((HZD.out.cell (p := ⟨g, 1, none⟩) (gl 1)).trans d1)
            have c23 := (G3.out.cell (p := ⟨g, 2, none⟩) hgD).trans ((HZD.out.cell (p := ⟨g, 2, none⟩) (gl 2)).trans d2)
            have c33 := (G3.out.cell (p := ⟨g, 3, none⟩) hgD).trans ((HZD.out.cell (p := ⟨g, 3, none⟩) (gl 3)).trans d3)
            have HPs := Lib.hid (show ProgAt (Y3.setCell ⟨g, 4, none⟩ (.slice A6 m6 c6)) [.slice EA em ec, .slice (some ⟨g, 0, none⟩) p.nodes.length nc] ⟨p.enums, { n0 with items := n0.items ++ [i0] } :: r⟩ from by
              refine ⟨_, _, rfl, SliceAt.mono HOE5.out (Below.refl _ _) (fun _ _ h => h.under HB5.out), ?_⟩
              have h1 := HNS.out
              rw [HPR.out] at h1 ⊢
              exact nodes_set h1 c03 c13 c23 c33 d43 ⟨_, _, _, _, rfl, HNL0.out, HFU.out.under HB5.out, HIN.out.under HB5.out, HOU.out.under HB5.out, SliceAt.mono HOI5.out (Below.refl _ _) (fun _ _ h => h.under HB5.out)⟩ (fun _ _ h => h.under HB5.out))
            clear f0 f1 f2 f3 f4 f5 f6 f0' f1' f2' f3' f4' f5' f6' fb4 fb4' c03 c13 c23 c33 d43 fq s1 BF5
            generalize Y3.setCell ⟨g, 4, none⟩ (.slice A6 m6 c6) = Y5 at *
            have HFEW := Lib.hid (show ∀ x ∈ (⟨p.enums, { n0 with items := n0.items ++ [i0] } :: r⟩ : QProg).nodes, (nodeX x).length ≤ 1048576 from (fun x hx => by
              rcases List.mem_cons.1 hx with rfl | hx
              · exact HFW1.out
              · exact HQ.out x (by rw [HPR.out]; exact List.mem_cons_of_mem _ hx)))
            have HCK6 := Lib.hid (check_any true HPs.out HFEW.out)
            have HRR6 := Lib.hid (rRight_any true HPs.out HFEW.out)
            have HB6 := Lib.hid (HB5.out)
            have BQ6 := Lib.hid (BQ5.out)
            by_cases h4 : (checkQ true ⟨p.enums, { n0 with items := n0.items ++ [i0] } :: r⟩).1 = 4
            · have H4 := Lib.hid h4
              clear h4
              go_wp2_with (first
                | (go_at_call 10
                   (with_reducible refine (HCK6.out _ (Below.refl _ _)).mono ?_)
                   rintro e w8 ⟨he, hb8⟩
                   rw [H4.out] at he
                   subst he
                   obtain ⟨Y8, rfl⟩ : ∃ W, W = w8 := ⟨_, rfl⟩
                   have HB8 := Lib.hid (HB6.out.trans (hb8.mono HB6.out.size))
                   clear hb8))
              go_ret
              exact ⟨rfl, HB8.out.alloc HB8.out.size _⟩
            · have hrn := HBAD.out.resolve_left h4
              have hd4 : ((checkQ true ⟨p.enums, { n0 with items := n0.items ++ [i0] } :: r⟩).1 == 4) = false := beq_eq_false_iff_ne.2 h4
              have hdn : ((checkQ true ⟨p.enums, { n0 with items := n0.items ++ [i0] } :: r⟩).1 != 0) = true := bne_iff_ne.2 hrn.2
              have hdr : (rightL true ⟨p.enums, { n0 with items := n0.items ++ [i0] } :: r⟩ != 0) = true := bne_iff_ne.2 hrn.1
              clear h4 hrn
              go_wp2_with (first
                | (go_at_call 10
                   (with_reducible refine (HCK6.out _ (Below.refl _ _)).mono ?_)
                   rintro e w8 ⟨he, hb8⟩
                   subst he
                   obtain ⟨Y8, rfl⟩ : ∃ W, W = w8 := ⟨_, rfl⟩
                   have HB8 := Lib.hid (HB6.out.trans (hb8.mono HB6.out.size))
                   have H68 := Lib.hid hb8
                   obtain ⟨_, _⟩ := row2 (alloc_below (o := .cells #[.int .i64 (checkQ true ⟨p.enums, { n0 with items := n0.items ++ [i0] } :: r⟩).1, .int .i64 (checkQ true ⟨p.enums, { n0 with items := n0.items ++ [i0] } :: r⟩).2.1, .int .i64 (checkQ true ⟨p.enums, { n0 with items := n0.items ++ [i0] } :: r⟩).2.2] 29) (box_next hb8 BQ6.out))
                   clear hb8)
                | (go_at_call 20
                   (with_reducible refine (HRR6.out _ (H68.out.alloc H68.out.size _)).mono ?_)
                   rintro e w9 ⟨rfl, hb9⟩
                   obtain ⟨Y9, rfl⟩ : ∃ W, W = w9 := ⟨_, rfl⟩
                   have HB9 := Lib.hid ((HB8.out.alloc HB8.out.size (.cells #[.int .i64 (checkQ true ⟨p.enums, { n0 with items := n0.items ++ [i0] } :: r⟩).1, .int .i64 (checkQ true ⟨p.enums, { n0 with items := n0.items ++ [i0] } :: r⟩).2.1, .int .i64 (checkQ true ⟨p.enums, { n0 with items := n0.items ++ [i0] } :: r⟩).2.2] 29)).trans (hb9.mono (by have := HB8.out.size; simp; omega)))
                   obtain ⟨_, _, _⟩ := row3 (box_next hb9 (heap_alloc_new Y8 (.cells #[.int .i64 (checkQ true ⟨p.enums, { n0 with items := n0.items ++ [i0] } :: r⟩).1, .int .i64 (checkQ true ⟨p.enums, { n0 with items := n0.items ++ [i0] } :: r⟩).2.1, .int .i64 (checkQ true ⟨p.enums, { n0 with items := n0.items ++ [i0] } :: r⟩).2.2] 29)))
                   clear hb9))
              go_ret
              exact ⟨rfl, HB9.out⟩
          · skip
            go_simp
            refine hK.out _ _ ?_ (fun hHeld => ?_)
            · (try dsimp only); go_keep
            clear hK K
            try simp only [Act.put, List.setIfInBounds_toArray, List.set_cons_zero, List.set_cons_succ]
            have BX0 := Lib.hid (show (D.alloc (.cells #[.slice y0 y1 y2, .int .i64 y3, .string y4, .int .i64 y5, .slice y6 y7 y8, .slice y9 y10 y11, .slice y12 y13 y14] 55)).drew.heap[D.heap.size]? = some (.cells #[.slice y0 y1 y2, .int .i64 y3, .string y4, .int .i64 y5, .slice y6 y7 y8, .slice y9 y10 y11, .slice y12 y13 y14] 55 (0, 0)) from heap_alloc_new D (.cells #[.slice y0 y1 y2, .int .i64 y3, .string y4, .int .i64 y5, .slice y6 y7 y8, .slice y9 y10 y11, .slice y12 y13 y14] 55))
            have G2 := Lib.hid ((Below.refl D.heap.size D).alloc (Nat.le_refl _) (.cells #[.slice y0 y1 y2, .int .i64 y3, .string y4, .int .i64 y5, .slice y6 y7 y8, .slice y9 y10 y11, .slice y12 y13 y14] 55)).drew
            generalize (D.alloc (.cells #[.slice y0 y1 y2, .int .i64 y3, .string y4, .int .i64 y5, .slice y6 y7 y8, .slice y9 y10 y11, .slice y12 y13 y14] 55)).drew = Y2 at *
            obtain ⟨_, s1⟩ := row2 (box_next G2.out BQD.out)
            obtain ⟨_, _, _, _, fb4⟩ := row5 (box_next G2.out BFD.out)
            obtain ⟨yb', eyb', _, _, f0, f1, f2, f3, f4, f5, f6⟩ := elem7 (HF0.out.under (HBD.out.trans (G2.out.mono hDl)))
            cases eyb'
            simp only [Nat.zero_mul, add_zero] at f0 f1 f2 f3 f4 f5 f6
            refine only_at 4 (by kernel_rfl) rfl (fun K hK => ?_)
            (refine step_ownG (R := ItemAt w) (B := D.heap.size) (xs := []) (ys := n0.items) rfl _ _ rfl Tryz.underlying39 item_info rfl (by decide) (by decide) item_len item_one rfl rfl (OwnG.nil _) (HIT.out.mono (HBD.out.trans (G2.out.mono hDl)) (fun _ _ h => h)) hil0 G2.out.size ?_
             intro v1 w1 ho1 hg1 hb1
             obtain ⟨Y1, rfl⟩ : ∃ W, W = w1 := ⟨_, rfl⟩
             obtain ⟨A5, m5, c5, rfl, hm5⟩ := ho1.shape
             clear hm5
             have HO1 := Lib.hid (show OwnG (ItemAt w) D.heap.size 55 7 Y1 (.slice A5 m5 c5) n0.items from ho1)
             have G1 := Lib.hid (G2.out.trans hb1)
             have BX := Lib.hid (box_next (below_grown (show Y2.grownBy Y1 none from hg1)) BX0.out)
             obtain ⟨_, s1⟩ := row2 (box_next G1.out BQD.out)
             obtain ⟨_, _, _, _, fb4⟩ := row5 (box_next G1.out BFD.out)
             obtain ⟨yb', eyb', _, _, f0, f1, f2, f3, f4, f5, f6⟩ := elem7 (HF0.out.under (HBD.out.trans (G1.out.mono hDl)))
             cases eyb'
             simp only [Nat.zero_mul, add_zero] at f0 f1 f2 f3 f4 f5 f6
             clear ho1 hg1 hb1)
            refine hK.out _ _ ?_ (fun hHeld => ?_)
            · (try dsimp only); go_keep
            clear hK K
            try simp only [Act.put, List.setIfInBounds_toArray, List.set_cons_zero, List.set_cons_succ]
            refine only_at 10 (by kernel_rfl) rfl (fun K hK => ?_)
            (refine step_ownG (R := ItemAt w) (B := D.heap.size) (xs := n0.items) (ys := [i0]) rfl _ _ rfl Tryz.underlying39 item_info rfl (by decide) (by decide) item_len item_one rfl rfl HO1.out (made1 BX.out HMA0.out rfl) hil1 G1.out.size ?_
             intro v3 w3 ho3 _ hb3
             obtain ⟨Y3, rfl⟩ : ∃ W, W = w3 := ⟨_, rfl⟩
             obtain ⟨A6, m6, c6, rfl, hm6⟩ := ho3.shape
             clear hm6
             have HO3 := Lib.hid ho3
             have G3 := Lib.hid (G1.out.trans hb3)
             obtain ⟨_, s1⟩ := row2 (box_next G3.out BQD.out)
             obtain ⟨_, _, _, _, fb4⟩ := row5 (box_next G3.out BFD.out)
             obtain ⟨yb', eyb', _, _, f0, f1, f2, f3, f4, f5, f6⟩ := elem7 (HF0.out.under (HBD.out.trans (G3.out.mono hDl)))
             cases eyb'
             simp only [Nat.zero_mul, add_zero] at f0 f1 f2 f3 f4 f5 f6
             have HG3 := Lib.hid (box_next G3.out HGD.out)
             have d43 := (G3.out.cell (p := ⟨g, 4, none⟩) hgD).trans d4D
             have fq := row_frozen HG3.out 4
             clear ho3 hb3)
            refine hK.out _ _ ?_ (fun hHeld => ?_)
            · (try dsimp only); go_keep
            clear hK K
            try simp only [Act.put, List.setIfInBounds_toArray, List.set_cons_zero, List.set_cons_succ]
            refine take_at 11 (v := ?_) rfl (by kernel_rfl) (by kernel_rfl) (by kernel_rfl) (fun _ _ _ h => h) (by rfl) ?_ (by assumption) ?_
            rotate_left
            · intro w hSw; (try dsimp only at hSw); go_simp; (try rw [if_neg (by assumption)]); (try rw [if_pos (by omega)]); (try simp only [hSw]); (try with_reducible rfl)
            try simp only [Act.put, List.setIfInBounds_toArray, List.set_cons_zero, List.set_cons_succ]
            refine take_at 12 (v := ?_) rfl (by kernel_rfl) (by kernel_rfl) (by kernel_rfl) (fun _ _ _ h => h) (by rfl) ?_ (by assumption) ?_
            rotate_left
            · intro w hSw; (try dsimp only at hSw); go_simp; (try rw [if_neg (by assumption)]); (try rw [if_pos (by omega)]); (try simp only [hSw]); (try with_reducible rfl)
            try simp only [Act.put, List.setIfInBounds_toArray, List.set_cons_zero, List.set_cons_succ]
            have BQ5 := Lib.hid ((Below.heap_setCell Y3 ⟨g, 4, none⟩ (.slice A6 m6 c6) Qb (fun e => hgQ e.symm)).trans (box_next G3.out BQD.out))
            have BF5 := (Below.heap_setCell Y3 ⟨g, 4, none⟩ (.slice A6 m6 c6) Z.heap.size hZF).trans (box_next G3.out BFD.out)
            obtain ⟨s0', s1'⟩ := row2 BQ5.out
            obtain ⟨_, _, _, _, fb4'⟩ := row5 BF5
            have f0' := cell_set_ne (q := ⟨g, 4, none⟩) (u := .slice A6 m6 c6) (show yb.block ≠ g by omega) f0
            have f1' := cell_set_ne (p := ⟨yb.block, yb.off + 1, none⟩) (q := ⟨g, 4, none⟩) (u := .slice A6 m6 c6) (show yb.block ≠ g by omega) f1
            have f2' := cell_set_ne (p := ⟨yb.block, yb.off + 2, none⟩) (q := ⟨g, 4, none⟩) (u := .slice A6 m6 c6) (show yb.block ≠ g by omega) f2
            have f3' := cell_set_ne (p := ⟨yb.block, yb.off + 3, none⟩) (q := ⟨g, 4, none⟩) (u := .slice A6 m6 c6) (show yb.block ≠ g by omega) f3
            have f4' := cell_set_ne (p := ⟨yb.block, yb.off + 4, none⟩) (q := ⟨g, 4, none⟩) (u := .slice A6 m6 c6) (show yb.block ≠ g by omega) f4
            have f5' := cell_set_ne (p := ⟨yb.block, yb.off + 5, none⟩) (q := ⟨g, 4, none⟩) (u := .slice A6 m6 c6) (show yb.block ≠ g by omega) f5
            have f6' := cell_set_ne (p := ⟨yb.block, yb.off + 6, none⟩) (q := ⟨g, 4, none⟩) (u := .slice A6 m6 c6) (show yb.block ≠ g by omega) f6
            refine only_at 13 (by kernel_rfl) rfl (fun K hK => ?_)
            go_simp
            refine hK.out _ _ ?_ (fun hHeld => ?_)
            · (try dsimp only); go_keep
            clear hK K
            refine wpAnyH_done (by kernel_rfl) ?_ _
            have HB5 := Lib.hid ((HBD.out.trans (G3.out.mono hDl)).setCell (p := ⟨g, 4, none⟩) (show w.heap.size ≤ g by omega) (.slice A6 m6 c6))
            have HOI5 := Lib.hid (HO3.out.setBox (j := 4) HG3.out ni_ne (.slice A6 m6 c6)).at_
            have HOE5 := Lib.hid (((HCP.out.enums.under HZD.out).under G3.out).setBox (j := 4) HG3.out ne_ne (.slice A6 m6 c6)).at_
            have HNS := Lib.hid ((HCP.out.nodes.under HZD.out).under G3.out).at_
            have c03 := (G3.out.cell (p := ⟨g, 0, none⟩) hgD).trans ((HZD.out.cell (p := ⟨g, 0, none⟩) (gl 0)).trans d0)
            have c13 := (G3.out.cell (p := ⟨g, 1, none⟩) hgD).trans ((HZD.out.cell (p := ⟨g, 1, none⟩) (gl 1)).trans d1)
            have c23 := (G3.out.cell (p := ⟨g, 2, none⟩) hgD).trans ((HZD.out.cell (p := ⟨g, 2, none⟩) (gl 2)).trans d2)
            have c33 := (G3.out.cell (p := ⟨g, 3, none⟩) hgD).trans ((HZD.out.cell (p := ⟨g, 3, none⟩) (gl 3)).trans d3)
            have HPs := Lib.hid (show ProgAt (Y3.setCell ⟨g, 4, none⟩ (.slice A6 m6 c6)) [.slice EA em ec, .slice (some ⟨g, 0, none⟩) p.nodes.length nc] ⟨p.enums, { n0 with items := n0.items ++ [i0] } :: r⟩ from by
              refine ⟨_, _, rfl, SliceAt.mono HOE5.out (Below.refl _ _) (fun _ _ h => h.under HB5.out), ?_⟩
              have h1 := HNS.out
              rw [HPR.out] at h1 ⊢
              exact nodes_set h1 c03 c13 c23 c33 d43 ⟨_, _, _, _, rfl, HNL0.out, HFU.out.under HB5.out, HIN.out.under HB5.out, HOU.out.under HB5.out, SliceAt.mono HOI5.out (Below.refl _ _) (fun _ _ h => h.under HB5.out)⟩ (fun _ _ h => h.under HB5.out))
            clear f0 f1 f2 f3 f4 f5 f6 f0' f1' f2' f3' f4' f5' f6' fb4 fb4' c03 c13 c23 c33 d43 fq s1 BF5
            generalize Y3.setCell ⟨g, 4, none⟩ (.slice A6 m6 c6) = Y5 at *
            have HFEW := Lib.hid (show ∀ x ∈ (⟨p.enums, { n0 with items := n0.items ++ [i0] } :: r⟩ : QProg).nodes, (nodeX x).length ≤ 1048576 from (fun x hx => by
              rcases List.mem_cons.1 hx with rfl | hx
              · exact HFW1.out
              · exact HQ.out x (by rw [HPR.out]; exact List.mem_cons_of_mem _ hx)))
            have HCK6 := Lib.hid (check_any true HPs.out HFEW.out)
            have HRR6 := Lib.hid (rRight_any true HPs.out HFEW.out)
            have HB6 := Lib.hid (HB5.out)
            have BQ6 := Lib.hid (BQ5.out)
            by_cases h4 : (checkQ true ⟨p.enums, { n0 with items := n0.items ++ [i0] } :: r⟩).1 = 4
            · have H4 := Lib.hid h4
              clear h4
              go_wp2_with (first
                | (go_at_call 10
                   (with_reducible refine (HCK6.out _ (Below.refl _ _)).mono ?_)
                   rintro e w8 ⟨he, hb8⟩
                   rw [H4.out] at he
                   subst he
                   obtain ⟨Y8, rfl⟩ : ∃ W, W = w8 := ⟨_, rfl⟩
                   have HB8 := Lib.hid (HB6.out.trans (hb8.mono HB6.out.size))
                   clear hb8))
              go_ret
              exact ⟨rfl, HB8.out.alloc HB8.out.size _⟩
            · have hrn := HBAD.out.resolve_left h4
              have hd4 : ((checkQ true ⟨p.enums, { n0 with items := n0.items ++ [i0] } :: r⟩).1 == 4) = false := beq_eq_false_iff_ne.2 h4
              have hdn : ((checkQ true ⟨p.enums, { n0 with items := n0.items ++ [i0] } :: r⟩).1 != 0) = true := bne_iff_ne.2 hrn.2
              have hdr : (rightL true ⟨p.enums, { n0 with items := n0.items ++ [i0] } :: r⟩ != 0) = true := bne_iff_ne.2 hrn.1
              clear h4 hrn
              go_wp2_with (first
                | (go_at_call 10
                   (with_reducible refine (HCK6.out _ (Below.refl _ _)).mono ?_)
                   rintro e w8 ⟨he, hb8⟩
                   subst he
                   obtain ⟨Y8, rfl⟩ : ∃ W, W = w8 := ⟨_, rfl⟩
                   have HB8 := Lib.hid (HB6.out.trans (hb8.mono HB6.out.size))
                   have H68 := Lib.hid hb8
                   obtain ⟨_, _⟩ := row2 (alloc_below (o := .cells #[.int .i64 (checkQ true ⟨p.enums, { n0 with items := n0.items ++ [i0] } :: r⟩).1, .int .i64 (checkQ true ⟨p.enums, { n0 with items := n0.items ++ [i0] } :: r⟩).2.1, .int .i64 (checkQ true ⟨p.enums, { n0 with items := n0.items ++ [i0] } :: r⟩).2.2] 29) (box_next hb8 BQ6.out))
                   clear hb8)
                | (go_at_call 20
                   (with_reducible refine (HRR6.out _ (H68.out.alloc H68.out.size _)).mono ?_)
                   rintro e w9 ⟨rfl, hb9⟩
                   obtain ⟨Y9, rfl⟩ : ∃ W, W = w9 := ⟨_, rfl⟩
                   have HB9 := Lib.hid ((HB8.out.alloc HB8.out.size (.cells #[.int .i64 (checkQ true ⟨p.enums, { n0 with items := n0.items ++ [i0] } :: r⟩).1, .int .i64 (checkQ true ⟨p.enums, { n0 with items := n0.items ++ [i0] } :: r⟩).2.1, .int .i64 (checkQ true ⟨p.enums, { n0 with items := n0.items ++ [i0] } :: r⟩).2.2] 29)).trans (hb9.mono (by have := HB8.out.size; simp; omega)))
                   obtain ⟨_, _, _⟩ := row3 (box_next hb9 (heap_alloc_new Y8 (.cells #[.int .i64 (checkQ true ⟨p.enums, { n0 with items := n0.items ++ [i0] } :: r⟩).1, .int .i64 (checkQ true ⟨p.enums, { n0 with items := n0.items ++ [i0] } :: r⟩).2.1, .int .i64 (checkQ true ⟨p.enums, { n0 with items := n0.items ++ [i0] } :: r⟩).2.2] 29)))
                   clear hb9))
              go_ret
              exact ⟨rfl, HB9.out⟩
    · skip
      go_simp
      refine hK.out _ _ ?_ (fun hHeld => ?_)
      · (try dsimp only); go_keep
      clear hK K
      try simp only [Act.put, List.setIfInBounds_toArray, List.set_cons_zero, List.set_cons_succ]
      have BQ1 := Lib.hid (heap_alloc_new Y1 (.cells #[.slice none 0 0, .slice none 0 0] 25))
      have G1b := Lib.hid (G1.out.alloc G1.out.size (.cells #[.slice none 0 0, .slice none 0 0] 25))
      have a3 := Lib.hid ((Below.refl Y1.heap.size Y1).alloc (Nat.le_refl _) (.cells #[.slice none 0 0, .slice none 0 0] 25))
      have hQb := G1.out.size
      have HOEb := Lib.hid (HOE.out.under a3.out)
      generalize hqb : Y1.heap.size = Qb at *
      generalize Y1.alloc (.cells #[.slice none 0 0, .slice none 0 0] 25) = Yb at *
      clear hqb
      obtain ⟨p0, p1⟩ := row2 (box_next G1b.out BP2.out)
      refine only_at 5 (by kernel_rfl) rfl (fun K hK => ?_)
      (refine step_ownG (R := NodeAt w) (B := V2.heap.size) (xs := []) (ys := p.nodes) rfl _ _ rfl Tryz.underlying23 node_info rfl (by decide) (by decide) node_len node_one rfl rfl (OwnG.nil _) (HN2.out.mono G1b.out (fun _ _ h => h)) hln0 G1b.out.size ?_
       intro v1 w1 ho1 hg1 hb1
       obtain ⟨Y3, rfl⟩ : ∃ W, W = w1 := ⟨_, rfl⟩
       obtain ⟨NA, nm, nc, rfl, hm5⟩ := ho1.shape
       clear hm5
       have HON := Lib.hid (show OwnG (NodeAt w) V2.heap.size 41 5 Y3 (.slice NA nm nc) p.nodes from ho1)
       have GG2 := Lib.hid (below_grown (show Yb.grownBy Y3 none from hg1))
       have G2 := Lib.hid (G1b.out.trans hb1)
       have HOE2 := Lib.hid (HOEb.out.under (GG2.out))
       obtain ⟨p0, p1⟩ := row2 (box_next G2.out BP2.out)
       clear ho1 hg1 hb1)
      refine hK.out _ _ ?_ (fun hHeld => ?_)
      · (try dsimp only); go_keep
      clear hK K
      try simp only [Act.put, List.setIfInBounds_toArray, List.set_cons_zero, List.set_cons_succ]
      refine take_at 6 (v := ?_) rfl (by kernel_rfl) (by kernel_rfl) (by kernel_rfl) (fun _ _ _ h => h) (by rfl) ?_ (by assumption) ?_
      rotate_left
      · intro w hSw; (try dsimp only at hSw); go_simp; (try rw [if_neg (by assumption)]); (try rw [if_pos (by omega)]); (try simp only [hSw]); (try with_reducible rfl)
      try simp only [Act.put, List.setIfInBounds_toArray, List.set_cons_zero, List.set_cons_succ]
      have BQ0 := Lib.hid (box_next GG2.out BQ1.out)
      have G3 := Lib.hid G2.out
      have HOE3 := Lib.hid HOE2.out
      have HON3 := Lib.hid HON.out
      obtain ⟨s0, s1⟩ := row2 BQ0.out
      have fq0 := row_frozen BQ0.out 0
      have fq1 := row_frozen BQ0.out 1
      have B5 := Lib.hid (show ((Y3.setCell ⟨Qb, 0, none⟩ (.slice EA em ec)).setCell ⟨Qb, 1, none⟩ (.slice NA nm nc)).heap[Qb]? = some (.cells #[.slice EA em ec, .slice NA nm nc] 25 (0, 0)) by
        have h1 := heap_setCell_same Y3 Qb 0 _ _ (.slice EA em ec) BQ0.out
        have h2 := heap_setCell_same _ Qb 1 _ _ (.slice NA nm nc) h1
        simpa using h2)
      have HCP := Lib.hid (show Copied w ((Y3.setCell ⟨Qb, 0, none⟩ (.slice EA em ec)).setCell ⟨Qb, 1, none⟩ (.slice NA nm nc)) p V2.heap.size Qb (.slice EA em ec) (.slice NA nm nc) from by
        have h1 := heap_setCell_same Y3 Qb 0 _ _ (.slice EA em ec) BQ0.out
        refine ⟨(((HB2.out.trans (G3.out.mono hVw)).setCell (p := ⟨Qb, 0, none⟩) (show w.heap.size ≤ Qb by omega) _).setCell (p := ⟨Qb, 1, none⟩) (show w.heap.size ≤ Qb by omega) _), B5.out, ?_, ?_, by omega, by omega⟩
        · exact (HOE3.out.setBox BQ0.out pe_ne _).setBox h1 pe_ne _
        · exact (HON3.out.setBox BQ0.out pn_ne _).setBox h1 pn_ne _)
      obtain ⟨p0, p1⟩ := row2 ((Below.heap_setCell (Y3.setCell ⟨Qb, 0, none⟩ (.slice EA em ec)) ⟨Qb, 1, none⟩ (.slice NA nm nc) w.heap.size (show w.heap.size ≠ Qb by omega)).trans ((Below.heap_setCell Y3 ⟨Qb, 0, none⟩ (.slice EA em ec) w.heap.size (show w.heap.size ≠ Qb by omega)).trans (box_next G3.out BP2.out)))
      refine only_at 8 (by kernel_rfl) rfl (fun K hK => ?_)
      go_simp
      refine hK.out _ _ ?_ (fun hHeld => ?_)
      · (try dsimp only); go_keep
      clear hK K
      refine wpAnyH_done (by kernel_rfl) ?_ _
      generalize (Y3.setCell ⟨Qb, 0, none⟩ (.slice EA em ec)).setCell ⟨Qb, 1, none⟩ (.slice NA nm nc) = Z at *
      have HZl := lt_of_heap HCP.out.box
      have HZb := HCP.out.big
      obtain ⟨s0, s1⟩ := row2 HCP.out.box
      obtain ⟨g, gcur, hgA, hgB, hBg⟩ := HCP.out.nodes.head (by rw [HPR.out]; simp)
      subst hgA
      have HGB := Lib.hid hgB
      have HNZ := HCP.out.nodes.at_
      obtain ⟨A5, c5, e5, hc5, hm5, he5⟩ := HNZ
      injection e5 with e51 e52 e53
      subst e51 e52 e53
      obtain ⟨L0, hE0, hN0⟩ := he5 0 n0 HN0.out
      have HNA0 := Lib.hid hN0
      obtain ⟨fv, iv, ov, xv, rfl, hnl0, hfu, hin, hou, hit⟩ := hN0
      have HFU := Lib.hid hfu
      have HIN := Lib.hid hin
      have HOU := Lib.hid hou
      have HNL0 := Lib.hid hnl0
      obtain ⟨zA1, zm1, zk1, rfl⟩ := SliceAt.shape hfu
      obtain ⟨zA2, zm2, zk2, rfl⟩ := SliceAt.shape hin
      obtain ⟨zA3, zm3, zk3, rfl⟩ := SliceAt.shape hou
      have HIT := Lib.hid hit
      obtain ⟨zA4, zk4, rfl, hxc, hxm, hxe⟩ := hit
      have hxl : n0.items.length ≤ 9223372036854775807 := by have h : n0.items.length ≤ zk4 := hxc; unfold maxLen at hxm; omega
      obtain ⟨zb, ezb, _, _, d0, d1, d2, d3, d4⟩ := elem5 hE0
      cases ezb
      simp only [Nat.zero_mul, add_zero] at d0 d1 d2 d3 d4
      have hpos : 0 < p.nodes.length := by omega
      have hgZ := lt_of_heap hgB
      clear hE0 he5 hc5 hm5 hgB hfu hin hou hnl0 hxc hxm
      by_cases hi0 : n0.items = []
      · have hdI : ((n0.items.length : Int) == 0) = true := by rw [hi0]; rfl
        clear hi0 hxe
        go_wp2_with fail
        go_ret
        exact ⟨rfl, HCP.out.below.alloc HCP.out.below.size _⟩
      · have hposI : 0 < n0.items.length := List.length_pos_iff.2 hi0
        have hdI : ((n0.items.length : Int) == 0) = false := beq_eq_false_iff_ne.2 (by omega)
        obtain ⟨i0, hii0⟩ : ∃ e, n0.items[0]? = some e := ⟨_, List.getElem?_eq_getElem hposI⟩
        have HI0 := Lib.hid hii0
        have hmemI := List.mem_of_getElem? hii0
        have HLD := Lib.hid (HDF.out n0 (List.mem_of_getElem? HN0.out) i0 hmemI)
        obtain ⟨M0, hF0, hM0⟩ := hxe 0 i0 hii0
        have HMA0 := Lib.hid hM0
        obtain ⟨y0, y1, y2, y3, y4, y5, y6, y7, y8, y9, y10, y11, y12, y13, y14, rfl⟩ := hM0.shape
        have HF0 := Lib.hid hF0
        have HZf := Lib.hid ((Below.refl Z.heap.size Z).alloc (Nat.le_refl _) (.cells #[.string (str n0.name), .slice zA1 zm1 zk1, .slice zA2 zm2 zk2, .slice zA3 zm3 zk3, .slice zA4 n0.items.length zk4] 41))
        have hBZf := Lib.hid (HCP.out.below.trans (HZf.out.mono HCP.out.below.size))
        have BF := Lib.hid (heap_alloc_new Z (.cells #[.string (str n0.name), .slice zA1 zm1 zk1, .slice zA2 zm2 zk2, .slice zA3 zm3 zk3, .slice zA4 n0.items.length zk4] 41))
        obtain ⟨yb, eyb, hybw, _, _, _, _, _, _, _, _⟩ := elem7 hF0
        subst eyb
        obtain ⟨yb', eyb', _, _, f0, f1, f2, f3, f4, f5, f6⟩ := elem7 (hF0.under hBZf.out)
        cases eyb'
        simp only [Nat.zero_mul, add_zero] at f0 f1 f2 f3 f4 f5 f6
        have HDEF := Lib.hid (rdefined_any HMA0.out HLD.out _ hBZf.out)
        clear hi0 hii0 hF0 hM0 hxe
        by_cases hdq : definedQ i0 = []
        · have HDQ := Lib.hid hdq
          clear hdq
          go_wp2_with (go_at_call 19
                       (with_reducible refine HDEF.out.mono ?_)
                       rintro e w8 ⟨v8, rfl, hs8, hb8⟩
                       obtain ⟨A8, k8, rfl, _⟩ := hs8
                       have hn8 : (((definedQ i0).length : Int) == 0) = true := by rw [HDQ.out]; rfl
                       have HB8 := Lib.hid (hBZf.out.trans (hb8.mono hBZf.out.size))
                       clear hb8)
          go_ret
          exact ⟨rfl, HB8.out⟩
        · have HDQ := Lib.hid hdq
          clear hdq
          have HBAD := Lib.hid (HTW.out n0 r HPR.out i0 hmemI HDQ.out)
          have HFW1 := Lib.hid (HFW.out n0 (List.mem_of_getElem? HN0.out) i0 hmemI)
          have HIL1 := Lib.hid (HIL.out n0 (List.mem_of_getElem? HN0.out))
          clear hmemI
          go_wp2_with (go_at_call 19
                       (with_reducible refine HDEF.out.mono ?_)
                       rintro e w8 ⟨v8, rfl, hs8, hb8⟩
                       obtain ⟨A8, k8, rfl, _⟩ := hs8
                       have hn8 : (((definedQ i0).length : Int) == 0) = false := beq_eq_false_iff_ne.2 (by have := List.length_pos_iff.2 HDQ.out; omega)
                       obtain ⟨D, rfl⟩ : ∃ W, W = w8 := ⟨_, rfl⟩
                       have HZD := Lib.hid (HZf.out.trans (hb8.mono HZf.out.size))
                       have HBD := Lib.hid (hBZf.out.trans (hb8.mono hBZf.out.size))
                       have BFD := Lib.hid (box_next hb8 BF.out)
                       clear hb8)
          have BQD := Lib.hid (box_next HZD.out HCP.out.box)
          have HGD := Lib.hid (box_next HZD.out HGB.out)
          obtain ⟨s0, s1⟩ := row2 BQD.out
          obtain ⟨_, _, _, _, fb4⟩ := row5 BFD.out
          obtain ⟨yb', eyb', _, _, f0, f1, f2, f3, f4, f5, f6⟩ := elem7 (HF0.out.under HBD.out)
          cases eyb'
          simp only [Nat.zero_mul, add_zero] at f0 f1 f2 f3 f4 f5 f6
          have gl : ∀ k, (⟨g, k, none⟩ : Addr).block < Z.heap.size := fun _ => hgZ
          have d4D := (HZD.out.cell (p := ⟨g, 4, none⟩) (gl 4)).trans d4
          have hDl := HBD.out.size
          have hDZ := HZD.out.size
          have hgD : g < D.heap.size := by omega
          have hQD : Qb < D.heap.size := by omega
          have hgQ : g ≠ Qb := fun e => by
            have h1 := HGB.out
            rw [e, HCP.out.box] at h1
            injection h1 with h1
            injection h1 with _ ht
            exact pn_ne ht
          have hyl := World.block_lt_of_cell? D _ f0
          have hFl := lt_of_heap BFD.out
          have hZF : Z.heap.size ≠ g := by omega
          have hil0 : ([] : List QItem).length + n0.items.length ≤ 4194304 := by have := HIL1.out; simp; omega
          have hil1 : n0.items.length + [i0].length ≤ 4194304 := by have := HIL1.out; simp; omega
          refine wp_region_held_drew (S := (fun W => W.cell? ⟨Qb, 1, none⟩ = some (.slice (some ⟨g, 0, none⟩) p.nodes.length nc) ∧ W.cell? ⟨Z.heap.size, 4, none⟩ = some (.slice (some yb) n0.items.length zk4) ∧ W.cell? yb = some (.slice y0 y1 y2) ∧ W.cell? { block := yb.block, off := yb.off + 1 } = some (.int .i64 y3) ∧ W.cell? { block := yb.block, off := yb.off + 2 } = some (.string y4) ∧ W.cell? { block := yb.block, off := yb.off + 3 } = some (.int .i64 y5) ∧ W.cell? { block := yb.block, off := yb.off + 4 } = some (.slice y6 y7 y8) ∧ W.cell? { block := yb.block, off := yb.off + 5 } = some (.slice y9 y10 y11) ∧ W.cell? { block := yb.block, off := yb.off + 6 } = some (.slice y12 y13 y14))) (by kernel_rfl) ?_ (fun hHeld => ?_)
          · (try dsimp only); go_keep
          refine take_at 0 (v := ?_) rfl (by kernel_rfl) (by kernel_rfl) (by kernel_rfl) (fun _ _ _ h => h) (by rfl) ?_ (by assumption) ?_
          rotate_left
          · intro w hSw; (try dsimp only at hSw); go_simp; (try rw [if_neg (by assumption)]); (try rw [if_pos (by omega)]); (try simp only [hSw]); (try with_reducible rfl)
          try simp only [Act.put, List.setIfInBounds_toArray, List.set_cons_zero, List.set_cons_succ]
          refine take_at 1 (v := ?_) rfl (by kernel_rfl) (by kernel_rfl) (by kernel_rfl) (fun _ _ _ h => h) (by rfl) ?_ (by assumption) ?_
          rotate_left
          · intro w hSw; (try dsimp only at hSw); go_simp; (try rw [if_neg (by assumption)]); (try rw [if_pos (by omega)]); (try simp only [hSw]); (try with_reducible rfl)
          try simp only [Act.put, List.setIfInBounds_toArray, List.set_cons_zero, List.set_cons_succ]
          refine take_at 2 (v := ?_) rfl (by kernel_rfl) (by kernel_rfl) (by kernel_rfl) (fun _ _ _ h => h) (by rfl) ?_ (by assumption) ?_
          rotate_left
          · intro w hSw; (try dsimp only at hSw); go_simp; (try rw [if_neg (by assumption)]); (try rw [if_pos (by omega)]); (try simp only [hSw]); (try with_reducible rfl)
          try simp only [Act.put, List.setIfInBounds_toArray, List.set_cons_zero, List.set_cons_succ]
          refine take_at 3 (v := ?_) rfl (by kernel_rfl) (by kernel_rfl) (by kernel_rfl) (fun _ _ _ h => h) (by rfl) ?_ (by assumption) ?_
          rotate_left
          · intro w hSw; (try dsimp only at hSw); go_simp; (try rw [if_neg (by assumption)]); (try rw [if_pos (by omega)]); (try simp only [hSw]); (try with_reducible rfl)
          try simp only [Act.put, List.setIfInBounds_toArray, List.set_cons_zero, List.set_cons_succ]
          refine take_at 5 (v := ?_) rfl (by kernel_rfl) (by kernel_rfl) (by kernel_rfl) (fun _ _ _ h => h) (by rfl) ?_ (by assumption) ?_
          rotate_left
          · intro w hSw; (try dsimp only at hSw); go_simp; (try rw [if_neg (by assumption)]); (try rw [if_pos (by omega)]); (try simp only [hSw]); (try with_reducible rfl)
          try simp only [Act.put, List.setIfInBounds_toArray, List.set_cons_zero, List.set_cons_succ]
          refine take_at 6 (v := ?_) rfl (by kernel_rfl) (by kernel_rfl) (by kernel_rfl) (fun _ _ _ h => h) (by rfl) ?_ (by assumption) ?_
          rotate_left
          · intro w hSw; (try dsimp only at hSw); go_simp; (try rw [if_neg (by assumption)]); (try rw [if_pos (by omega)]); (try simp only [hSw]); (try with_reducible rfl)
          try simp only [Act.put, List.setIfInBounds_toArray, List.set_cons_zero, List.set_cons_succ]
          refine take_at 7 (v := ?_) rfl (by kernel_rfl) (by kernel_rfl) (by kernel_rfl) (fun _ _ _ h => h) (by rfl) ?_ (by assumption) ?_
          rotate_left
          · intro w hSw; (try dsimp only at hSw); go_simp; (try rw [if_neg (by assumption)]); (try rw [if_pos (by omega)]); (try simp only [hSw]); (try with_reducible rfl)
          try simp only [Act.put, List.setIfInBounds_toArray, List.set_cons_zero, List.set_cons_succ]
          refine take_at 8 (v := ?_) rfl (by kernel_rfl) (by kernel_rfl) (by kernel_rfl) (fun _ _ _ h => h) (by rfl) ?_ (by assumption) ?_
          rotate_left
          · intro w hSw; (try dsimp only at hSw); go_simp; (try rw [if_neg (by assumption)]); (try rw [if_pos (by omega)]); (try simp only [hSw]); (try with_reducible rfl)
          try simp only [Act.put, List.setIfInBounds_toArray, List.set_cons_zero, List.set_cons_succ]
          refine wpAnyH_ready (rs := [4, 9]) (by kernel_rfl) (by simp) (cons_at 4 rfl (fun K hK => ?_) (cons_at 9 rfl (fun K hK => ?_) AllReadyH.nil))
          · skip
            (refine step_ownG (R := ItemAt w) (B := D.heap.size) (xs := []) (ys := n0.items) rfl _ _ rfl Tryz.underlying39 item_info rfl (by decide) (by decide) item_len item_one rfl rfl (OwnG.nil _) (HIT.out.mono HBD.out.drew (fun _ _ h => h)) hil0 (Nat.le_refl _) ?_
             intro v1 w1 ho1 hg1 hb1
             obtain ⟨Y1, rfl⟩ : ∃ W, W = w1 := ⟨_, rfl⟩
             obtain ⟨A5, m5, c5, rfl, hm5⟩ := ho1.shape
             clear hm5
             have HO1 := Lib.hid (show OwnG (ItemAt w) D.heap.size 55 7 Y1 (.slice A5 m5 c5) n0.items from ho1)
             have G1 := Lib.hid ((Below.refl D.heap.size D).drew.trans hb1)
             obtain ⟨_, s1⟩ := row2 (box_next G1.out BQD.out)
             obtain ⟨_, _, _, _, fb4⟩ := row5 (box_next G1.out BFD.out)
             obtain ⟨yb', eyb', _, _, f0, f1, f2, f3, f4, f5, f6⟩ := elem7 (HF0.out.under (HBD.out.trans (G1.out.mono hDl)))
             cases eyb'
             simp only [Nat.zero_mul, add_zero] at f0 f1 f2 f3 f4 f5 f6
             clear ho1 hg1 hb1)
            refine hK.out _ _ ?_ (fun hHeld => ?_)
            · (try dsimp only); go_keep
            clear hK K
            try simp only [Act.put, List.setIfInBounds_toArray, List.set_cons_zero, List.set_cons_succ]
            refine only_at 9 (by kernel_rfl) rfl (fun K hK => ?_)
            go_simp
            refine hK.out _ _ ?_ (fun hHeld => ?_)
            · (try dsimp only); go_keep
            clear hK K
            try simp only [Act.put, List.setIfInBounds_toArray, List.set_cons_zero, List.set_cons_succ]
            have BX := Lib.hid (heap_alloc_new Y1 (.cells #[.slice y0 y1 y2, .int .i64 y3, .string y4, .int .i64 y5, .slice y6 y7 y8, .slice y9 y10 y11, .slice y12 y13 y14] 55))
            have G2 := Lib.hid (G1.out.alloc G1.out.size (.cells #[.slice y0 y1 y2, .int .i64 y3, .string y4, .int .i64 y5, .slice y6 y7 y8, .slice y9 y10 y11, .slice y12 y13 y14] 55))
            have HO2 := Lib.hid (HO1.out.under ((Below.refl Y1.heap.size Y1).alloc (Nat.le_refl _) (.cells #[.slice y0 y1 y2, .int .i64 y3, .string y4, .int .i64 y5, .slice y6 y7 y8, .slice y9 y10 y11, .slice y12 y13 y14] 55)))
            generalize Y1.alloc (.cells #[.slice y0 y1 y2, .int .i64 y3, .string y4, .int .i64 y5, .slice y6 y7 y8, .slice y9 y10 y11, .slice y12 y13 y14] 55) = Y2 at *
            obtain ⟨_, s1⟩ := row2 (box_next G2.out BQD.out)
            obtain ⟨_, _, _, _, fb4⟩ := row5 (box_next G2.out BFD.out)
            obtain ⟨yb', eyb', _, _, f0, f1, f2, f3, f4, f5, f6⟩ := elem7 (HF0.out.under (HBD.out.trans (G2.out.mono hDl)))
            cases eyb'
            simp only [Nat.zero_mul, add_zero] at f0 f1 f2 f3 f4 f5 f6
            refine only_at 10 (by kernel_rfl) rfl (fun K hK => ?_)
            (refine step_ownG (R := ItemAt w) (B := D.heap.size) (xs := n0.items) (ys := [i0]) rfl _ _ rfl Tryz.underlying39 item_info rfl (by decide) (by decide) item_len item_one rfl rfl HO2.out (made1 BX.out HMA0.out rfl) hil1 G2.out.size ?_
             intro v3 w3 ho3 _ hb3
             obtain ⟨Y3, rfl⟩ : ∃ W, W = w3 := ⟨_, rfl⟩
             obtain ⟨A6, m6, c6, rfl, hm6⟩ := ho3.shape
             clear hm6
             have HO3 := Lib.hid ho3
             have G3 := Lib.hid (G2.out.trans hb3)
             obtain ⟨_, s1⟩ := row2 (box_next G3.out BQD.out)
             obtain ⟨_, _, _, _, fb4⟩ := row5 (box_next G3.out BFD.out)
             obtain ⟨yb', eyb', _, _, f0, f1, f2, f3, f4, f5, f6⟩ := elem7 (HF0.out.under (HBD.out.trans (G3.out.mono hDl)))
             cases eyb'
             simp only [Nat.zero_mul, add_zero] at f0 f1 f2 f3 f4 f5 f6
             have HG3 := Lib.hid (box_next G3.out HGD.out)
             have d43 := (G3.out.cell (p := ⟨g, 4, none⟩) hgD).trans d4D
             have fq := row_frozen HG3.out 4
             clear ho3 hb3)
            refine hK.out _ _ ?_ (fun hHeld => ?_)
            · (try dsimp only); go_keep
            clear hK K
            try simp only [Act.put, List.setIfInBounds_toArray, List.set_cons_zero, List.set_cons_succ]
            refine take_at 11 (v := ?_) rfl (by kernel_rfl) (by kernel_rfl) (by kernel_rfl) (fun _ _ _ h => h) (by rfl) ?_ (by assumption) ?_
            rotate_left
            · intro w hSw; (try dsimp only at hSw); go_simp; (try rw [if_neg (by assumption)]); (try rw [if_pos (by omega)]); (try simp only [hSw]); (try with_reducible rfl)
            try simp only [Act.put, List.setIfInBounds_toArray, List.set_cons_zero, List.set_cons_succ]
            refine take_at 12 (v := ?_) rfl (by kernel_rfl) (by kernel_rfl) (by kernel_rfl) (fun _ _ _ h => h) (by rfl) ?_ (by assumption) ?_
            rotate_left
            · intro w hSw; (try dsimp only at hSw); go_simp; (try rw [if_neg (by assumption)]); (try rw [if_pos (by omega)]); (try simp only [hSw]); (try with_reducible rfl)
            try simp only [Act.put, List.setIfInBounds_toArray, List.set_cons_zero, List.set_cons_succ]
            have BQ5 := Lib.hid ((Below.heap_setCell Y3 ⟨g, 4, none⟩ (.slice A6 m6 c6) Qb (fun e => hgQ e.symm)).trans (box_next G3.out BQD.out))
            have BF5 := (Below.heap_setCell Y3 ⟨g, 4, none⟩ (.slice A6 m6 c6) Z.heap.size hZF).trans (box_next G3.out BFD.out)
            obtain ⟨s0', s1'⟩ := row2 BQ5.out
            obtain ⟨_, _, _, _, fb4'⟩ := row5 BF5
            have f0' := cell_set_ne (q := ⟨g, 4, none⟩) (u := .slice A6 m6 c6) (show yb.block ≠ g by omega) f0
            have f1' := cell_set_ne (p := ⟨yb.block, yb.off + 1, none⟩) (q := ⟨g, 4, none⟩) (u := .slice A6 m6 c6) (show yb.block ≠ g by omega) f1
            have f2' := cell_set_ne (p := ⟨yb.block, yb.off + 2, none⟩) (q := ⟨g, 4, none⟩) (u := .slice A6 m6 c6) (show yb.block ≠ g by omega) f2
            have f3' := cell_set_ne (p := ⟨yb.block, yb.off + 3, none⟩) (q := ⟨g, 4, none⟩) (u := .slice A6 m6 c6) (show yb.block ≠ g by omega) f3
            have f4' := cell_set_ne (p := ⟨yb.block, yb.off + 4, none⟩) (q := ⟨g, 4, none⟩) (u := .slice A6 m6 c6) (show yb.block ≠ g by omega) f4
            have f5' := cell_set_ne (p := ⟨yb.block, yb.off + 5, none⟩) (q := ⟨g, 4, none⟩) (u := .slice A6 m6 c6) (show yb.block ≠ g by omega) f5
            have f6' := cell_set_ne (p := ⟨yb.block, yb.off + 6, none⟩) (q := ⟨g, 4, none⟩) (u := .slice A6 m6 c6) (show yb.block ≠ g by omega) f6
            refine only_at 13 (by kernel_rfl) rfl (fun K hK => ?_)
            go_simp
            refine hK.out _ _ ?_ (fun hHeld => ?_)
            · (try dsimp only); go_keep
            clear hK K
            refine wpAnyH_done (by kernel_rfl) ?_ _
            have HB5 := Lib.hid ((HBD.out.trans (G3.out.mono hDl)).setCell (p := ⟨g, 4, none⟩) (show w.heap.size ≤ g by omega) (.slice A6 m6 c6))
            have HOI5 := Lib.hid (HO3.out.setBox (j := 4) HG3.out ni_ne (.slice A6 m6 c6)).at_
            have HOE5 := Lib.hid (((HCP.out.enums.under HZD.out).under G3.out).setBox (j := 4) HG3.out ne_ne (.slice A6 m6 c6)).at_
            have HNS := Lib.hid ((HCP.out.nodes.under HZD.out).under G3.out).at_
            have c03 := (G3.out.cell (p := ⟨g, 0, none⟩) hgD).trans ((HZD.out.cell (p := ⟨g, 0, none⟩) (gl 0)).trans d0)
            have c13 := (G3.out.cell (p := ⟨g, 1, none⟩) hgD).trans ((HZD.out.cell (p := ⟨g, 1, none⟩) (gl 1)).trans d1)
            have c23 := (G3.out.cell (p := ⟨g, 2, none⟩) hgD).trans ((HZD.out.cell (p := ⟨g, 2, none⟩) (gl 2)).trans d2)
            have c33 := (G3.out.cell (p := ⟨g, 3, none⟩) hgD).trans ((HZD.out.cell (p := ⟨g, 3, none⟩) (gl 3)).trans d3)
            have HPs := Lib.hid (show ProgAt (Y3.setCell ⟨g, 4, none⟩ (.slice A6 m6 c6)) [.slice EA em ec, .slice (some ⟨g, 0, none⟩) p.nodes.length nc] ⟨p.enums, { n0 with items := n0.items ++ [i0] } :: r⟩ from by
              refine ⟨_, _, rfl, SliceAt.mono HOE5.out (Below.refl _ _) (fun _ _ h => h.under HB5.out), ?_⟩
              have h1 := HNS.out
              rw [HPR.out] at h1 ⊢
              exact nodes_set h1 c03 c13 c23 c33 d43 ⟨_, _, _, _, rfl, HNL0.out, HFU.out.under HB5.out, HIN.out.under HB5.out, HOU.out.under HB5.out, SliceAt.mono HOI5.out (Below.refl _ _) (fun _ _ h => h.under HB5.out)⟩ (fun _ _ h => h.under HB5.out))
            clear f0 f1 f2 f3 f4 f5 f6 f0' f1' f2' f3' f4' f5' f6' fb4 fb4' c03 c13 c23 c33 d43 fq s1 BF5
            generalize Y3.setCell ⟨g, 4, none⟩ (.slice A6 m6 c6) = Y5 at *
            have HFEW := Lib.hid (show ∀ x ∈ (⟨p.enums, { n0 with items := n0.items ++ [i0] } :: r⟩ : QProg).nodes, (nodeX x).length ≤ 1048576 from (fun x hx => by
              rcases List.mem_cons.1 hx with rfl | hx
              · exact HFW1.out
              · exact HQ.out x (by rw [HPR.out]; exact List.mem_cons_of_mem _ hx)))
            have HCK6 := Lib.hid (check_any true HPs.out HFEW.out)
            have HRR6 := Lib.hid (rRight_any true HPs.out HFEW.out)
            have HB6 := Lib.hid (HB5.out)
            have BQ6 := Lib.hid (BQ5.out)
            by_cases h4 : (checkQ true ⟨p.enums, { n0 with items := n0.items ++ [i0] } :: r⟩).1 = 4
            · have H4 := Lib.hid h4
              clear h4
              go_wp2_with (first
                | (go_at_call 10
                   (with_reducible refine (HCK6.out _ (Below.refl _ _)).mono ?_)
                   rintro e w8 ⟨he, hb8⟩
                   rw [H4.out] at he
                   subst he
                   obtain ⟨Y8, rfl⟩ : ∃ W, W = w8 := ⟨_, rfl⟩
                   have HB8 := Lib.hid (HB6.out.trans (hb8.mono HB6.out.size))
                   clear hb8))
              go_ret
              exact ⟨rfl, HB8.out.alloc HB8.out.size _⟩
            · have hrn := HBAD.out.resolve_left h4
              have hd4 : ((checkQ true ⟨p.enums, { n0 with items := n0.items ++ [i0] } :: r⟩).1 == 4) = false := beq_eq_false_iff_ne.2 h4
              have hdn : ((checkQ true ⟨p.enums, { n0 with items := n0.items ++ [i0] } :: r⟩).1 != 0) = true := bne_iff_ne.2 hrn.2
              have hdr : (rightL true ⟨p.enums, { n0 with items := n0.items ++ [i0] } :: r⟩ != 0) = true := bne_iff_ne.2 hrn.1
              clear h4 hrn
              go_wp2_with (first
                | (go_at_call 10
                   (with_reducible refine (HCK6.out _ (Below.refl _ _)).mono ?_)
                   rintro e w8 ⟨he, hb8⟩
                   subst he
                   obtain ⟨Y8, rfl⟩ : ∃ W, W = w8 := ⟨_, rfl⟩
                   have HB8 := Lib.hid (HB6.out.trans (hb8.mono HB6.out.size))
                   have H68 := Lib.hid hb8
                   obtain ⟨_, _⟩ := row2 (alloc_below (o := .cells #[.int .i64 (checkQ true ⟨p.enums, { n0 with items := n0.items ++ [i0] } :: r⟩).1, .int .i64 (checkQ true ⟨p.enums, { n0 with items := n0.items ++ [i0] } :: r⟩).2.1, .int .i64 (checkQ true ⟨p.enums, { n0 with items := n0.items ++ [i0] } :: r⟩).2.2] 29) (box_next hb8 BQ6.out))
                   clear hb8)
                | (go_at_call 20
                   (with_reducible refine (HRR6.out _ (H68.out.alloc H68.out.size _)).mono ?_)
                   rintro e w9 ⟨rfl, hb9⟩
                   obtain ⟨Y9, rfl⟩ : ∃ W, W = w9 := ⟨_, rfl⟩
                   have HB9 := Lib.hid ((HB8.out.alloc HB8.out.size (.cells #[.int .i64 (checkQ true ⟨p.enums, { n0 with items := n0.items ++ [i0] } :: r⟩).1, .int .i64 (checkQ true ⟨p.enums, { n0 with items := n0.items ++ [i0] } :: r⟩).2.1, .int .i64 (checkQ true ⟨p.enums, { n0 with items := n0.items ++ [i0] } :: r⟩).2.2] 29)).trans (hb9.mono (by have := HB8.out.size; simp; omega)))
                   obtain ⟨_, _, _⟩ := row3 (box_next hb9 (heap_alloc_new Y8 (.cells #[.int .i64 (checkQ true ⟨p.enums, { n0 with items := n0.items ++ [i0] } :: r⟩).1, .int .i64 (checkQ true ⟨p.enums, { n0 with items := n0.items ++ [i0] } :: r⟩).2.1, .int .i64 (checkQ true ⟨p.enums, { n0 with items := n0.items ++ [i0] } :: r⟩).2.2] 29)))
                   clear hb9))
              go_ret
              exact ⟨rfl, HB9.out⟩
          · skip
            go_simp
            refine hK.out _ _ ?_ (fun hHeld => ?_)
            · (try dsimp only); go_keep
            clear hK K
            try simp only [Act.put, List.setIfInBounds_toArray, List.set_cons_zero, List.set_cons_succ]
            have BX0 := Lib.hid (show (D.alloc (.cells #[.slice y0 y1 y2, .int .i64 y3, .string y4, .int .i64 y5, .slice y6 y7 y8, .slice y9 y10 y11, .slice y12 y13 y14] 55)).drew.heap[D.heap.size]? = some (.cells #[.slice y0 y1 y2, .int .i64 y3, .string y4, .int .i64 y5, .slice y6 y7 y8, .slice y9 y10 y11, .slice y12 y13 y14] 55 (0, 0)) from heap_alloc_new D (.cells #[.slice y0 y1 y2, .int .i64 y3, .string y4, .int .i64 y5, .slice y6 y7 y8, .slice y9 y10 y11, .slice y12 y13 y14] 55))
            have G2 := Lib.hid ((Below.refl D.heap.size D).alloc (Nat.le_refl _) (.cells #[.slice y0 y1 y2, .int .i64 y3, .string y4, .int .i64 y5, .slice y6 y7 y8, .slice y9 y10 y11, .slice y12 y13 y14] 55)).drew
            generalize (D.alloc (.cells #[.slice y0 y1 y2, .int .i64 y3, .string y4, .int .i64 y5, .slice y6 y7 y8, .slice y9 y10 y11, .slice y12 y13 y14] 55)).drew = Y2 at *
            obtain ⟨_, s1⟩ := row2 (box_next G2.out BQD.out)
            obtain ⟨_, _, _, _, fb4⟩ := row5 (box_next G2.out BFD.out)
            obtain ⟨yb', eyb', _, _, f0, f1, f2, f3, f4, f5, f6⟩ := elem7 (HF0.out.under (HBD.out.trans (G2.out.mono hDl)))
            cases eyb'
            simp only [Nat.zero_mul, add_zero] at f0 f1 f2 f3 f4 f5 f6
            refine only_at 4 (by kernel_rfl) rfl (fun K hK => ?_)
            (refine step_ownG (R := ItemAt w) (B := D.heap.size) (xs := []) (ys := n0.items) rfl _ _ rfl Tryz.underlying39 item_info rfl (by decide) (by decide) item_len item_one rfl rfl (OwnG.nil _) (HIT.out.mono (HBD.out.trans (G2.out.mono hDl)) (fun _ _ h => h)) hil0 G2.out.size ?_
             intro v1 w1 ho1 hg1 hb1
             obtain ⟨Y1, rfl⟩ : ∃ W, W = w1 := ⟨_, rfl⟩
             obtain ⟨A5, m5, c5, rfl, hm5⟩ := ho1.shape
             clear hm5
             have HO1 := Lib.hid (show OwnG (ItemAt w) D.heap.size 55 7 Y1 (.slice A5 m5 c5) n0.items from ho1)
             have G1 := Lib.hid (G2.out.trans hb1)
             have BX := Lib.hid (box_next (below_grown (show Y2.grownBy Y1 none from hg1)) BX0.out)
             obtain ⟨_, s1⟩ := row2 (box_next G1.out BQD.out)
             obtain ⟨_, _, _, _, fb4⟩ := row5 (box_next G1.out BFD.out)
             obtain ⟨yb', eyb', _, _, f0, f1, f2, f3, f4, f5, f6⟩ := elem7 (HF0.out.under (HBD.out.trans (G1.out.mono hDl)))
             cases eyb'
             simp only [Nat.zero_mul, add_zero] at f0 f1 f2 f3 f4 f5 f6
             clear ho1 hg1 hb1)
            refine hK.out _ _ ?_ (fun hHeld => ?_)
            · (try dsimp only); go_keep
            clear hK K
            try simp only [Act.put, List.setIfInBounds_toArray, List.set_cons_zero, List.set_cons_succ]
            refine only_at 10 (by kernel_rfl) rfl (fun K hK => ?_)
            (refine step_ownG (R := ItemAt w) (B := D.heap.size) (xs := n0.items) (ys := [i0]) rfl _ _ rfl Tryz.underlying39 item_info rfl (by decide) (by decide) item_len item_one rfl rfl HO1.out (made1 BX.out HMA0.out rfl) hil1 G1.out.size ?_
             intro v3 w3 ho3 _ hb3
             obtain ⟨Y3, rfl⟩ : ∃ W, W = w3 := ⟨_, rfl⟩
             obtain ⟨A6, m6, c6, rfl, hm6⟩ := ho3.shape
             clear hm6
             have HO3 := Lib.hid ho3
             have G3 := Lib.hid (G1.out.trans hb3)
             obtain ⟨_, s1⟩ := row2 (box_next G3.out BQD.out)
             obtain ⟨_, _, _, _, fb4⟩ := row5 (box_next G3.out BFD.out)
             obtain ⟨yb', eyb', _, _, f0, f1, f2, f3, f4, f5, f6⟩ := elem7 (HF0.out.under (HBD.out.trans (G3.out.mono hDl)))
             cases eyb'
             simp only [Nat.zero_mul, add_zero] at f0 f1 f2 f3 f4 f5 f6
             have HG3 := Lib.hid (box_next G3.out HGD.out)
             have d43 := (G3.out.cell (p := ⟨g, 4, none⟩) hgD).trans d4D
             have fq := row_frozen HG3.out 4
             clear ho3 hb3)
            refine hK.out _ _ ?_ (fun hHeld => ?_)
            · (try dsimp only); go_keep
            clear hK K
            try simp only [Act.put, List.setIfInBounds_toArray, List.set_cons_zero, List.set_cons_succ]
            refine take_at 11 (v := ?_) rfl (by kernel_rfl) (by kernel_rfl) (by kernel_rfl) (fun _ _ _ h => h) (by rfl) ?_ (by assumption) ?_
            rotate_left
            · intro w hSw; (try dsimp only at hSw); go_simp; (try rw [if_neg (by assumption)]); (try rw [if_pos (by omega)]); (try simp only [hSw]); (try with_reducible rfl)
            try simp only [Act.put, List.setIfInBounds_toArray, List.set_cons_zero, List.set_cons_succ]
            refine take_at 12 (v := ?_) rfl (by kernel_rfl) (by kernel_rfl) (by kernel_rfl) (fun _ _ _ h => h) (by rfl) ?_ (by assumption) ?_
            rotate_left
            · intro w hSw; (try dsimp only at hSw); go_simp; (try rw [if_neg (by assumption)]); (try rw [if_pos (by omega)]); (try simp only [hSw]); (try with_reducible rfl)
            try simp only [Act.put, List.setIfInBounds_toArray, List.set_cons_zero, List.set_cons_succ]
            have BQ5 := Lib.hid ((Below.heap_setCell Y3 ⟨g, 4, none⟩ (.slice A6 m6 c6) Qb (fun e => hgQ e.symm)).trans (box_next G3.out BQD.out))
            have BF5 := (Below.heap_setCell Y3 ⟨g, 4, none⟩ (.slice A6 m6 c6) Z.heap.size hZF).trans (box_next G3.out BFD.out)
            obtain ⟨s0', s1'⟩ := row2 BQ5.out
            obtain ⟨_, _, _, _, fb4'⟩ := row5 BF5
            have f0' := cell_set_ne (q := ⟨g, 4, none⟩) (u := .slice A6 m6 c6) (show yb.block ≠ g by omega) f0
            have f1' := cell_set_ne (p := ⟨yb.block, yb.off + 1, none⟩) (q := ⟨g, 4, none⟩) (u := .slice A6 m6 c6) (show yb.block ≠ g by omega) f1
            have f2' := cell_set_ne (p := ⟨yb.block, yb.off + 2, none⟩) (q := ⟨g, 4, none⟩) (u := .slice A6 m6 c6) (show yb.block ≠ g by omega) f2
            have f3' := cell_set_ne (p := ⟨yb.block, yb.off + 3, none⟩) (q := ⟨g, 4, none⟩) (u := .slice A6 m6 c6) (show yb.block ≠ g by omega) f3
            have f4' := cell_set_ne (p := ⟨yb.block, yb.off + 4, none⟩) (q := ⟨g, 4, none⟩) (u := .slice A6 m6 c6) (show yb.block ≠ g by omega) f4
            have f5' := cell_set_ne (p := ⟨yb.block, yb.off + 5, none⟩) (q := ⟨g, 4, none⟩) (u := .slice A6 m6 c6) (show yb.block ≠ g by omega) f5
            have f6' := cell_set_ne (p := ⟨yb.block, yb.off + 6, none⟩) (q := ⟨g, 4, none⟩) (u := .slice A6 m6 c6) (show yb.block ≠ g by omega) f6
            refine only_at 13 (by kernel_rfl) rfl (fun K hK => ?_)
            go_simp
            refine hK.out _ _ ?_ (fun hHeld => ?_)
            · (try dsimp only); go_keep
            clear hK K
            refine wpAnyH_done (by kernel_rfl) ?_ _
            have HB5 := Lib.hid ((HBD.out.trans (G3.out.mono hDl)).setCell (p := ⟨g, 4, none⟩) (show w.heap.size ≤ g by omega) (.slice A6 m6 c6))
            have HOI5 := Lib.hid (HO3.out.setBox (j := 4) HG3.out ni_ne (.slice A6 m6 c6)).at_
            have HOE5 := Lib.hid (((HCP.out.enums.under HZD.out).under G3.out).setBox (j := 4) HG3.out ne_ne (.slice A6 m6 c6)).at_
            have HNS := Lib.hid ((HCP.out.nodes.under HZD.out).under G3.out).at_
            have c03 := (G3.out.cell (p := ⟨g, 0, none⟩) hgD).trans ((HZD.out.cell (p := ⟨g, 0, none⟩) (gl 0)).trans d0)
            have c13 := (G3.out.cell (p := ⟨g, 1, none⟩) hgD).trans ((HZD.out.cell (p := ⟨g, 1, none⟩) (gl 1)).trans d1)
            have c23 := (G3.out.cell (p := ⟨g, 2, none⟩) hgD).trans ((HZD.out.cell (p := ⟨g, 2, none⟩) (gl 2)).trans d2)
            have c33 := (G3.out.cell (p := ⟨g, 3, none⟩) hgD).trans ((HZD.out.cell (p := ⟨g, 3, none⟩) (gl 3)).trans d3)
            have HPs := Lib.hid (show ProgAt (Y3.setCell ⟨g, 4, none⟩ (.slice A6 m6 c6)) [.slice EA em ec, .slice (some ⟨g, 0, none⟩) p.nodes.length nc] ⟨p.enums, { n0 with items := n0.items ++ [i0] } :: r⟩ from by
              refine ⟨_, _, rfl, SliceAt.mono HOE5.out (Below.refl _ _) (fun _ _ h => h.under HB5.out), ?_⟩
              have h1 := HNS.out
              rw [HPR.out] at h1 ⊢
              exact nodes_set h1 c03 c13 c23 c33 d43 ⟨_, _, _, _, rfl, HNL0.out, HFU.out.under HB5.out, HIN.out.under HB5.out, HOU.out.under HB5.out, SliceAt.mono HOI5.out (Below.refl _ _) (fun _ _ h => h.under HB5.out)⟩ (fun _ _ h => h.under HB5.out))
            clear f0 f1 f2 f3 f4 f5 f6 f0' f1' f2' f3' f4' f5' f6' fb4 fb4' c03 c13 c23 c33 d43 fq s1 BF5
            generalize Y3.setCell ⟨g, 4, none⟩ (.slice A6 m6 c6) = Y5 at *
            have HFEW := Lib.hid (show ∀ x ∈ (⟨p.enums, { n0 with items := n0.items ++ [i0] } :: r⟩ : QProg).nodes, (nodeX x).length ≤ 1048576 from (fun x hx => by
              rcases List.mem_cons.1 hx with rfl | hx
              · exact HFW1.out
              · exact HQ.out x (by rw [HPR.out]; exact List.mem_cons_of_mem _ hx)))
            have HCK6 := Lib.hid (check_any true HPs.out HFEW.out)
            have HRR6 := Lib.hid (rRight_any true HPs.out HFEW.out)
            have HB6 := Lib.hid (HB5.out)
            have BQ6 := Lib.hid (BQ5.out)
            by_cases h4 : (checkQ true ⟨p.enums, { n0 with items := n0.items ++ [i0] } :: r⟩).1 = 4
            · have H4 := Lib.hid h4
              clear h4
              go_wp2_with (first
                | (go_at_call 10
                   (with_reducible refine (HCK6.out _ (Below.refl _ _)).mono ?_)
                   rintro e w8 ⟨he, hb8⟩
                   rw [H4.out] at he
                   subst he
                   obtain ⟨Y8, rfl⟩ : ∃ W, W = w8 := ⟨_, rfl⟩
                   have HB8 := Lib.hid (HB6.out.trans (hb8.mono HB6.out.size))
                   clear hb8))
              go_ret
              exact ⟨rfl, HB8.out.alloc HB8.out.size _⟩
            · have hrn := HBAD.out.resolve_left h4
              have hd4 : ((checkQ true ⟨p.enums, { n0 with items := n0.items ++ [i0] } :: r⟩).1 == 4) = false := beq_eq_false_iff_ne.2 h4
              have hdn : ((checkQ true ⟨p.enums, { n0 with items := n0.items ++ [i0] } :: r⟩).1 != 0) = true := bne_iff_ne.2 hrn.2
              have hdr : (rightL true ⟨p.enums, { n0 with items := n0.items ++ [i0] } :: r⟩ != 0) = true := bne_iff_ne.2 hrn.1
              clear h4 hrn
              go_wp2_with (first
                | (go_at_call 10
                   (with_reducible refine (HCK6.out _ (Below.refl _ _)).mono ?_)
                   rintro e w8 ⟨he, hb8⟩
                   subst he
                   obtain ⟨Y8, rfl⟩ : ∃ W, W = w8 := ⟨_, rfl⟩
                   have HB8 := Lib.hid (HB6.out.trans (hb8.mono HB6.out.size))
                   have H68 := Lib.hid hb8
                   obtain ⟨_, _⟩ := row2 (alloc_below (o := .cells #[.int .i64 (checkQ true ⟨p.enums, { n0 with items := n0.items ++ [i0] } :: r⟩).1, .int .i64 (checkQ true ⟨p.enums, { n0 with items := n0.items ++ [i0] } :: r⟩).2.1, .int .i64 (checkQ true ⟨p.enums, { n0 with items := n0.items ++ [i0] } :: r⟩).2.2] 29) (box_next hb8 BQ6.out))
                   clear hb8)
                | (go_at_call 20
                   (with_reducible refine (HRR6.out _ (H68.out.alloc H68.out.size _)).mono ?_)
                   rintro e w9 ⟨rfl, hb9⟩
                   obtain ⟨Y9, rfl⟩ : ∃ W, W = w9 := ⟨_, rfl⟩
                   have HB9 := Lib.hid ((HB8.out.alloc HB8.out.size (.cells #[.int .i64 (checkQ true ⟨p.enums, { n0 with items := n0.items ++ [i0] } :: r⟩).1, .int .i64 (checkQ true ⟨p.enums, { n0 with items := n0.items ++ [i0] } :: r⟩).2.1, .int .i64 (checkQ true ⟨p.enums, { n0 with items := n0.items ++ [i0] } :: r⟩).2.2] 29)).trans (hb9.mono (by have := HB8.out.size; simp; omega)))
                   obtain ⟨_, _, _⟩ := row3 (box_next hb9 (heap_alloc_new Y8 (.cells #[.int .i64 (checkQ true ⟨p.enums, { n0 with items := n0.items ++ [i0] } :: r⟩).1, .int .i64 (checkQ true ⟨p.enums, { n0 with items := n0.items ++ [i0] } :: r⟩).2.1, .int .i64 (checkQ true ⟨p.enums, { n0 with items := n0.items ++ [i0] } :: r⟩).2.2] 29)))
                   clear hb9))
              go_ret
              exact ⟨rfl, HB9.out⟩
  · skip
    go_simp
    refine hK.out _ _ ?_ (fun hHeld => ?_)
    · (try dsimp only); go_keep
    clear hK K
    try simp only [Act.put, List.setIfInBounds_toArray, List.set_cons_zero, List.set_cons_succ]
    have BQ1 := Lib.hid (show (V2.alloc (.cells #[.slice none 0 0, .slice none 0 0] 25)).drew.heap[V2.heap.size]? = some (.cells #[.slice none 0 0, .slice none 0 0] 25 (0, 0)) from heap_alloc_new V2 (.cells #[.slice none 0 0, .slice none 0 0] 25))
    have G0 := Lib.hid ((Below.refl V2.heap.size V2).alloc (Nat.le_refl _) (.cells #[.slice none 0 0, .slice none 0 0] 25)).drew
    generalize (V2.alloc (.cells #[.slice none 0 0, .slice none 0 0] 25)).drew = Y0 at *
    obtain ⟨p0, p1⟩ := row2 (box_next G0.out BP2.out)
    refine only_at 2 (by kernel_rfl) rfl (fun K hK => ?_)
    (refine step_ownG (R := EnumAt w) (B := V2.heap.size) (xs := []) (ys := p.enums) rfl _ _ rfl Tryz.underlying22 enum_info rfl (by decide) (by decide) enum_len enum_one rfl rfl (OwnG.nil _) (HE2.out.mono G0.out (fun _ _ h => h)) hle0 G0.out.size ?_
     intro v1 w1 ho1 hg1 hb1
     obtain ⟨Y1, rfl⟩ : ∃ W, W = w1 := ⟨_, rfl⟩
     obtain ⟨EA, em, ec, rfl, hm5⟩ := ho1.shape
     clear hm5
     have HOE := Lib.hid (show OwnG (EnumAt w) V2.heap.size 46 2 Y1 (.slice EA em ec) p.enums from ho1)
     have G1 := Lib.hid (G0.out.trans hb1)
     have GG1 := Lib.hid (below_grown (show Y0.grownBy Y1 none from hg1))
     obtain ⟨p0, p1⟩ := row2 (box_next G1.out BP2.out)
     clear ho1 hg1 hb1)
    refine hK.out _ _ ?_ (fun hHeld => ?_)
    · (try dsimp only); go_keep
    clear hK K
    try simp only [Act.put, List.setIfInBounds_toArray, List.set_cons_zero, List.set_cons_succ]
    have BQ2 := Lib.hid (box_next GG1.out BQ1.out)
    refine only_at 5 (by kernel_rfl) rfl (fun K hK => ?_)
    (refine step_ownG (R := NodeAt w) (B := V2.heap.size) (xs := []) (ys := p.nodes) rfl _ _ rfl Tryz.underlying23 node_info rfl (by decide) (by decide) node_len node_one rfl rfl (OwnG.nil _) (HN2.out.mono G1.out (fun _ _ h => h)) hln0 G1.out.size ?_
     intro v1 w1 ho1 hg1 hb1
     obtain ⟨Y3, rfl⟩ : ∃ W, W = w1 := ⟨_, rfl⟩
     obtain ⟨NA, nm, nc, rfl, hm5⟩ := ho1.shape
     clear hm5
     have HON := Lib.hid (show OwnG (NodeAt w) V2.heap.size 41 5 Y3 (.slice NA nm nc) p.nodes from ho1)
     have GG2 := Lib.hid (below_grown (show Y1.grownBy Y3 none from hg1))
     have G2 := Lib.hid (G1.out.trans hb1)
     have HOE2 := Lib.hid (HOE.out.under (GG2.out))
     obtain ⟨p0, p1⟩ := row2 (box_next G2.out BP2.out)
     clear ho1 hg1 hb1)
    refine hK.out _ _ ?_ (fun hHeld => ?_)
    · (try dsimp only); go_keep
    clear hK K
    try simp only [Act.put, List.setIfInBounds_toArray, List.set_cons_zero, List.set_cons_succ]
    refine take_at 6 (v := ?_) rfl (by kernel_rfl) (by kernel_rfl) (by kernel_rfl) (fun _ _ _ h => h) (by rfl) ?_ (by assumption) ?_
    rotate_left
    · intro w hSw; (try dsimp only at hSw); go_simp; (try rw [if_neg (by assumption)]); (try rw [if_pos (by omega)]); (try simp only [hSw]); (try with_reducible rfl)
    try simp only [Act.put, List.setIfInBounds_toArray, List.set_cons_zero, List.set_cons_succ]
    have BQ0 := Lib.hid (box_next GG2.out BQ2.out)
    have G3 := Lib.hid G2.out
    have HOE3 := Lib.hid HOE2.out
    have HON3 := Lib.hid HON.out
    obtain ⟨s0, s1⟩ := row2 BQ0.out
    have fq0 := row_frozen BQ0.out 0
    have fq1 := row_frozen BQ0.out 1
    have B5 := Lib.hid (show ((Y3.setCell ⟨V2.heap.size, 0, none⟩ (.slice EA em ec)).setCell ⟨V2.heap.size, 1, none⟩ (.slice NA nm nc)).heap[V2.heap.size]? = some (.cells #[.slice EA em ec, .slice NA nm nc] 25 (0, 0)) by
      have h1 := heap_setCell_same Y3 V2.heap.size 0 _ _ (.slice EA em ec) BQ0.out
      have h2 := heap_setCell_same _ V2.heap.size 1 _ _ (.slice NA nm nc) h1
      simpa using h2)
    have HCP := Lib.hid (show Copied w ((Y3.setCell ⟨V2.heap.size, 0, none⟩ (.slice EA em ec)).setCell ⟨V2.heap.size, 1, none⟩ (.slice NA nm nc)) p V2.heap.size V2.heap.size (.slice EA em ec) (.slice NA nm nc) from by
      have h1 := heap_setCell_same Y3 V2.heap.size 0 _ _ (.slice EA em ec) BQ0.out
      refine ⟨(((HB2.out.trans (G3.out.mono hVw)).setCell (p := ⟨V2.heap.size, 0, none⟩) (show w.heap.size ≤ V2.heap.size by omega) _).setCell (p := ⟨V2.heap.size, 1, none⟩) (show w.heap.size ≤ V2.heap.size by omega) _), B5.out, ?_, ?_, by omega, by omega⟩
      · exact (HOE3.out.setBox BQ0.out pe_ne _).setBox h1 pe_ne _
      · exact (HON3.out.setBox BQ0.out pn_ne _).setBox h1 pn_ne _)
    obtain ⟨p0, p1⟩ := row2 ((Below.heap_setCell (Y3.setCell ⟨V2.heap.size, 0, none⟩ (.slice EA em ec)) ⟨V2.heap.size, 1, none⟩ (.slice NA nm nc) w.heap.size (show w.heap.size ≠ V2.heap.size by omega)).trans ((Below.heap_setCell Y3 ⟨V2.heap.size, 0, none⟩ (.slice EA em ec) w.heap.size (show w.heap.size ≠ V2.heap.size by omega)).trans (box_next G3.out BP2.out)))
    refine only_at 8 (by kernel_rfl) rfl (fun K hK => ?_)
    go_simp
    refine hK.out _ _ ?_ (fun hHeld => ?_)
    · (try dsimp only); go_keep
    clear hK K
    refine wpAnyH_done (by kernel_rfl) ?_ _
    generalize (Y3.setCell ⟨V2.heap.size, 0, none⟩ (.slice EA em ec)).setCell ⟨V2.heap.size, 1, none⟩ (.slice NA nm nc) = Z at *
    have HZl := lt_of_heap HCP.out.box
    have HZb := HCP.out.big
    obtain ⟨s0, s1⟩ := row2 HCP.out.box
    obtain ⟨g, gcur, hgA, hgB, hBg⟩ := HCP.out.nodes.head (by rw [HPR.out]; simp)
    subst hgA
    have HGB := Lib.hid hgB
    have HNZ := HCP.out.nodes.at_
    obtain ⟨A5, c5, e5, hc5, hm5, he5⟩ := HNZ
    injection e5 with e51 e52 e53
    subst e51 e52 e53
    obtain ⟨L0, hE0, hN0⟩ := he5 0 n0 HN0.out
    have HNA0 := Lib.hid hN0
    obtain ⟨fv, iv, ov, xv, rfl, hnl0, hfu, hin, hou, hit⟩ := hN0
    have HFU := Lib.hid hfu
    have HIN := Lib.hid hin
    have HOU := Lib.hid hou
    have HNL0 := Lib.hid hnl0
    obtain ⟨zA1, zm1, zk1, rfl⟩ := SliceAt.shape hfu
    obtain ⟨zA2, zm2, zk2, rfl⟩ := SliceAt.shape hin
    obtain ⟨zA3, zm3, zk3, rfl⟩ := SliceAt.shape hou
    have HIT := Lib.hid hit
    obtain ⟨zA4, zk4, rfl, hxc, hxm, hxe⟩ := hit
    have hxl : n0.items.length ≤ 9223372036854775807 := by have h : n0.items.length ≤ zk4 := hxc; unfold maxLen at hxm; omega
    obtain ⟨zb, ezb, _, _, d0, d1, d2, d3, d4⟩ := elem5 hE0
    cases ezb
    simp only [Nat.zero_mul, add_zero] at d0 d1 d2 d3 d4
    have hpos : 0 < p.nodes.length := by omega
    have hgZ := lt_of_heap hgB
    clear hE0 he5 hc5 hm5 hgB hfu hin hou hnl0 hxc hxm
    by_cases hi0 : n0.items = []
    · have hdI : ((n0.items.length : Int) == 0) = true := by rw [hi0]; rfl
      clear hi0 hxe
      go_wp2_with fail
      go_ret
      exact ⟨rfl, HCP.out.below.alloc HCP.out.below.size _⟩
    · have hposI : 0 < n0.items.length := List.length_pos_iff.2 hi0
      have hdI : ((n0.items.length : Int) == 0) = false := beq_eq_false_iff_ne.2 (by omega)
      obtain ⟨i0, hii0⟩ : ∃ e, n0.items[0]? = some e := ⟨_, List.getElem?_eq_getElem hposI⟩
      have HI0 := Lib.hid hii0
      have hmemI := List.mem_of_getElem? hii0
      have HLD := Lib.hid (HDF.out n0 (List.mem_of_getElem? HN0.out) i0 hmemI)
      obtain ⟨M0, hF0, hM0⟩ := hxe 0 i0 hii0
      have HMA0 := Lib.hid hM0
      obtain ⟨y0, y1, y2, y3, y4, y5, y6, y7, y8, y9, y10, y11, y12, y13, y14, rfl⟩ := hM0.shape
      have HF0 := Lib.hid hF0
      have HZf := Lib.hid ((Below.refl Z.heap.size Z).alloc (Nat.le_refl _) (.cells #[.string (str n0.name), .slice zA1 zm1 zk1, .slice zA2 zm2 zk2, .slice zA3 zm3 zk3, .slice zA4 n0.items.length zk4] 41))
      have hBZf := Lib.hid (HCP.out.below.trans (HZf.out.mono HCP.out.below.size))
      have BF := Lib.hid (heap_alloc_new Z (.cells #[.string (str n0.name), .slice zA1 zm1 zk1, .slice zA2 zm2 zk2, .slice zA3 zm3 zk3, .slice zA4 n0.items.length zk4] 41))
      obtain ⟨yb, eyb, hybw, _, _, _, _, _, _, _, _⟩ := elem7 hF0
      subst eyb
      obtain ⟨yb', eyb', _, _, f0, f1, f2, f3, f4, f5, f6⟩ := elem7 (hF0.under hBZf.out)
      cases eyb'
      simp only [Nat.zero_mul, add_zero] at f0 f1 f2 f3 f4 f5 f6
      have HDEF := Lib.hid (rdefined_any HMA0.out HLD.out _ hBZf.out)
      clear hi0 hii0 hF0 hM0 hxe
      by_cases hdq : definedQ i0 = []
      · have HDQ := Lib.hid hdq
        clear hdq
        go_wp2_with (go_at_call 19
                     (with_reducible refine HDEF.out.mono ?_)
                     rintro e w8 ⟨v8, rfl, hs8, hb8⟩
                     obtain ⟨A8, k8, rfl, _⟩ := hs8
                     have hn8 : (((definedQ i0).length : Int) == 0) = true := by rw [HDQ.out]; rfl
                     have HB8 := Lib.hid (hBZf.out.trans (hb8.mono hBZf.out.size))
                     clear hb8)
        go_ret
        exact ⟨rfl, HB8.out⟩
      · have HDQ := Lib.hid hdq
        clear hdq
        have HBAD := Lib.hid (HTW.out n0 r HPR.out i0 hmemI HDQ.out)
        have HFW1 := Lib.hid (HFW.out n0 (List.mem_of_getElem? HN0.out) i0 hmemI)
        have HIL1 := Lib.hid (HIL.out n0 (List.mem_of_getElem? HN0.out))
        clear hmemI
        go_wp2_with (go_at_call 19
                     (with_reducible refine HDEF.out.mono ?_)
                     rintro e w8 ⟨v8, rfl, hs8, hb8⟩
                     obtain ⟨A8, k8, rfl, _⟩ := hs8
                     have hn8 : (((definedQ i0).length : Int) == 0) = false := beq_eq_false_iff_ne.2 (by have := List.length_pos_iff.2 HDQ.out; omega)
                     obtain ⟨D, rfl⟩ : ∃ W, W = w8 := ⟨_, rfl⟩
                     have HZD := Lib.hid (HZf.out.trans (hb8.mono HZf.out.size))
                     have HBD := Lib.hid (hBZf.out.trans (hb8.mono hBZf.out.size))
                     have BFD := Lib.hid (box_next hb8 BF.out)
                     clear hb8)
        have BQD := Lib.hid (box_next HZD.out HCP.out.box)
        have HGD := Lib.hid (box_next HZD.out HGB.out)
        obtain ⟨s0, s1⟩ := row2 BQD.out
        obtain ⟨_, _, _, _, fb4⟩ := row5 BFD.out
        obtain ⟨yb', eyb', _, _, f0, f1, f2, f3, f4, f5, f6⟩ := elem7 (HF0.out.under HBD.out)
        cases eyb'
        simp only [Nat.zero_mul, add_zero] at f0 f1 f2 f3 f4 f5 f6
        have gl : ∀ k, (⟨g, k, none⟩ : Addr).block < Z.heap.size := fun _ => hgZ
        have d4D := (HZD.out.cell (p := ⟨g, 4, none⟩) (gl 4)).trans d4
        have hDl := HBD.out.size
        have hDZ := HZD.out.size
        have hgD : g < D.heap.size := by omega
        have hQD : V2.heap.size < D.heap.size := by omega
        have hgQ : g ≠ V2.heap.size := fun e => by
          have h1 := HGB.out
          rw [e, HCP.out.box] at h1
          injection h1 with h1
          injection h1 with _ ht
          exact pn_ne ht
        have hyl := World.block_lt_of_cell? D _ f0
        have hFl := lt_of_heap BFD.out
        have hZF : Z.heap.size ≠ g := by omega
        have hil0 : ([] : List QItem).length + n0.items.length ≤ 4194304 := by have := HIL1.out; simp; omega
        have hil1 : n0.items.length + [i0].length ≤ 4194304 := by have := HIL1.out; simp; omega
        refine wp_region_held_drew (S := (fun W => W.cell? ⟨V2.heap.size, 1, none⟩ = some (.slice (some ⟨g, 0, none⟩) p.nodes.length nc) ∧ W.cell? ⟨Z.heap.size, 4, none⟩ = some (.slice (some yb) n0.items.length zk4) ∧ W.cell? yb = some (.slice y0 y1 y2) ∧ W.cell? { block := yb.block, off := yb.off + 1 } = some (.int .i64 y3) ∧ W.cell? { block := yb.block, off := yb.off + 2 } = some (.string y4) ∧ W.cell? { block := yb.block, off := yb.off + 3 } = some (.int .i64 y5) ∧ W.cell? { block := yb.block, off := yb.off + 4 } = some (.slice y6 y7 y8) ∧ W.cell? { block := yb.block, off := yb.off + 5 } = some (.slice y9 y10 y11) ∧ W.cell? { block := yb.block, off := yb.off + 6 } = some (.slice y12 y13 y14))) (by kernel_rfl) ?_ (fun hHeld => ?_)
        · (try dsimp only); go_keep
        refine take_at 0 (v := ?_) rfl (by kernel_rfl) (by kernel_rfl) (by kernel_rfl) (fun _ _ _ h => h) (by rfl) ?_ (by assumption) ?_
        rotate_left
        · intro w hSw; (try dsimp only at hSw); go_simp; (try rw [if_neg (by assumption)]); (try rw [if_pos (by omega)]); (try simp only [hSw]); (try with_reducible rfl)
        try simp only [Act.put, List.setIfInBounds_toArray, List.set_cons_zero, List.set_cons_succ]
        refine take_at 1 (v := ?_) rfl (by kernel_rfl) (by kernel_rfl) (by kernel_rfl) (fun _ _ _ h => h) (by rfl) ?_ (by assumption) ?_
        rotate_left
        · intro w hSw; (try dsimp only at hSw); go_simp; (try rw [if_neg (by assumption)]); (try rw [if_pos (by omega)]); (try simp only [hSw]); (try with_reducible rfl)
        try simp only [Act.put, List.setIfInBounds_toArray, List.set_cons_zero, List.set_cons_succ]
        refine take_at 2 (v := ?_) rfl (by kernel_rfl) (by kernel_rfl) (by kernel_rfl) (fun _ _ _ h => h) (by rfl) ?_ (by assumption) ?_
        rotate_left
        · intro w hSw; (try dsimp only at hSw); go_simp; (try rw [if_neg (by assumption)]); (try rw [if_pos (by omega)]); (try simp only [hSw]); (try with_reducible rfl)
        try simp only [Act.put, List.setIfInBounds_toArray, List.set_cons_zero, List.set_cons_succ]
        refine take_at 3 (v := ?_) rfl (by kernel_rfl) (by kernel_rfl) (by kernel_rfl) (fun _ _ _ h => h) (by rfl) ?_ (by assumption) ?_
        rotate_left
        · intro w hSw; (try dsimp only at hSw); go_simp; (try rw [if_neg (by assumption)]); (try rw [if_pos (by omega)]); (try simp only [hSw]); (try with_reducible rfl)
        try simp only [Act.put, List.setIfInBounds_toArray, List.set_cons_zero, List.set_cons_succ]
        refine take_at 5 (v := ?_) rfl (by kernel_rfl) (by kernel_rfl) (by kernel_rfl) (fun _ _ _ h => h) (by rfl) ?_ (by assumption) ?_
        rotate_left
        · intro w hSw; (try dsimp only at hSw); go_simp; (try rw [if_neg (by assumption)]); (try rw [if_pos (by omega)]); (try simp only [hSw]); (try with_reducible rfl)
        try simp only [Act.put, List.setIfInBounds_toArray, List.set_cons_zero, List.set_cons_succ]
        refine take_at 6 (v := ?_) rfl (by kernel_rfl) (by kernel_rfl) (by kernel_rfl) (fun _ _ _ h => h) (by rfl) ?_ (by assumption) ?_
        rotate_left
        · intro w hSw; (try dsimp only at hSw); go_simp; (try rw [if_neg (by assumption)]); (try rw [if_pos (by omega)]); (try simp only [hSw]); (try with_reducible rfl)
        try simp only [Act.put, List.setIfInBounds_toArray, List.set_cons_zero, List.set_cons_succ]
        refine take_at 7 (v := ?_) rfl (by kernel_rfl) (by kernel_rfl) (by kernel_rfl) (fun _ _ _ h => h) (by rfl) ?_ (by assumption) ?_
        rotate_left
        · intro w hSw; (try dsimp only at hSw); go_simp; (try rw [if_neg (by assumption)]); (try rw [if_pos (by omega)]); (try simp only [hSw]); (try with_reducible rfl)
        try simp only [Act.put, List.setIfInBounds_toArray, List.set_cons_zero, List.set_cons_succ]
        refine take_at 8 (v := ?_) rfl (by kernel_rfl) (by kernel_rfl) (by kernel_rfl) (fun _ _ _ h => h) (by rfl) ?_ (by assumption) ?_
        rotate_left
        · intro w hSw; (try dsimp only at hSw); go_simp; (try rw [if_neg (by assumption)]); (try rw [if_pos (by omega)]); (try simp only [hSw]); (try with_reducible rfl)
        try simp only [Act.put, List.setIfInBounds_toArray, List.set_cons_zero, List.set_cons_succ]
        refine wpAnyH_ready (rs := [4, 9]) (by kernel_rfl) (by simp) (cons_at 4 rfl (fun K hK => ?_) (cons_at 9 rfl (fun K hK => ?_) AllReadyH.nil))
        · skip
          (refine step_ownG (R := ItemAt w) (B := D.heap.size) (xs := []) (ys := n0.items) rfl _ _ rfl Tryz.underlying39 item_info rfl (by decide) (by decide) item_len item_one rfl rfl (OwnG.nil _) (HIT.out.mono HBD.out.drew (fun _ _ h => h)) hil0 (Nat.le_refl _) ?_
           intro v1 w1 ho1 hg1 hb1
           obtain ⟨Y1, rfl⟩ : ∃ W, W = w1 := ⟨_, rfl⟩
           obtain ⟨A5, m5, c5, rfl, hm5⟩ := ho1.shape
           clear hm5
           have HO1 := Lib.hid (show OwnG (ItemAt w) D.heap.size 55 7 Y1 (.slice A5 m5 c5) n0.items from ho1)
           have G1 := Lib.hid ((Below.refl D.heap.size D).drew.trans hb1)
           obtain ⟨_, s1⟩ := row2 (box_next G1.out BQD.out)
           obtain ⟨_, _, _, _, fb4⟩ := row5 (box_next G1.out BFD.out)
           obtain ⟨yb', eyb', _, _, f0, f1, f2, f3, f4, f5, f6⟩ := elem7 (HF0.out.under (HBD.out.trans (G1.out.mono hDl)))
           cases eyb'
           simp only [Nat.zero_mul, add_zero] at f0 f1 f2 f3 f4 f5 f6
           clear ho1 hg1 hb1)
          refine hK.out _ _ ?_ (fun hHeld => ?_)
          · (try dsimp only); go_keep
          clear hK K
          try simp only [Act.put, List.setIfInBounds_toArray, List.set_cons_zero, List.set_cons_succ]
          refine only_at 9 (by kernel_rfl) rfl (fun K hK => ?_)
          go_simp
          refine hK.out _ _ ?_ (fun hHeld => ?_)
          · (try dsimp only); go_keep
          clear hK K
          try simp only [Act.put, List.setIfInBounds_toArray, List.set_cons_zero, List.set_cons_succ]
          have BX := Lib.hid (heap_alloc_new Y1 (.cells #[.slice y0 y1 y2, .int .i64 y3, .string y4, .int .i64 y5, .slice y6 y7 y8, .slice y9 y10 y11, .slice y12 y13 y14] 55))
          have G2 := Lib.hid (G1.out.alloc G1.out.size (.cells #[.slice y0 y1 y2, .int .i64 y3, .string y4, .int .i64 y5, .slice y6 y7 y8, .slice y9 y10 y11, .slice y12 y13 y14] 55))
          have HO2 := Lib.hid (HO1.out.under ((Below.refl Y1.heap.size Y1).alloc (Nat.le_refl _) (.cells #[.slice y0 y1 y2, .int .i64 y3, .string y4, .int .i64 y5, .slice y6 y7 y8, .slice y9 y10 y11, .slice y12 y13 y14] 55)))
          generalize Y1.alloc (.cells #[.slice y0 y1 y2, .int .i64 y3, .string y4, .int .i64 y5, .slice y6 y7 y8, .slice y9 y10 y11, .slice y12 y13 y14] 55) = Y2 at *
          obtain ⟨_, s1⟩ := row2 (box_next G2.out BQD.out)
          obtain ⟨_, _, _, _, fb4⟩ := row5 (box_next G2.out BFD.out)
          obtain ⟨yb', eyb', _, _, f0, f1, f2, f3, f4, f5, f6⟩ := elem7 (HF0.out.under (HBD.out.trans (G2.out.mono hDl)))
          cases eyb'
          simp only [Nat.zero_mul, add_zero] at f0 f1 f2 f3 f4 f5 f6
          refine only_at 10 (by kernel_rfl) rfl (fun K hK => ?_)
          (refine step_ownG (R := ItemAt w) (B := D.heap.size) (xs := n0.items) (ys := [i0]) rfl _ _ rfl Tryz.underlying39 item_info rfl (by decide) (by decide) item_len item_one rfl rfl HO2.out (made1 BX.out HMA0.out rfl) hil1 G2.out.size ?_
           intro v3 w3 ho3 _ hb3
           obtain ⟨Y3, rfl⟩ : ∃ W, W = w3 := ⟨_, rfl⟩
           obtain ⟨A6, m6, c6, rfl, hm6⟩ := ho3.shape
           clear hm6
           have HO3 := Lib.hid ho3
           have G3 := Lib.hid (G2.out.trans hb3)
           obtain ⟨_, s1⟩ := row2 (box_next G3.out BQD.out)
           obtain ⟨_, _, _, _, fb4⟩ := row5 (box_next G3.out BFD.out)
           obtain ⟨yb', eyb', _, _, f0, f1, f2, f3, f4, f5, f6⟩ := elem7 (HF0.out.under (HBD.out.trans (G3.out.mono hDl)))
           cases eyb'
           simp only [Nat.zero_mul, add_zero] at f0 f1 f2 f3 f4 f5 f6
           have HG3 := Lib.hid (box_next G3.out HGD.out)
           have d43 := (G3.out.cell (p := ⟨g, 4, none⟩) hgD).trans d4D
           have fq := row_frozen HG3.out 4
           clear ho3 hb3)
          refine hK.out _ _ ?_ (fun hHeld => ?_)
          · (try dsimp only); go_keep
          clear hK K
          try simp only [Act.put, List.setIfInBounds_toArray, List.set_cons_zero, List.set_cons_succ]
          refine take_at 11 (v := ?_) rfl (by kernel_rfl) (by kernel_rfl) (by kernel_rfl) (fun _ _ _ h => h) (by rfl) ?_ (by assumption) ?_
          rotate_left
          · intro w hSw; (try dsimp only at hSw); go_simp; (try rw [if_neg (by assumption)]); (try rw [if_pos (by omega)]); (try simp only [hSw]); (try with_reducible rfl)
          try simp only [Act.put, List.setIfInBounds_toArray, List.set_cons_zero, List.set_cons_succ]
          refine take_at 12 (v := ?_) rfl (by kernel_rfl) (by kernel_rfl) (by kernel_rfl) (fun _ _ _ h => h) (by rfl) ?_ (by assumption) ?_
          rotate_left
          · intro w hSw; (try dsimp only at hSw); go_simp; (try rw [if_neg (by assumption)]); (try rw [if_pos (by omega)]); (try simp only [hSw]); (try with_reducible rfl)
          try simp only [Act.put, List.setIfInBounds_toArray, List.set_cons_zero, List.set_cons_succ]
          have BQ5 := Lib.hid ((Below.heap_setCell Y3 ⟨g, 4, none⟩ (.slice A6 m6 c6) V2.heap.size (fun e => hgQ e.symm)).trans (box_next G3.out BQD.out))
          have BF5 := (Below.heap_setCell Y3 ⟨g, 4, none⟩ (.slice A6 m6 c6) Z.heap.size hZF).trans (box_next G3.out BFD.out)
          obtain ⟨s0', s1'⟩ := row2 BQ5.out
          obtain ⟨_, _, _, _, fb4'⟩ := row5 BF5
          have f0' := cell_set_ne (q := ⟨g, 4, none⟩) (u := .slice A6 m6 c6) (show yb.block ≠ g by omega) f0
          have f1' := cell_set_ne (p := ⟨yb.block, yb.off + 1, none⟩) (q := ⟨g, 4, none⟩) (u := .slice A6 m6 c6) (show yb.block ≠ g by omega) f1
          have f2' := cell_set_ne (p := ⟨yb.block, yb.off + 2, none⟩) (q := ⟨g, 4, none⟩) (u := .slice A6 m6 c6) (show yb.block ≠ g by omega) f2
          have f3' := cell_set_ne (p := ⟨yb.block, yb.off + 3, none⟩) (q := ⟨g, 4, none⟩) (u := .slice A6 m6 c6) (show yb.block ≠ g by omega) f3
          have f4' := cell_set_ne (p := ⟨yb.block, yb.off + 4, none⟩) (q := ⟨g, 4, none⟩) (u := .slice A6 m6 c6) (show yb.block ≠ g by omega) f4
          have f5' := cell_set_ne (p := ⟨yb.block, yb.off + 5, none⟩) (q := ⟨g, 4, none⟩) (u := .slice A6 m6 c6) (show yb.block ≠ g by omega) f5
          have f6' := cell_set_ne (p := ⟨yb.block, yb.off + 6, none⟩) (q := ⟨g, 4, none⟩) (u := .slice A6 m6 c6) (show yb.block ≠ g by omega) f6
          refine only_at 13 (by kernel_rfl) rfl (fun K hK => ?_)
          go_simp
          refine hK.out _ _ ?_ (fun hHeld => ?_)
          · (try dsimp only); go_keep
          clear hK K
          refine wpAnyH_done (by kernel_rfl) ?_ _
          have HB5 := Lib.hid ((HBD.out.trans (G3.out.mono hDl)).setCell (p := ⟨g, 4, none⟩) (show w.heap.size ≤ g by omega) (.slice A6 m6 c6))
          have HOI5 := Lib.hid (HO3.out.setBox (j := 4) HG3.out ni_ne (.slice A6 m6 c6)).at_
          have HOE5 := Lib.hid (((HCP.out.enums.under HZD.out).under G3.out).setBox (j := 4) HG3.out ne_ne (.slice A6 m6 c6)).at_
          have HNS := Lib.hid ((HCP.out.nodes.under HZD.out).under G3.out).at_
          have c03 := (G3.out.cell (p := ⟨g, 0, none⟩) hgD).trans ((HZD.out.cell (p := ⟨g, 0, none⟩) (gl 0)).trans d0)
          have c13 := (G3.out.cell (p := ⟨g, 1, none⟩) hgD).trans ((HZD.out.cell (p := ⟨g, 1, none⟩) (gl 1)).trans d1)
          have c23 := (G3.out.cell (p := ⟨g, 2, none⟩) hgD).trans ((HZD.out.cell (p := ⟨g, 2, none⟩) (gl 2)).trans d2)
          have c33 := (G3.out.cell (p := ⟨g, 3, none⟩) hgD).trans ((HZD.out.cell (p := ⟨g, 3, none⟩) (gl 3)).trans d3)
          have HPs := Lib.hid (show ProgAt (Y3.setCell ⟨g, 4, none⟩ (.slice A6 m6 c6)) [.slice EA em ec, .slice (some ⟨g, 0, none⟩) p.nodes.length nc] ⟨p.enums, { n0 with items := n0.items ++ [i0] } :: r⟩ from by
            refine ⟨_, _, rfl, SliceAt.mono HOE5.out (Below.refl _ _) (fun _ _ h => h.under HB5.out), ?_⟩
            have h1 := HNS.out
            rw [HPR.out] at h1 ⊢
            exact nodes_set h1 c03 c13 c23 c33 d43 ⟨_, _, _, _, rfl, HNL0.out, HFU.out.under HB5.out, HIN.out.under HB5.out, HOU.out.under HB5.out, SliceAt.mono HOI5.out (Below.refl _ _) (fun _ _ h => h.under HB5.out)⟩ (fun _ _ h => h.under HB5.out))
          clear f0 f1 f2 f3 f4 f5 f6 f0' f1' f2' f3' f4' f5' f6' fb4 fb4' c03 c13 c23 c33 d43 fq s1 BF5
          generalize Y3.setCell ⟨g, 4, none⟩ (.slice A6 m6 c6) = Y5 at *
          have HFEW := Lib.hid (show ∀ x ∈ (⟨p.enums, { n0 with items := n0.items ++ [i0] } :: r⟩ : QProg).nodes, (nodeX x).length ≤ 1048576 from (fun x hx => by
            rcases List.mem_cons.1 hx with rfl | hx
            · exact HFW1.out
            · exact HQ.out x (by rw [HPR.out]; exact List.mem_cons_of_mem _ hx)))
          have HCK6 := Lib.hid (check_any true HPs.out HFEW.out)
          have HRR6 := Lib.hid (rRight_any true HPs.out HFEW.out)
          have HB6 := Lib.hid (HB5.out)
          have BQ6 := Lib.hid (BQ5.out)
          by_cases h4 : (checkQ true ⟨p.enums, { n0 with items := n0.items ++ [i0] } :: r⟩).1 = 4
          · have H4 := Lib.hid h4
            clear h4
            go_wp2_with (first
              | (go_at_call 10
                 (with_reducible refine (HCK6.out _ (Below.refl _ _)).mono ?_)
                 rintro e w8 ⟨he, hb8⟩
                 rw [H4.out] at he
                 subst he
                 obtain ⟨Y8, rfl⟩ : ∃ W, W = w8 := ⟨_, rfl⟩
                 have HB8 := Lib.hid (HB6.out.trans (hb8.mono HB6.out.size))
                 clear hb8))
            go_ret
            exact ⟨rfl, HB8.out.alloc HB8.out.size _⟩
          · have hrn := HBAD.out.resolve_left h4
            have hd4 : ((checkQ true ⟨p.enums, { n0 with items := n0.items ++ [i0] } :: r⟩).1 == 4) = false := beq_eq_false_iff_ne.2 h4
            have hdn : ((checkQ true ⟨p.enums, { n0 with items := n0.items ++ [i0] } :: r⟩).1 != 0) = true := bne_iff_ne.2 hrn.2
            have hdr : (rightL true ⟨p.enums, { n0 with items := n0.items ++ [i0] } :: r⟩ != 0) = true := bne_iff_ne.2 hrn.1
            clear h4 hrn
            go_wp2_with (first
              | (go_at_call 10
                 (with_reducible refine (HCK6.out _ (Below.refl _ _)).mono ?_)
                 rintro e w8 ⟨he, hb8⟩
                 subst he
                 obtain ⟨Y8, rfl⟩ : ∃ W, W = w8 := ⟨_, rfl⟩
                 have HB8 := Lib.hid (HB6.out.trans (hb8.mono HB6.out.size))
                 have H68 := Lib.hid hb8
                 obtain ⟨_, _⟩ := row2 (alloc_below (o := .cells #[.int .i64 (checkQ true ⟨p.enums, { n0 with items := n0.items ++ [i0] } :: r⟩).1, .int .i64 (checkQ true ⟨p.enums, { n0 with items := n0.items ++ [i0] } :: r⟩).2.1, .int .i64 (checkQ true ⟨p.enums, { n0 with items := n0.items ++ [i0] } :: r⟩).2.2] 29) (box_next hb8 BQ6.out))
                 clear hb8)
              | (go_at_call 20
                 (with_reducible refine (HRR6.out _ (H68.out.alloc H68.out.size _)).mono ?_)
                 rintro e w9 ⟨rfl, hb9⟩
                 obtain ⟨Y9, rfl⟩ : ∃ W, W = w9 := ⟨_, rfl⟩
                 have HB9 := Lib.hid ((HB8.out.alloc HB8.out.size (.cells #[.int .i64 (checkQ true ⟨p.enums, { n0 with items := n0.items ++ [i0] } :: r⟩).1, .int .i64 (checkQ true ⟨p.enums, { n0 with items := n0.items ++ [i0] } :: r⟩).2.1, .int .i64 (checkQ true ⟨p.enums, { n0 with items := n0.items ++ [i0] } :: r⟩).2.2] 29)).trans (hb9.mono (by have := HB8.out.size; simp; omega)))
                 obtain ⟨_, _, _⟩ := row3 (box_next hb9 (heap_alloc_new Y8 (.cells #[.int .i64 (checkQ true ⟨p.enums, { n0 with items := n0.items ++ [i0] } :: r⟩).1, .int .i64 (checkQ true ⟨p.enums, { n0 with items := n0.items ++ [i0] } :: r⟩).2.1, .int .i64 (checkQ true ⟨p.enums, { n0 with items := n0.items ++ [i0] } :: r⟩).2.2] 29)))
                 clear hb9))
            go_ret
            exact ⟨rfl, HB9.out⟩
        · skip
          go_simp
          refine hK.out _ _ ?_ (fun hHeld => ?_)
          · (try dsimp only); go_keep
          clear hK K
          try simp only [Act.put, List.setIfInBounds_toArray, List.set_cons_zero, List.set_cons_succ]
          have BX0 := Lib.hid (show (D.alloc (.cells #[.slice y0 y1 y2, .int .i64 y3, .string y4, .int .i64 y5, .slice y6 y7 y8, .slice y9 y10 y11, .slice y12 y13 y14] 55)).drew.heap[D.heap.size]? = some (.cells #[.slice y0 y1 y2, .int .i64 y3, .string y4, .int .i64 y5, .slice y6 y7 y8, .slice y9 y10 y11, .slice y12 y13 y14] 55 (0, 0)) from heap_alloc_new D (.cells #[.slice y0 y1 y2, .int .i64 y3, .string y4, .int .i64 y5, .slice y6 y7 y8, .slice y9 y10 y11, .slice y12 y13 y14] 55))
          have G2 := Lib.hid ((Below.refl D.heap.size D).alloc (Nat.le_refl _) (.cells #[.slice y0 y1 y2, .int .i64 y3, .string y4, .int .i64 y5, .slice y6 y7 y8, .slice y9 y10 y11, .slice y12 y13 y14] 55)).drew
          generalize (D.alloc (.cells #[.slice y0 y1 y2, .int .i64 y3, .string y4, .int .i64 y5, .slice y6 y7 y8, .slice y9 y10 y11, .slice y12 y13 y14] 55)).drew = Y2 at *
          obtain ⟨_, s1⟩ := row2 (box_next G2.out BQD.out)
          obtain ⟨_, _, _, _, fb4⟩ := row5 (box_next G2.out BFD.out)
          obtain ⟨yb', eyb', _, _, f0, f1, f2, f3, f4, f5, f6⟩ := elem7 (HF0.out.under (HBD.out.trans (G2.out.mono hDl)))
          cases eyb'
          simp only [Nat.zero_mul, add_zero] at f0 f1 f2 f3 f4 f5 f6
          refine only_at 4 (by kernel_rfl) rfl (fun K hK => ?_)
          (refine step_ownG (R := ItemAt w) (B := D.heap.size) (xs := []) (ys := n0.items) rfl _ _ rfl Tryz.underlying39 item_info rfl (by decide) (by decide) item_len item_one rfl rfl (OwnG.nil _) (HIT.out.mono (HBD.out.trans (G2.out.mono hDl)) (fun _ _ h => h)) hil0 G2.out.size ?_
           intro v1 w1 ho1 hg1 hb1
           obtain ⟨Y1, rfl⟩ : ∃ W, W = w1 := ⟨_, rfl⟩
           obtain ⟨A5, m5, c5, rfl, hm5⟩ := ho1.shape
           clear hm5
           have HO1 := Lib.hid (show OwnG (ItemAt w) D.heap.size 55 7 Y1 (.slice A5 m5 c5) n0.items from ho1)
           have G1 := Lib.hid (G2.out.trans hb1)
           have BX := Lib.hid (box_next (below_grown (show Y2.grownBy Y1 none from hg1)) BX0.out)
           obtain ⟨_, s1⟩ := row2 (box_next G1.out BQD.out)
           obtain ⟨_, _, _, _, fb4⟩ := row5 (box_next G1.out BFD.out)
           obtain ⟨yb', eyb', _, _, f0, f1, f2, f3, f4, f5, f6⟩ := elem7 (HF0.out.under (HBD.out.trans (G1.out.mono hDl)))
           cases eyb'
           simp only [Nat.zero_mul, add_zero] at f0 f1 f2 f3 f4 f5 f6
           clear ho1 hg1 hb1)
          refine hK.out _ _ ?_ (fun hHeld => ?_)
          · (try dsimp only); go_keep
          clear hK K
          try simp only [Act.put, List.setIfInBounds_toArray, List.set_cons_zero, List.set_cons_succ]
          refine only_at 10 (by kernel_rfl) rfl (fun K hK => ?_)
          (refine step_ownG (R := ItemAt w) (B := D.heap.size) (xs := n0.items) (ys := [i0]) rfl _ _ rfl Tryz.underlying39 item_info rfl (by decide) (by decide) item_len item_one rfl rfl HO1.out (made1 BX.out HMA0.out rfl) hil1 G1.out.size ?_
           intro v3 w3 ho3 _ hb3
           obtain ⟨Y3, rfl⟩ : ∃ W, W = w3 := ⟨_, rfl⟩
           obtain ⟨A6, m6, c6, rfl, hm6⟩ := ho3.shape
           clear hm6
           have HO3 := Lib.hid ho3
           have G3 := Lib.hid (G1.out.trans hb3)
           obtain ⟨_, s1⟩ := row2 (box_next G3.out BQD.out)
           obtain ⟨_, _, _, _, fb4⟩ := row5 (box_next G3.out BFD.out)
           obtain ⟨yb', eyb', _, _, f0, f1, f2, f3, f4, f5, f6⟩ := elem7 (HF0.out.under (HBD.out.trans (G3.out.mono hDl)))
           cases eyb'
           simp only [Nat.zero_mul, add_zero] at f0 f1 f2 f3 f4 f5 f6
           have HG3 := Lib.hid (box_next G3.out HGD.out)
           have d43 := (G3.out.cell (p := ⟨g, 4, none⟩) hgD).trans d4D
           have fq := row_frozen HG3.out 4
           clear ho3 hb3)
          refine hK.out _ _ ?_ (fun hHeld => ?_)
          · (try dsimp only); go_keep
          clear hK K
          try simp only [Act.put, List.setIfInBounds_toArray, List.set_cons_zero, List.set_cons_succ]
          refine take_at 11 (v := ?_) rfl (by kernel_rfl) (by kernel_rfl) (by kernel_rfl) (fun _ _ _ h => h) (by rfl) ?_ (by assumption) ?_
          rotate_left
          · intro w hSw; (try dsimp only at hSw); go_simp; (try rw [if_neg (by assumption)]); (try rw [if_pos (by omega)]); (try simp only [hSw]); (try with_reducible rfl)
          try simp only [Act.put, List.setIfInBounds_toArray, List.set_cons_zero, List.set_cons_succ]
          refine take_at 12 (v := ?_) rfl (by kernel_rfl) (by kernel_rfl) (by kernel_rfl) (fun _ _ _ h => h) (by rfl) ?_ (by assumption) ?_
          rotate_left
          · intro w hSw; (try dsimp only at hSw); go_simp; (try rw [if_neg (by assumption)]); (try rw [if_pos (by omega)]); (try simp only [hSw]); (try with_reducible rfl)
          try simp only [Act.put, List.setIfInBounds_toArray, List.set_cons_zero, List.set_cons_succ]
          have BQ5 := Lib.hid ((Below.heap_setCell Y3 ⟨g, 4, none⟩ (.slice A6 m6 c6) V2.heap.size (fun e => hgQ e.symm)).trans (box_next G3.out BQD.out))
          have BF5 := (Below.heap_setCell Y3 ⟨g, 4, none⟩ (.slice A6 m6 c6) Z.heap.size hZF).trans (box_next G3.out BFD.out)
          obtain ⟨s0', s1'⟩ := row2 BQ5.out
          obtain ⟨_, _, _, _, fb4'⟩ := row5 BF5
          have f0' := cell_set_ne (q := ⟨g, 4, none⟩) (u := .slice A6 m6 c6) (show yb.block ≠ g by omega) f0
          have f1' := cell_set_ne (p := ⟨yb.block, yb.off + 1, none⟩) (q := ⟨g, 4, none⟩) (u := .slice A6 m6 c6) (show yb.block ≠ g by omega) f1
          have f2' := cell_set_ne (p := ⟨yb.block, yb.off + 2, none⟩) (q := ⟨g, 4, none⟩) (u := .slice A6 m6 c6) (show yb.block ≠ g by omega) f2
          have f3' := cell_set_ne (p := ⟨yb.block, yb.off + 3, none⟩) (q := ⟨g, 4, none⟩) (u := .slice A6 m6 c6) (show yb.block ≠ g by omega) f3
          have f4' := cell_set_ne (p := ⟨yb.block, yb.off + 4, none⟩) (q := ⟨g, 4, none⟩) (u := .slice A6 m6 c6) (show yb.block ≠ g by omega) f4
          have f5' := cell_set_ne (p := ⟨yb.block, yb.off + 5, none⟩) (q := ⟨g, 4, none⟩) (u := .slice A6 m6 c6) (show yb.block ≠ g by omega) f5
          have f6' := cell_set_ne (p := ⟨yb.block, yb.off + 6, none⟩) (q := ⟨g, 4, none⟩) (u := .slice A6 m6 c6) (show yb.block ≠ g by omega) f6
          refine only_at 13 (by kernel_rfl) rfl (fun K hK => ?_)
          go_simp
          refine hK.out _ _ ?_ (fun hHeld => ?_)
          · (try dsimp only); go_keep
          clear hK K
          refine wpAnyH_done (by kernel_rfl) ?_ _
          have HB5 := Lib.hid ((HBD.out.trans (G3.out.mono hDl)).setCell (p := ⟨g, 4, none⟩) (show w.heap.size ≤ g by omega) (.slice A6 m6 c6))
          have HOI5 := Lib.hid (HO3.out.setBox (j := 4) HG3.out ni_ne (.slice A6 m6 c6)).at_
          have HOE5 := Lib.hid (((HCP.out.enums.under HZD.out).under G3.out).setBox (j := 4) HG3.out ne_ne (.slice A6 m6 c6)).at_
          have HNS := Lib.hid ((HCP.out.nodes.under HZD.out).under G3.out).at_
          have c03 := (G3.out.cell (p := ⟨g, 0, none⟩) hgD).trans ((HZD.out.cell (p := ⟨g, 0, none⟩) (gl 0)).trans d0)
          have c13 := (G3.out.cell (p := ⟨g, 1, none⟩) hgD).trans ((HZD.out.cell (p := ⟨g, 1, none⟩) (gl 1)).trans d1)
          have c23 := (G3.out.cell (p := ⟨g, 2, none⟩) hgD).trans ((HZD.out.cell (p := ⟨g, 2, none⟩) (gl 2)).trans d2)
          have c33 := (G3.out.cell (p := ⟨g, 3, none⟩) hgD).trans ((HZD.out.cell (p := ⟨g, 3, none⟩) (gl 3)).trans d3)
          have HPs := Lib.hid (show ProgAt (Y3.setCell ⟨g, 4, none⟩ (.slice A6 m6 c6)) [.slice EA em ec, .slice (some ⟨g, 0, none⟩) p.nodes.length nc] ⟨p.enums, { n0 with items := n0.items ++ [i0] } :: r⟩ from by
            refine ⟨_, _, rfl, SliceAt.mono HOE5.out (Below.refl _ _) (fun _ _ h => h.under HB5.out), ?_⟩
            have h1 := HNS.out
            rw [HPR.out] at h1 ⊢
            exact nodes_set h1 c03 c13 c23 c33 d43 ⟨_, _, _, _, rfl, HNL0.out, HFU.out.under HB5.out, HIN.out.under HB5.out, HOU.out.under HB5.out, SliceAt.mono HOI5.out (Below.refl _ _) (fun _ _ h => h.under HB5.out)⟩ (fun _ _ h => h.under HB5.out))
          clear f0 f1 f2 f3 f4 f5 f6 f0' f1' f2' f3' f4' f5' f6' fb4 fb4' c03 c13 c23 c33 d43 fq s1 BF5
          generalize Y3.setCell ⟨g, 4, none⟩ (.slice A6 m6 c6) = Y5 at *
          have HFEW := Lib.hid (show ∀ x ∈ (⟨p.enums, { n0 with items := n0.items ++ [i0] } :: r⟩ : QProg).nodes, (nodeX x).length ≤ 1048576 from (fun x hx => by
            rcases List.mem_cons.1 hx with rfl | hx
            · exact HFW1.out
            · exact HQ.out x (by rw [HPR.out]; exact List.mem_cons_of_mem _ hx)))
          have HCK6 := Lib.hid (check_any true HPs.out HFEW.out)
          have HRR6 := Lib.hid (rRight_any true HPs.out HFEW.out)
          have HB6 := Lib.hid (HB5.out)
          have BQ6 := Lib.hid (BQ5.out)
          by_cases h4 : (checkQ true ⟨p.enums, { n0 with items := n0.items ++ [i0] } :: r⟩).1 = 4
          · have H4 := Lib.hid h4
            clear h4
            go_wp2_with (first
              | (go_at_call 10
                 (with_reducible refine (HCK6.out _ (Below.refl _ _)).mono ?_)
                 rintro e w8 ⟨he, hb8⟩
                 rw [H4.out] at he
                 subst he
                 obtain ⟨Y8, rfl⟩ : ∃ W, W = w8 := ⟨_, rfl⟩
                 have HB8 := Lib.hid (HB6.out.trans (hb8.mono HB6.out.size))
                 clear hb8))
            go_ret
            exact ⟨rfl, HB8.out.alloc HB8.out.size _⟩
          · have hrn := HBAD.out.resolve_left h4
            have hd4 : ((checkQ true ⟨p.enums, { n0 with items := n0.items ++ [i0] } :: r⟩).1 == 4) = false := beq_eq_false_iff_ne.2 h4
            have hdn : ((checkQ true ⟨p.enums, { n0 with items := n0.items ++ [i0] } :: r⟩).1 != 0) = true := bne_iff_ne.2 hrn.2
            have hdr : (rightL true ⟨p.enums, { n0 with items := n0.items ++ [i0] } :: r⟩ != 0) = true := bne_iff_ne.2 hrn.1
            clear h4 hrn
            go_wp2_with (first
              | (go_at_call 10
                 (with_reducible refine (HCK6.out _ (Below.refl _ _)).mono ?_)
                 rintro e w8 ⟨he, hb8⟩
                 subst he
                 obtain ⟨Y8, rfl⟩ : ∃ W, W = w8 := ⟨_, rfl⟩
                 have HB8 := Lib.hid (HB6.out.trans (hb8.mono HB6.out.size))
                 have H68 := Lib.hid hb8
                 obtain ⟨_, _⟩ := row2 (alloc_below (o := .cells #[.int .i64 (checkQ true ⟨p.enums, { n0 with items := n0.items ++ [i0] } :: r⟩).1, .int .i64 (checkQ true ⟨p.enums, { n0 with items := n0.items ++ [i0] } :: r⟩).2.1, .int .i64 (checkQ true ⟨p.enums, { n0 with items := n0.items ++ [i0] } :: r⟩).2.2] 29) (box_next hb8 BQ6.out))
                 clear hb8)
              | (go_at_call 20
                 (with_reducible refine (HRR6.out _ (H68.out.alloc H68.out.size _)).mono ?_)
                 rintro e w9 ⟨rfl, hb9⟩
                 obtain ⟨Y9, rfl⟩ : ∃ W, W = w9 := ⟨_, rfl⟩
                 have HB9 := Lib.hid ((HB8.out.alloc HB8.out.size (.cells #[.int .i64 (checkQ true ⟨p.enums, { n0 with items := n0.items ++ [i0] } :: r⟩).1, .int .i64 (checkQ true ⟨p.enums, { n0 with items := n0.items ++ [i0] } :: r⟩).2.1, .int .i64 (checkQ true ⟨p.enums, { n0 with items := n0.items ++ [i0] } :: r⟩).2.2] 29)).trans (hb9.mono (by have := HB8.out.size; simp; omega)))
                 obtain ⟨_, _, _⟩ := row3 (box_next hb9 (heap_alloc_new Y8 (.cells #[.int .i64 (checkQ true ⟨p.enums, { n0 with items := n0.items ++ [i0] } :: r⟩).1, .int .i64 (checkQ true ⟨p.enums, { n0 with items := n0.items ++ [i0] } :: r⟩).2.1, .int .i64 (checkQ true ⟨p.enums, { n0 with items := n0.items ++ [i0] } :: r⟩).2.2] 29)))
                 clear hb9))
            go_ret
            exact ⟨rfl, HB9.out⟩
theorem items_few {p : QProg} (hp : wProg p ≤ 1048576) {n : QNode} (hn : n ∈ p.nodes) : n.items.length ≤ 2097152 := by
  have h1 := wL_mem (f := wNode) hn
  have h2 := len_wL (f := wItem) (l := n.items) (fun i _ => by unfold wItem; omega)
  unfold wProg at hp
  simp only [wNode] at h1
  have h5 : wL wNode p.nodes = wL (fun n => n.name.length + wN n.funs + wN n.ins + wN n.outs + wL wItem n.items + 6) p.nodes := rfl
  omega
theorem names_few {p : QProg} (hp : wProg p ≤ 1048576) {n : QNode} (hn : n ∈ p.nodes) {i : QItem} (hi : i ∈ n.items) : (definedQ i).length ≤ 2097152 := by
  have h1 := wL_mem (f := wNode) hn
  have h2 := wL_mem (f := wItem) hi
  have h3 := defined_few i
  unfold wProg at hp
  simp only [wNode] at h1
  have h5 : wL wNode p.nodes = wL (fun n => n.name.length + wN n.funs + wN n.ins + wN n.outs + wL wItem n.items + 6) p.nodes := rfl
  omega
theorem enums_few {p : QProg} (hp : wProg p ≤ 1048576) : p.enums.length ≤ 2097152 := by
  have h2 := len_wL (f := wEnum) (l := p.enums) (fun i _ => by unfold wEnum; omega)
  unfold wProg at hp
  omega
theorem twice_law (L : List Value) (p : QProg) (n : Int) (w : World) (hL : ProgAt w L p) (hp : wProg p ≤ 1048576) (_ : i64B n) : Calls Tryz.prog 6 #[.agg L.toArray, .int .i64 n] w (Lived w) := by
  obtain ⟨A1, n1, k1, A2, n2, k2, rfl⟩ := prog_shape hL
  by_cases hc : (checkQ true p).1 = 0
  · rcases three n with h | h | h
    · exact twice_zero hL (prog_few hp) n hc (enums_few hp) h
    · exact twice_one hL (prog_few hp) n hc (enums_few hp) h
    · exact twice_two hL (prog_few hp) n hc (enums_few hp) h (fun m hm i hi => twice_few hp hm hi) (fun m hm i hi => names_few hp hm hi) (fun m hm => items_few hp hm)
  · exact twice_bad hL (prog_few hp) n hc
end Go.Proofs.YtbpbnebcbjacdaaGreat
