/-
  A slice of strings of the call's own: appends.
-/
import Derived.Test.YtaimagfdjbedeaaGreatDoorTreeEqS
import Derived.Laws.AppendOwn
namespace Go.Proofs.YtaimagfdjbedeaaGreatDoor
open Go.RowKit

theorem str_info : (Tryz.prog.info? 9).map (fun i => (i.zero, i.size, i.bytes)) = some (some (.string ⟨#[]⟩), 1, 16) := by kernel_rfl
theorem row_under {w w' : World} {B : Nat} {e : TypeId} {size n : Nat} {v : Value} {xs : List Value} (h : w.ownsRow B e size v n xs) (hb : Below w.heap.size w w') : w'.ownsRow B e size v n xs := by
  obtain ⟨h1, h2⟩ := h
  refine ⟨h1, ?_⟩
  rcases h2 with h2 | ⟨g, cap, cur, rfl, hg, hh, hr⟩
  · exact .inl h2
  · exact .inr ⟨g, cap, cur, rfl, hg, (hb.block g (lt_of_heap hh)).trans hh, hr⟩
theorem row_mono {w : World} {B B' : Nat} {e : TypeId} {size n : Nat} {v : Value} {xs : List Value} (h : w.ownsRow B e size v n xs) (hB : B' ≤ B) : w.ownsRow B' e size v n xs := by
  obtain ⟨h1, h2⟩ := h
  refine ⟨h1, ?_⟩
  rcases h2 with h2 | ⟨g, cap, cur, rfl, hg, hr⟩
  · exact .inl h2
  · exact .inr ⟨g, cap, cur, rfl, by omega, hr⟩
/-- a slice of the call's own that holds the strings l -/
def OwnS (B : Nat) (w : World) (v : Value) (l : List Tx) : Prop := w.ownsRow B 9 1 v l.length (l.map fun x => .string (str x)) ∧ ∀ x ∈ l, x.length ≤ maxLen
theorem OwnS.nil (B : Nat) (w : World) : OwnS B w (.slice none 0 0) [] := ⟨⟨rfl, .inl ⟨rfl, rfl⟩⟩, by simp⟩
theorem OwnS.under {B : Nat} {w w' : World} {v : Value} {l : List Tx} (h : OwnS B w v l) (hb : Below w.heap.size w w') : OwnS B w' v l := ⟨row_under h.1 hb, h.2⟩
theorem OwnS.alloc {B : Nat} {w : World} {v : Value} {l : List Tx} (h : OwnS B w v l) (o : Obj) : OwnS B (w.alloc o) v l := ⟨h.1.alloc o, h.2⟩
theorem OwnS.drew {B : Nat} {w : World} {v : Value} {l : List Tx} (h : OwnS B w v l) : OwnS B w.drew v l := h
theorem OwnS.mono {B B' : Nat} {w : World} {v : Value} {l : List Tx} (h : OwnS B w v l) (hB : B' ≤ B) : OwnS B' w v l := ⟨row_mono h.1 hB, h.2⟩
/-- a block of another type than the row's is kept -/
theorem other_keptE {w w' : World} {B n m : Nat} {E : TypeId} {v : Value} {xs : List Value} {g : Nat} {cs : Array Value} {T0 : TypeId} (ho : w.ownsRow B E m v n xs) (hg : w.grownBy w' v.ownBlock) (h : w.heap[g]? = some (.cells cs T0 (0, 0))) (hne : T0 ≠ E) : w'.heap[g]? = some (.cells cs T0 (0, 0)) := by
  refine (hg.block g (lt_of_heap h) fun e => ?_).trans h
  rcases ho.2 with ⟨rfl, _⟩ | ⟨g', cap, cur, rfl, _, hh, _⟩
  · simp [Value.ownBlock] at e
  · have : g = g' := by simpa [Value.ownBlock] using e
    subst this
    rw [h] at hh
    injection hh with hh
    injection hh with _ ht
    exact hne ht
/-- what an append leaves -/
def AppS (B : Nat) (l : List Tx) (W : World) (v' : Value) (w' : World) : Prop :=
  OwnS B w' v' l ∧ Below B W w' ∧ ∀ (g : Nat) (cs : Array Value) (T0 : TypeId), T0 ≠ 9 → W.heap[g]? = some (.cells cs T0 (0, 0)) → w'.heap[g]? = some (.cells cs T0 (0, 0))
theorem append_str {ops : Array Oper} {rest : List Oper} {o : Oper} {a : Act} {Q : Exit → Act → World → Prop} {W : World} {B : Nat} {v : Value} {l : List Tx} {x : Tx} {N : Nat} (hgd : o.guard = none) (s y : Operand)
    (ho : o.op = .call { callee := .builtin .append, args := #[s, y], argTypes := #[22, 22] }) (hs : a.eval s = v) (hy : a.eval y = .slice (some ⟨N, 0, none⟩) 1 1)
    (hN : W.heap[N]? = some (.cells #[.string (str x)] 9 (0, 0))) (hO : OwnS B W v l) (hx : x.length ≤ maxLen) (hl : l.length ≤ 2097152) (hB : B ≤ W.heap.size)
    (h : ∀ v' w', AppS B (l ++ [x]) W v' w' → wpList Tryz.prog ops Q rest (a.put o.dst v') w') : wpList Tryz.prog ops Q (o :: rest) a W := by
  obtain ⟨i0, hi, hz0, hz1, hz2⟩ := info_parts str_info
  obtain ⟨hown, hle⟩ := hO
  refine wpList_append_own W hgd s y 22 ho B 9 i0 (.string ⟨#[]⟩) 1 16 Tryz.underlying22 hi hz0 hz1 hz2 rfl (by decide) v l.length _ hs hown ⟨N, 0, none⟩ 1 1 [.string (str x)] hy (by simp) (fun j u hj => ?_) (fun u hu => ?_) (by unfold maxLen; omega) (by omega) hB fun v' w' h1 h2 _ => h v' w' ⟨⟨by simpa using h1, ?_⟩, ?_, fun g cs T0 hne hg => other_keptE hown h2 hg hne⟩
  · have hadd : (⟨N, 0, none⟩ : Addr).add j = ⟨N, j, none⟩ := by unfold Addr.add; split <;> simp_all
    rw [hadd, cell_of_row _ _ _ _ _ _ hN]
    simpa using hj
  · simp at hu; subst hu; rfl
  · intro z hz
    rcases List.mem_append.1 hz with hz | hz
    · exact hle z hz
    · simp at hz; subst hz; exact hx
  · exact (Below.refl B W).grown h2 hB (fun j hj => (hown.lt j hj).1)
theorem step_str {ops : Array Oper} {o : Oper} {a : Act} {K : Act → World → Prop} {Q : Exit → Act → World → Prop} {E : Prop} {W : World} {B : Nat} {v : Value} {l : List Tx} {x : Tx} {N : Nat} (hgd : o.guard = none) (s y : Operand)
    (ho : o.op = .call { callee := .builtin .append, args := #[s, y], argTypes := #[22, 22] }) (hs : a.eval s = v) (hy : a.eval y = .slice (some ⟨N, 0, none⟩) 1 1)
    (hN : W.heap[N]? = some (.cells #[.string (str x)] 9 (0, 0))) (hO : OwnS B W v l) (hx : x.length ≤ maxLen) (hl : l.length ≤ 2097152) (hB : B ≤ W.heap.size)
    (h : ∀ v' w', AppS B (l ++ [x]) W v' w' → K (a.put o.dst v') w') : if Region.wanted o (yielded ops a.tmps) = true then Oper.wp Tryz.prog o a W K Q else E := by
  have hw : Region.wanted o (yielded ops a.tmps) = true := by simp [Region.wanted, hgd]
  rw [if_pos hw]
  obtain ⟨i0, hi, hz0, hz1, hz2⟩ := info_parts str_info
  obtain ⟨hown, hle⟩ := hO
  refine wp_append_own W s y 22 ho B 9 i0 (.string ⟨#[]⟩) 1 16 Tryz.underlying22 hi hz0 hz1 hz2 rfl (by decide) v l.length _ hs hown ⟨N, 0, none⟩ 1 1 [.string (str x)] hy (by simp) (fun j u hj => ?_) (fun u hu => ?_) (by unfold maxLen; omega) (by omega) hB fun v' w' h1 h2 _ => h v' w' ⟨⟨by simpa using h1, ?_⟩, ?_, fun g cs T0 hne hg => other_keptE hown h2 hg hne⟩
  · have hadd : (⟨N, 0, none⟩ : Addr).add j = ⟨N, j, none⟩ := by unfold Addr.add; split <;> simp_all
    rw [hadd, cell_of_row _ _ _ _ _ _ hN]
    simpa using hj
  · simp at hu; subst hu; rfl
  · intro z hz
    rcases List.mem_append.1 hz with hz | hz
    · exact hle z hz
    · simp at hz; subst hz; exact hx
  · exact (Below.refl B W).grown h2 hB (fun j hj => (hown.lt j hj).1)
/-- as a slice whose strings are read -/
theorem OwnS.strs {B : Nat} {w : World} {v : Value} {l : List Tx} (h : OwnS B w v l) : StrsAt w v l := by
  obtain ⟨hown, hle⟩ := h
  rcases hown.2 with ⟨rfl, h0⟩ | ⟨g, cap, cur, rfl, _, hh, hc, hm, _⟩
  · have : l = [] := List.eq_nil_of_length_eq_zero h0
    subst this
    exact ⟨none, 0, rfl, Nat.le_refl _, by unfold maxLen; omega, fun i x h => by simp at h⟩
  · refine ⟨_, cap, rfl, hc, hm, fun i x hx => ⟨[.string (str x)], ⟨_, rfl, fun j u hu => ?_⟩, rfl, hle x (List.mem_of_getElem? hx)⟩⟩
    have hj : j = 0 := by
      have := (List.getElem?_eq_some_iff.1 hu).1
      simp at this; exact this
    subst hj
    simp only [List.getElem?_cons_zero, Option.some.injEq] at hu
    subst hu
    rw [add_add]
    refine hown.cells (g := g) rfl _ _ ?_
    simp [hx]
/-- what an append of strings leaves -/
def AppSS (B : Nat) (l : List Tx) (v : Value) (W : World) (v' : Value) (w' : World) : Prop :=
  OwnS B w' v' l ∧ Below B W w' ∧ ∀ (g : Nat) (o : Obj), W.heap[g]? = some o → v.ownBlock ≠ some g → w'.heap[g]? = some o
theorem run_append_nilS {w : World} (base : Nat) (t ty e : TypeId) (i : TypeInfo) (size : Nat) (ht : Tryz.prog.underlying t = some (.slice e)) (hi : Tryz.prog.info? e = some i)
    (v : Value) (n : Nat) (xs : List Value) (hown : w.ownsRow base e size v n xs) (c : Nat) :
    (Builtin.append_ #[t, t] ty #[v, .slice none 0 c]).run Tryz.prog w = .ok v w := by
  rcases hown.2 with ⟨rfl, rfl⟩ | ⟨g, cap, cur, rfl, _, _, hnc, _⟩
  · simp [Builtin.append_, run_underlying ht, sizeOf, typeInfo, hi, Builtin.lenOf, Builtin.firstCells]
  · simp [Builtin.append_, run_underlying ht, sizeOf, typeInfo, hi, Builtin.lenOf, Builtin.firstCells, hnc, storeCells]
theorem strs_cells {W : World} {ad : Addr} {n c : Nat} {ys : List Tx} (h : StrsAt W (.slice (some ad) n c) ys) : n = ys.length ∧ ∀ (j : Nat) u, (ys.map fun y => Value.string (str y))[j]? = some u → W.cell? (ad.add j) = some u := by
  obtain ⟨A', c', e, _, _, h3⟩ := h
  injection e with e1 e2 e3
  subst e1
  refine ⟨e2, fun j u hu => ?_⟩
  rw [List.getElem?_map] at hu
  cases hy : ys[j]? with
  | none => rw [hy] at hu; cases hu
  | some y =>
    rw [hy] at hu
    cases hu
    obtain ⟨L, hE, rfl, _⟩ := h3 j y hy
    obtain ⟨a, ea, _, _, c0⟩ := elem1 hE
    cases ea
    rw [Nat.mul_one] at c0
    exact c0
set_option maxRecDepth 100000 in
set_option maxHeartbeats 1000000 in
theorem wp_strs {o : Oper} {a : Act} {W : World} {K : Act → World → Prop} {Q : Exit → Act → World → Prop} {B : Nat} {v : Value} {xs ys : List Tx} {A : Option Addr} {n c : Nat} (s x : Operand)
    (hop : o.op = .call { callee := .builtin .append, args := #[s, x], argTypes := #[22, 22] })
    (hs : a.eval s = v) (hx : a.eval x = .slice A n c) (hO : OwnS B W v xs) (hS : StrsAt W (.slice A n c) ys) (hl : xs.length + ys.length ≤ 4194304) (hB : B ≤ W.heap.size)
    (hK : ∀ v' w', AppSS B (xs ++ ys) v W v' w' → K (a.put o.dst v') w') : Oper.wp Tryz.prog o a W K Q := by
  obtain ⟨i0, hi, hz0, hz1, hz2⟩ := info_parts str_info
  have hle : ∀ y ∈ ys, y.length ≤ maxLen := by
    intro y hy
    obtain ⟨i, hi⟩ := List.getElem?_of_mem hy
    obtain ⟨_, _, _, _, _, h3⟩ := hS
    obtain ⟨_, _, _, h⟩ := h3 i y hi
    exact h
  obtain ⟨hown, hxl⟩ := hO
  cases A with
  | none =>
    have hy : ys = [] := by
      obtain ⟨A', c', e, _, _, h3⟩ := hS
      injection e with e1 e2 e3
      subst e1
      cases ys with
      | nil => rfl
      | cons y r =>
        obtain ⟨L, ⟨a', e, _⟩, _⟩ := h3 0 y rfl
        cases e
    have hn : n = 0 := by
      obtain ⟨A', c', e, _⟩ := hS
      injection e with _ e2 _
      rw [e2, hy]; rfl
    subst hy hn
    have hrun := run_append_nilS (w := W) B 22 o.type 9 i0 1 Tryz.underlying22 hi _ _ _ hown c
    unfold Oper.wp
    simp only [execOp, hop, resolve, invoke, builtin, Sem.run_bind, Sem.run_pure, Result.andThen_ok, List.map_toArray, List.map_cons, List.map_nil, hs, hx, hrun]
    exact hK v W ⟨by simpa using ⟨hown, hxl⟩, Below.refl _ _, fun g o h _ => h⟩
  | some ad =>
    obtain ⟨hn, hcl⟩ := strs_cells hS
    subst hn
    refine wp_append_own W s x 22 hop B 9 i0 (.string ⟨#[]⟩) 1 16 Tryz.underlying22 hi hz0 hz1 hz2 rfl (by decide) v xs.length _ hs hown ad ys.length c (ys.map fun y => .string (str y)) hx (by simp) hcl ?_ (by unfold maxLen; omega) (by omega) hB fun v' w' h1 h2 _ => hK v' w' ⟨⟨by simpa using h1, ?_⟩, ?_, ?_⟩
    · intro u hu
      obtain ⟨y, _, rfl⟩ := List.mem_map.1 hu
      rfl
    · intro z hz
      rcases List.mem_append.1 hz with hz | hz
      · exact hxl z hz
      · exact hle z hz
    · exact (Below.refl B W).grown h2 hB (fun j hj => (hown.lt j hj).1)
    · intro g o hgo hne
      exact (h2.block g (lt_of_heap hgo) (fun e => hne e.symm)).trans hgo
theorem append_strs {ops : Array Oper} {rest : List Oper} {o : Oper} {a : Act} {W : World} {Q : Exit → Act → World → Prop} {B : Nat} {v : Value} {xs ys : List Tx} {A : Option Addr} {n c : Nat} (hg : o.guard = none) (s x : Operand)
    (hop : o.op = .call { callee := .builtin .append, args := #[s, x], argTypes := #[22, 22] })
    (hs : a.eval s = v) (hx : a.eval x = .slice A n c) (hO : OwnS B W v xs) (hS : StrsAt W (.slice A n c) ys) (hl : xs.length + ys.length ≤ 4194304) (hB : B ≤ W.heap.size)
    (h : ∀ v' w', AppSS B (xs ++ ys) v W v' w' → wpList Tryz.prog ops Q rest (a.put o.dst v') w') : wpList Tryz.prog ops Q (o :: rest) a W :=
  wpList_plain hg fun _ hK' => wp_strs s x hop hs hx hO hS hl hB fun v' w' ha => hK' _ _ (h v' w' ha)
theorem OwnS.shape {B : Nat} {w : World} {v : Value} {l : List Tx} (h : OwnS B w v l) : ∃ A n c, v = .slice A n c ∧ n = l.length := by
  rcases h.1.2 with ⟨rfl, h0⟩ | ⟨g, cap, cur, rfl, _⟩
  · exact ⟨_, _, _, rfl, h0.symm⟩
  · exact ⟨_, _, _, rfl, rfl⟩
end Go.Proofs.YtaimagfdjbedeaaGreatDoor
