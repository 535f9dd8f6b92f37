/-
  A queue in memory, and its methods: by name, behind the interface.
-/
import Derived.Test.YtifbdglhfoimjaaGreatDoorIntMem
import Derived.Test.YtifbdglhfoimjaaGreatDoorHeapSpec
import Derived.Test.YtifbdglhfoimjaaGreatDoorSx23
namespace Go.Proofs.YtifbdglhfoimjaaGreatDoor
open Go.RowKit

/-- the block N is a queue that holds the numbers H in the slice qv -/
def QAt (N B : Nat) (w : World) (qv : Value) (H : List Int) : Prop := w.heap[N]? = some (.cells #[qv] 84 (0, 0)) ∧ OwnN B w qv H ∧ B ≤ N
/-- what a queue's method may change -/
structure QStep (N : Nat) (w : World) (qv : Value) (w' : World) (qv' : Value) : Prop where
  os : w'.os = w.os
  tape : w'.tape = w.tape
  output : w'.output = w.output
  size : w.heap.size ≤ w'.heap.size
  block : ∀ k, k < w.heap.size → k ≠ N → qv.ownBlock ≠ some k → w'.heap[k]? = w.heap[k]?
  loc : ∀ g, qv'.ownBlock = some g → qv.ownBlock = some g ∨ w.heap.size ≤ g
theorem QStep.refl (N : Nat) (w : World) (qv : Value) : QStep N w qv w qv := ⟨rfl, rfl, rfl, Nat.le_refl _, fun _ _ _ _ => rfl, fun _ h => .inl h⟩
theorem QStep.trans {N : Nat} {a b c : World} {u v x : Value} (h : QStep N a u b v) (g : QStep N b v c x) : QStep N a u c x := by
  refine ⟨g.os.trans h.os, g.tape.trans h.tape, g.output.trans h.output, Nat.le_trans h.size g.size, fun k hk h1 h2 => ?_, fun k hk => ?_⟩
  · refine (g.block k (Nat.lt_of_lt_of_le hk h.size) h1 (fun e => ?_)).trans (h.block k hk h1 h2)
    rcases h.loc k e with h3 | h3
    · exact h2 h3
    · omega
  · rcases g.loc k hk with h3 | h3
    · exact h.loc k h3
    · exact .inr (Nat.le_trans h.size h3)
theorem QStep.of_below {N : Nat} {w w' : World} {qv : Value} (h : Below w.heap.size w w') : QStep N w qv w' qv := ⟨h.os, h.tape, h.output, h.size, fun k hk _ _ => h.block k hk, fun _ h => .inl h⟩
theorem QStep.of_grown {N : Nat} {w w' : World} {qv : Value} (h : w.grownBy w' qv.ownBlock) : QStep N w qv w' qv := ⟨h.os, h.tape, h.output, h.size, fun k hk _ h2 => h.block k hk (fun e => h2 e.symm), fun _ h => .inl h⟩
theorem QStep.below {N B : Nat} {w w' : World} {qv qv' : Value} {H : List Int} (h : QStep N w qv w' qv') (hq : QAt N B w qv H) : Below B w w' :=
  ⟨h.os, h.tape, h.output, h.size, fun k hk => h.block k (Nat.lt_of_lt_of_le hk (Nat.le_trans hq.2.2 (Nat.le_of_lt (lt_of_heap hq.1)))) (fun e => by have := hq.2.2; omega) (fun e => by have := (row_block hq.2.1 e).1; omega)⟩
theorem QAt.under {N B : Nat} {w w' : World} {qv : Value} {H : List Int} (h : QAt N B w qv H) (hb : Below w.heap.size w w') : QAt N B w' qv H := ⟨(hb.block N (lt_of_heap h.1)).trans h.1, h.2.1.under hb, h.2.2⟩
theorem QAt.ne {N B : Nat} {w : World} {qv : Value} {H : List Int} (h : QAt N B w qv H) : qv.ownBlock ≠ some N := fun e => by
  obtain ⟨_, _, cur, hh⟩ := row_block h.2.1 e
  rw [h.1] at hh
  cases hh
/-- what a queue's method leaves -/
def QPost (N B : Nat) (H : List Int) (w : World) (qv : Value) (r : Value) (e : Ending) (w' : World) : Prop := e = .returned r ∧ ∃ qv', QAt N B w' qv' H ∧ QStep N w qv w' qv'
theorem fieldCell_at {P : Program} {f : Field} {k : Nat} (h : Sx.fieldCell P f = some k) {w : World} {b : Nat} {y : Value} (hc : w.cell? ⟨b, k, none⟩ = some y) :
    (fieldPlace ⟨b, 0, none⟩ f).run P w = .ok ⟨b, k, none⟩ w ∧ ∀ o : Option String, (receiverAt f.type (.var ⟨b, k, none⟩) false o).run P w = .ok y w := by
  obtain ⟨rfl, hnp, ha, n, hn, hn0⟩ := Sx.fieldCell_eq h
  obtain ⟨d, hd1, hd2⟩ := Sx.ifS_eq ha
  have hload : (loadVar f.type ⟨b, f.offset, none⟩).run P w = .ok y w := by simp [loadVar, Sx.run_isAgg ha, hc]
  have hadd : (⟨b, 0, none⟩ : Addr).add f.offset = ⟨b, f.offset, none⟩ := by unfold Addr.add; split <;> simp_all
  refine ⟨by simp [fieldPlace, Sx.run_size hn, hn0, hadd], fun o => ?_⟩
  unfold receiverAt
  simp only [Sem.run_bind, Sx.run_under hd1, Result.andThen]
  cases d <;> first | exact absurd hd1 (hnp _) | exact hload
/-- a method behind an interface: of the pointer itself; of a field behind it -/
theorem meth_run {P : Program} {name : String} {t : TypeId} {g : Nat} {q : Option Nat} (hm : Sx.methO P name t = some (g, q)) {w : World} {b : Nat} {y : Value} (hy : match q with | none => y = .pointer (some ⟨b, 0, none⟩) | some off => w.cell? ⟨b, off, none⟩ = some y) (args : Array Value)
    (hent : (callFunc g (#[y] ++ args)).run P w = .ok (.enter g (#[y] ++ args)) w) : (callMethod (.iface t (.pointer (some ⟨b, 0, none⟩))) name args).run P w = .ok (.enter g (#[y] ++ args)) w := by
  have key : ∀ k, (method (k + 1) t (.pointer (some ⟨b, 0, none⟩)) name).run P w = .ok (g, y) w := by
    intro k
    obtain ⟨i, hi, hm⟩ := Sx.ifS_eq hm
    obtain ⟨m, hf, hm⟩ := Sx.ifS_eq hm
    unfold Sx.methP at hm
    split at hm
    · rename_i f hpath hfunc
      split at hm
      · rename_i el hel
        cases hm
        have hy : y = .pointer (some ⟨b, 0, none⟩) := hy
        subst hy
        simp [method, Sx.run_info hi, hf, hpath, hfunc, follow, receiverAt, Sx.run_under hel, Place.get, Result.andThen]
      · cases hm
    · rename_i s f hpath hfunc
      obtain ⟨hd, hm⟩ := Sx.ifB_eq hm
      obtain ⟨fd, hfd, hm⟩ := Sx.ifS_eq hm
      obtain ⟨off, hoff, hm⟩ := Sx.ifS_eq hm
      cases hm
      obtain ⟨fs, hs1, hs2⟩ := Sx.fieldO_eq hfd
      obtain ⟨h1, h2⟩ := fieldCell_at hoff (show w.cell? ⟨b, off, none⟩ = some y from hy)
      simp [method, Sx.run_info hi, hf, hpath, hfunc, follow, hd, Sx.run_under hs1, hs2, Place.get, asAddr, h1, h2, Result.andThen]
    · cases hm
  obtain ⟨k, hk⟩ : ∃ k, P.types.size + Made.depth = k + 1 := ⟨P.types.size + (Made.depth - 1), by unfold Made.depth; omega⟩
  simp only [callMethod, Sem.run_bind, run_program, Result.andThen, hk, key, hent]
/-- a call of a method behind an interface -/
theorem wp_inv {P : Program} {name : String} {t : TypeId} {g : Nat} {q : Option Nat} (hm : Sx.methO P name t = some (g, q)) {w : World} {b : Nat} {y : Value} (hy : match q with | none => y = .pointer (some ⟨b, 0, none⟩) | some off => w.cell? ⟨b, off, none⟩ = some y)
    {o : Oper} {a : Act} {K : Act → World → Prop} {Q : Exit → Act → World → Prop} {x : Operand} {args : Array Operand} {ts : Array TypeId} (ho : o.op = .call { callee := .invoke x name, args := args, argTypes := ts }) (hx : a.eval x = .iface t (.pointer (some ⟨b, 0, none⟩)))
    (hent : ∀ xs w, (callFunc g xs).run P w = .ok (.enter g xs) w) {R : Ending → World → Prop} (hc : Calls P g (#[y] ++ args.map a.eval) w R) (hR : ∀ e w', R e w' → ∃ v, e = .returned v ∧ K (a.put o.dst v) w') : Oper.wp P o a w K Q := by
  have h0 : (#[Value.iface t (.pointer (some ⟨b, 0, none⟩))] ++ args.map a.eval)[0]? = some (.iface t (.pointer (some ⟨b, 0, none⟩))) := by rw [Array.getElem?_append_left (by simp)]; rfl
  have h1 : (#[Value.iface t (.pointer (some ⟨b, 0, none⟩))] ++ args.map a.eval).extract 1 (#[Value.iface t (.pointer (some ⟨b, 0, none⟩))] ++ args.map a.eval).size = args.map a.eval := by
    apply Array.ext'
    rw [Array.toList_extract]
    simp [List.extract]
    exact List.take_of_length_le (by simp)
  have hcm := meth_run hm hy (args.map a.eval) (hent _ _)
  have hrun : (execOp a.eval o).run P w = .ok (.enter g (#[y] ++ args.map a.eval)) w := by
    simp only [execOp, ho, resolve, Sem.run_bind, Sem.run_pure, Result.andThen, hx, invoke, h0, h1, hcm]
  unfold Oper.wp
  rw [hrun, Oper.upon_enter]
  refine Calls.mono hc fun e' w' hr => ?_
  obtain ⟨v, rfl, hk⟩ := hR e' w' hr
  exact hk
theorem list_inv {P : Program} {name : String} {t : TypeId} {g : Nat} {q : Option Nat} (hm : Sx.methO P name t = some (g, q)) {w : World} {b : Nat} {y : Value} (hy : match q with | none => y = .pointer (some ⟨b, 0, none⟩) | some off => w.cell? ⟨b, off, none⟩ = some y)
    {ops : Array Oper} {rest : List Oper} {o : Oper} {a : Act} {Q : Exit → Act → World → Prop} {x : Operand} {args : Array Operand} {ts : Array TypeId} (hw : Region.wanted o (yielded ops a.tmps) = true) (ho : o.op = .call { callee := .invoke x name, args := args, argTypes := ts }) (hx : a.eval x = .iface t (.pointer (some ⟨b, 0, none⟩)))
    (hent : ∀ xs w, (callFunc g xs).run P w = .ok (.enter g xs) w) {R : Ending → World → Prop} (hc : Calls P g (#[y] ++ args.map a.eval) w R) (hR : ∀ e w', R e w' → ∃ v, e = .returned v ∧ wpList P ops Q rest (a.put o.dst v) w') : wpList P ops Q (o :: rest) a w :=
  wpList_step fun K hK => by
    rw [if_pos hw]
    exact wp_inv hm hy ho hx hent hc fun e w' hr => by
      obtain ⟨v, h1, h2⟩ := hR e w' hr
      exact ⟨v, h1, hK _ _ h2⟩
theorem m_len : Sx.methO Tryz.prog "Len" 86 = some (32, some 0) := by kernel_rfl
theorem m_less : Sx.methO Tryz.prog "Less" 86 = some (295, some 0) := by kernel_rfl
theorem m_swap : Sx.methO Tryz.prog "Swap" 86 = some (297, some 0) := by kernel_rfl
theorem m_push : Sx.methO Tryz.prog "Push" 86 = some (299, none) := by kernel_rfl
theorem m_pop : Sx.methO Tryz.prog "Pop" 86 = some (298, none) := by kernel_rfl
theorem e_len (xs : Array Value) (w : World) : (callFunc 32 xs).run Tryz.prog w = .ok (.enter 32 xs) w := by kernel_rfl
theorem e_less (xs : Array Value) (w : World) : (callFunc 295 xs).run Tryz.prog w = .ok (.enter 295 xs) w := by kernel_rfl
theorem e_swap (xs : Array Value) (w : World) : (callFunc 297 xs).run Tryz.prog w = .ok (.enter 297 xs) w := by kernel_rfl
theorem e_push (xs : Array Value) (w : World) : (callFunc 299 xs).run Tryz.prog w = .ok (.enter 299 xs) w := by kernel_rfl
theorem e_pop (xs : Array Value) (w : World) : (callFunc 298 xs).run Tryz.prog w = .ok (.enter 298 xs) w := by kernel_rfl
end Go.Proofs.YtifbdglhfoimjaaGreatDoor
