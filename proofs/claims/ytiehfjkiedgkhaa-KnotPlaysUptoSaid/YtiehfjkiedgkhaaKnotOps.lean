/-
  A script that came in: its cells, its steps.
-/
import Derived.Test.YtiehfjkiedgkhaaRows
import Derived.Test.YtiehfjkiedgkhaaKnotDoes
import Derived.Deep.Slices
import Derived.Deep.Fields
import Derived.ChangeSame
import Derived.Carry
namespace Go.Proofs.Ytiehfjkiedgkhaa
open Go.ChangeShapes Go.WideShapes Go.Deep Go.RowKit

def QOp.Ok (o : QOp) : Prop := Int64 o.kd ∧ Int64 o.a ∧ Int64 o.b
/-- a script in memory -/
def OpsAt (w : World) (v : Value) (l : List QOp) : Prop :=
  ∃ A c, v = .slice A l.length c ∧ l.length ≤ c ∧ c ≤ maxLen ∧ ∀ (i : Nat) o, l[i]? = some o → o.Ok ∧ ∃ a, A = some a ∧ ∀ f u, [Value.int .i64 o.kd, .int .i64 o.a, .int .i64 o.b][f]? = some u → w.cell? (a.add (i * 3 + f)) = some u
theorem add_block (a : Addr) (n : Nat) : (a.add n).block = a.block := by unfold Addr.add; split <;> rfl
theorem OpsAt.under {w w' : World} {v : Value} {l : List QOp} (h : OpsAt w v l) (hb : Below w.heap.size w w') : OpsAt w' v l := by
  obtain ⟨A, c, h1, h2, h3, h4⟩ := h
  refine ⟨A, c, h1, h2, h3, fun i o hi => ?_⟩
  obtain ⟨h5, a, h6, h7⟩ := h4 i o hi
  refine ⟨h5, a, h6, fun f u hu => ?_⟩
  have := h7 f u hu
  rw [hb.cell (World.block_lt_of_cell? w _ this)]
  exact this
theorem add_next (a : Addr) (m f : Nat) (hf : f ≠ 0) : a.add (m + f) = { block := (a.add m).block, off := (a.add m).off + f } := by
  unfold Addr.add
  rw [if_neg (by omega)]
  split
  · subst_vars; simp
  · simp; omega
/-- one step's cells, as the walk spells them -/
theorem OpsAt.cells {w : World} {a : Addr} {n c : Nat} {l : List QOp} (h : OpsAt w (.slice (some a) n c) l) {i : Nat} {o : QOp} (hi : l[i]? = some o) :
    o.Ok ∧ w.cell? (a.add (i * 3)) = some (.int .i64 o.kd) ∧ w.cell? { block := (a.add (i * 3)).block, off := (a.add (i * 3)).off + 1 } = some (.int .i64 o.a) ∧ w.cell? { block := (a.add (i * 3)).block, off := (a.add (i * 3)).off + 2 } = some (.int .i64 o.b) := by
  obtain ⟨A, c, h1, h2, h3, h4⟩ := h
  cases h1
  obtain ⟨h5, a', h6, h7⟩ := h4 i o hi
  cases h6
  exact ⟨h5, by simpa using h7 0 _ rfl, by rw [← add_next _ _ _ (by decide)]; exact h7 1 _ rfl, by rw [← add_next _ _ _ (by decide)]; exact h7 2 _ rfl⟩
noncomputable def opFields : Array Field := match Try.prog.underlying 31 with | some (.struct fs) => fs | _ => #[]
theorem op_struct : Try.prog.underlying 31 = some (.struct opFields) := by kernel_rfl
theorem op_fields : opFields.map (fun f => f.type) = #[3, 3, 3] := by kernel_rfl
theorem op_one : oneCellFields Try.prog opFields = true := by kernel_rfl
theorem op_cellsOf : Try.prog.cellsOf 31 = opFields.size := by kernel_rfl
theorem op_size : opFields.size = 3 := by kernel_rfl
theorem op_field (j : Nat) {t : TypeId} (h : (opFields.map (fun f => f.type))[j]? = some t) : ∃ f, opFields[j]? = some f ∧ f.type = t := by
  rw [Array.getElem?_map] at h
  cases hf : opFields[j]? with
  | none => rw [hf] at h; cases h
  | some f => rw [hf] at h; exact ⟨f, rfl, Option.some.inj h⟩
theorem three {α : Type _} {l : List α} (h : l.length = 3) : ∃ a b c, l = [a, b, c] := by
  match l, h with
  | [a, b, c], _ => exact ⟨a, b, c, rfl⟩
theorem i64_of {n : Int} (h : (Lit.int .i64 n).wf = true) : Int64 n := by have := bounds_i64 h; unfold Int64; omega
theorem op_opened {H : Type} {enc : TypeId × Value → H} {W : World} {base fuel : Nat} {spare : Nat → Bool} {held : Bool} {cs : List Value} {x : DataW H × List MemPlace} (h : DataW.trod enc Try.prog W base spare held fuel 31 cs = some x) :
    ∃ o : QOp, cs = [.int .i64 o.kd, .int .i64 o.a, .int .i64 o.b] ∧ o.Ok := by
  obtain ⟨ys, n, _, rfl, hl, hy, hf⟩ := DataW.trod_struct op_struct h
  rw [op_size] at hy
  have hl : cs.length = 3 := hl.trans (op_cellsOf.trans op_size)
  have part : ∀ (j : Nat) (t : TypeId) (y : DataW H × List MemPlace), (opFields.map (fun f => f.type))[j]? = some t → ys[j]? = some y → DataW.trod enc Try.prog W base spare held n t ((cs.drop j).take 1) = some y := by
    intro j t y ht hj
    obtain ⟨f, hfj, rfl⟩ := op_field j ht
    obtain ⟨ho, hk⟩ := hone_of op_one j f hfj
    have := hf j f hfj
    rw [ho, hk] at this
    exact this.trans hj
  obtain ⟨_, _, _, rfl⟩ := three hl
  obtain ⟨y0, y1, y2, rfl⟩ := three hy
  obtain ⟨n0, h0, _, w0⟩ := DataW.trod_int Try.underlying3 (part 0 3 y0 (by rw [op_fields]; rfl) rfl)
  obtain ⟨n1, h1, _, w1⟩ := DataW.trod_int Try.underlying3 (part 1 3 y1 (by rw [op_fields]; rfl) rfl)
  obtain ⟨n2, h2, _, w2⟩ := DataW.trod_int Try.underlying3 (part 2 3 y2 (by rw [op_fields]; rfl) rfl)
  simp only [List.drop_zero, List.drop_succ_cons, List.take_succ_cons, List.take_zero, List.cons.injEq, and_true] at h0 h1 h2
  subst h0 h1 h2
  exact ⟨⟨n0, n1, n2⟩, rfl, i64_of w0, i64_of w1, i64_of w2⟩
theorem open_ops {H : Type} {enc : TypeId × Value → H} {W : World} {v : Value} {d : DataW H} {p : List MemPlace} (hone : v.cells = #[v]) (h : DataW.Trod enc Try.prog W 0 (fun _ => true) true 22 v d p) :
    ∃ l, OpsAt W v l := by
  obtain ⟨fuel, hf⟩ := h
  rw [hone] at hf
  rcases open_slice Try.underlying22 hf with ⟨hv, hx⟩ | ⟨a, len, cap, m, n, D, Pl, hv, _, hl, hcp, hm, hx, hi⟩
  · refine ⟨[], none, 0, by simpa using hv, by simp, by unfold maxLen; omega, fun i o h => by simp at h⟩
  · have hv : v = .slice (some a) len cap := by simpa using hv
    have hmc : len ≤ m := by rw [hm]; split <;> omega
    have hall : ∀ i, ∃ o : QOp, i < len → o.Ok ∧ ∀ f u, [Value.int .i64 o.kd, .int .i64 o.a, .int .i64 o.b][f]? = some u → W.cell? (a.add (i * 3 + f)) = some u := by
      intro i
      by_cases hil : i < len
      · obtain ⟨cs, hc, ht⟩ := hi i (by omega)
        obtain ⟨o, rfl, ho⟩ := op_opened ht
        refine ⟨o, fun _ => ⟨ho, fun f u hu => ?_⟩⟩
        obtain ⟨_, hlc, hat⟩ := World.cells?_some hc
        rw [op_cellsOf, op_size] at hat
        rw [← add_add]
        exact (hat f (List.getElem?_eq_some_iff.1 hu).1).trans hu
      · exact ⟨⟨0, 0, 0⟩, fun h => absurd h hil⟩
    obtain ⟨F, hF⟩ := Classical.axiomOfChoice hall
    refine ⟨(List.range len).map F, some a, cap, by simpa using hv, by simpa using hl, hcp, fun i o hio => ?_⟩
    obtain ⟨h1, h2⟩ := List.getElem?_eq_some_iff.1 hio
    simp at h1 h2
    subst h2
    exact ⟨(hF i h1).1, a, rfl, (hF i h1).2⟩
theorem cells_slice {P : Program} {W : World} {r : Reach} {b : Nat} {t e : TypeId} {v : Value} (ht : P.underlying t = some (.slice e)) (h : Value.okWide P W r b t v) : v.cells = #[v] := by
  obtain ⟨a, len, cap, rfl⟩ := okWide_slice ht h
  rfl
end Go.Proofs.Ytiehfjkiedgkhaa
