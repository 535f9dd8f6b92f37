/-
  A script that came in, with its bulk.
-/
import Derived.Test.YtiehfjkiedgkhaaKnotOps
namespace Go.Proofs.Ytiehfjkiedgkhaa
open Go.ChangeShapes Go.WideShapes Go.Deep Go.RowKit

theorem bulk_one {H : Type} (d : DataW H) : 1 ≤ Rows.uptoBulk d := by
  cases d with
  | lit l => cases l <;> simp [Rows.uptoBulk]
  | _ => simp [Rows.uptoBulk]
theorem bulk_part {H : Type} {d : DataW H} {l : List (DataW H)} (h : d ∈ l) : Rows.uptoBulk d ≤ Rows.uptoBulkAll l := by
  induction l with
  | nil => cases h
  | cons x r ih =>
    simp only [Rows.uptoBulkAll]
    rcases List.mem_cons.1 h with rfl | h
    · omega
    · have := ih h; omega
theorem bulk_len {H : Type} (l : List (DataW H)) : l.length ≤ Rows.uptoBulkAll l := by
  induction l with
  | nil => simp
  | cons x r ih =>
    have := bulk_one x
    simp only [Rows.uptoBulkAll, List.length_cons]
    omega
theorem open_opsU {H : Type} {enc : TypeId × Value → H} {W : World} {v : Value} {d : DataW H} {p : List MemPlace} (hone : v.cells = #[v]) (h : DataW.Trod enc Try.prog W 0 (fun _ => true) true 22 v d p) :
    ∃ l, OpsAt W v l ∧ l.length ≤ Rows.uptoBulk d := by
  obtain ⟨fuel, hf⟩ := h
  rw [hone] at hf
  rcases open_slice Try.underlying22 hf with ⟨hv, hx⟩ | ⟨a, len, cap, m, n, D, Pl, hv, _, hl, hcp, hm, hx, hi⟩
  · refine ⟨[], ⟨none, 0, by simpa using hv, by simp, by unfold maxLen; omega, fun i o h => by simp at h⟩, by simp⟩
  · have hv : v = .slice (some a) len cap := by simpa using hv
    have hmc : len ≤ m := by rw [hm]; split <;> omega
    have hall : ∀ i, ∃ o : QOp, i < len → o.Ok ∧ ∀ f u, [Value.int .i64 o.kd, .int .i64 o.a, .int .i64 o.b][f]? = some u → W.cell? (a.add (i * 3 + f)) = some u := by
      intro i
      by_cases hil : i < len
      · obtain ⟨cs, hc, ht⟩ := hi i (by omega)
        obtain ⟨o, rfl, ho⟩ := op_opened ht
        refine ⟨o, fun _ => ⟨ho, fun f u hu => ?_⟩⟩
        obtain ⟨_, hlc, hat⟩ := World.cells?_some hc
        rw [op_cellsOf, op_size] at hat
        rw [← add_add]
        exact (hat f (List.getElem?_eq_some_iff.1 hu).1).trans hu
      · exact ⟨⟨0, 0, 0⟩, fun h => absurd h hil⟩
    obtain ⟨F, hF⟩ := Classical.axiomOfChoice hall
    refine ⟨(List.range len).map F, ⟨some a, cap, by simpa using hv, by simpa using hl, hcp, fun i o hio => ?_⟩, ?_⟩
    rotate_left
    · have hd : d = .slice ((List.range len).map D) ((List.range (m - len)).map fun j => D (len + j)) := congrArg Prod.fst hx
      rw [hd]
      simp only [Rows.uptoBulk, List.length_map, List.length_range]
      have := bulk_len ((List.range len).map D)
      simp at this
      omega
    obtain ⟨h1, h2⟩ := List.getElem?_eq_some_iff.1 hio
    simp at h1 h2
    subst h2
    exact ⟨(hF i h1).1, a, rfl, (hF i h1).2⟩
end Go.Proofs.Ytiehfjkiedgkhaa
