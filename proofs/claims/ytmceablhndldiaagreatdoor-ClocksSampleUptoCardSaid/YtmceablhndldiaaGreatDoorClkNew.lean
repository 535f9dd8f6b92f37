/-
  clocks.Fits: the clocks of variables that came in, the first of each name.
-/
import Derived.Test.YtmceablhndldiaaGreatDoorClkAll
import Derived.Carry
namespace Go.Proofs.YtmceablhndldiaaGreatDoor
open Go.RowKit

theorem lookV_snoc (vs : List Vr) (v : Vr) (s : Tx) : lookV (vs ++ [v]) s = match lookV vs s with
    | some d => some d
    | none => if v.1 = s then some v.2 else none := by
  induction vs with
  | nil => simp [lookV]
  | cons u r ih =>
    rw [List.cons_append, lookV, lookV]
    by_cases h : u.1 = s
    · rw [if_pos h, if_pos h]
    · rw [if_neg h, if_neg h, ih]
/-- 'm[s] = v' in a region that draws its order -/
theorem step_put {ops : Array Oper} {o : Oper} {a : Act} {W : World} {K : Act → World → Prop} {Q : Exit → Act → World → Prop} {E : Prop} (hg : o.guard = none) (m x y : Operand) (t : TypeId) (hop : o.op = Op.mapUpdate t m x y)
    {e : TypeId} (ht : Tryz.prog.underlying t = some (.map 9 e)) {b : Nat} {l : List (Tx × Value)} {s : Tx} {v : Value} (hm : a.eval m = .map (some b)) (hx : a.eval x = .string (str s)) (hv : a.eval y = v) (h : MapAt W b l) (hs : s.length ≤ maxLen) (hn : s ∉ l.map Prod.fst)
    (hK : ∀ w', MapAt w' b (l ++ [(s, v)]) → W.grownBy w' (some b) → K (a.put o.dst undef) w') : if Region.wanted o (yielded ops a.tmps) = true then Oper.wp Tryz.prog o a W K Q else E := by
  have hw : Region.wanted o (yielded ops a.tmps) = true := by simp [Region.wanted, hg]
  rw [if_pos hw]
  obtain ⟨w', hrun, r1, r2⟩ := h.put (v := v) ht hs hn
  unfold Oper.wp
  simp [execOp, hop, hm, hx, hv, hrun, Result.andThen]
  exact hK w' r1 r2
set_option maxHeartbeats 1000000 in
theorem newTiming_any (w : World) : Calls Tryz.prog 17 #[] w fun e w' => ∃ T m R, e = .returned (.pointer (some ⟨T, 0, none⟩)) ∧ TimAt w' T m R ∧ MapAt w' m [] ∧ w.heap.size ≤ m ∧ m ≠ T ∧ m ≠ R ∧ Below w.heap.size w w' := by
  have m0 := MapAt.made w
  have hmm := @run_makeMap Tryz.prog
  go_enter Tryz.func17, Tryz.ntmps17
  go_wp2_with fail
  go_ret
  refine ⟨w.heap.size + 1 + 1, w.heap.size, w.heap.size + 1, rfl, ⟨alloc_at (by simp), heap_alloc_keep (alloc_at (by simp))⟩, (m0.under ((Below.refl _ _).alloc (Nat.le_refl _) _)).under ((Below.refl _ _).alloc (Nat.le_refl _) _), Nat.le_refl _, by omega, by omega, (((Below.refl _ _).alloc (Nat.le_refl _) _).alloc (by simp) _).alloc (by simp; omega) _⟩
/-- the first of each name among those listed so far -/
def MapP (w0 : World) (l : List (Tx × Value)) (vs : List Vr) : Prop := ∀ s, (s ∉ l.map Prod.fst ∧ lookV vs s = none) ∨ ∃ A k d, (s, .agg #[.int .i64 0, .slice A d.length k]) ∈ l ∧ lookV vs s = some d ∧ ClkAt w0 (.slice A d.length k) d ∧ d.length ≤ 2097151
theorem MapP.env {w0 W : World} {T m R : Nat} {l : List (Tx × Value)} {vs : List Vr} (h : MapP w0 l vs) (ht : TimAt W T m R) (hm : MapAt W m l) (hb : Below w0.heap.size w0 W) : EnvC T m R l vs W :=
  ⟨ht, hm, fun s => (h s).imp id fun ⟨A, k, d, h1, h2, h3, h4⟩ => ⟨A, k, d, h1, h2, h3.under hb, h4⟩⟩
theorem MapP.nil (w0 : World) : MapP w0 [] [] := fun s => .inl ⟨by simp, rfl⟩
theorem MapP.old {w0 : World} {l : List (Tx × Value)} {vs : List Vr} {v : Vr} (h : MapP w0 l vs) (hv : v.1 ∈ l.map Prod.fst) : MapP w0 l (vs ++ [v]) := fun s => by
  rw [lookV_snoc]
  rcases h s with ⟨h1, h2⟩ | ⟨A, k, d, h1, h2, h3⟩
  · refine .inl ⟨h1, ?_⟩
    rw [h2]
    show (if v.1 = s then some v.2 else none) = none
    rw [if_neg fun e => h1 (by rw [← e]; exact hv)]
  · exact .inr ⟨A, k, d, h1, by rw [h2], h3⟩
theorem MapP.add {w0 : World} {l : List (Tx × Value)} {vs : List Vr} {v : Vr} {A : Option Addr} {k : Nat} (h : MapP w0 l vs) (hc : ClkAt w0 (.slice A v.2.length k) v.2) (hl : v.2.length ≤ 2097151) : MapP w0 (l ++ [(v.1, .agg #[.int .i64 0, .slice A v.2.length k])]) (vs ++ [v]) := fun s => by
  rw [lookV_snoc]
  rcases h s with ⟨h1, h2⟩ | ⟨B, j, d, h1, h2, h3⟩
  · rw [h2]
    show _ ∨ ∃ A k d, _ ∧ (if v.1 = s then some v.2 else none) = some d ∧ _
    by_cases hs : v.1 = s
    · subst hs
      exact .inr ⟨A, k, v.2, by simp, by rw [if_pos rfl], hc, hl⟩
    · refine .inl ⟨?_, by rw [if_neg hs]⟩
      rw [List.map_append, List.mem_append]
      rintro (h | h)
      · exact h1 h
      · simp at h; exact hs h.symm
  · exact .inr ⟨B, j, d, List.mem_append_left _ h1, by rw [h2], h3⟩
/-- what a lookup of a name answers -/
theorem MapP.look {w0 W : World} {m : Nat} {l : List (Tx × Value)} {vs : List Vr} (h : MapP w0 l vs) (hm : MapAt W m l) {s : Tx} (hs : s.length ≤ maxLen) : ∃ B j n, ∃ b : Bool, (b = true ↔ s ∈ l.map Prod.fst) ∧ ∀ W', Below W.heap.size W W' → (Instr.lookup 70 (.map (some m)) (.string (str s)) true).run Tryz.prog W' = .ok (.tuple #[.agg #[.int .i64 0, .slice B n j], .bool b]) W' := by
  rcases h s with ⟨h1, h2⟩ | ⟨A, k, d, h1, h2, h3⟩
  · exact ⟨none, 0, 0, false, by simp at h1 ⊢; exact h1, fun W' hb => (hm.under hb).look_no Tryz.underlying70 (zeroC W') hs h1⟩
  · exact ⟨A, k, d.length, true, by simp only [true_iff]; exact List.mem_map_of_mem (f := Prod.fst) h1, fun W' hb => (hm.under hb).look_yes Tryz.underlying70 h1⟩
theorem row3n {w : World} {N : Nat} {T : TypeId} {v0 v1 v2 : Value} (h : w.heap[N]? = some (.cells #[v0, v1, v2] T (0, 0))) : w.cell? ⟨N, 0, none⟩ = some v0 ∧ w.cell? ⟨N, 1, none⟩ = some v1 ∧ w.cell? ⟨N, 2, none⟩ = some v2 := by
  rw [cell_of_row _ _ _ _ _ _ h, cell_of_row _ _ _ _ _ _ h, cell_of_row _ _ _ _ _ _ h]
  exact ⟨rfl, rfl, rfl⟩
end Go.Proofs.YtmceablhndldiaaGreatDoor
