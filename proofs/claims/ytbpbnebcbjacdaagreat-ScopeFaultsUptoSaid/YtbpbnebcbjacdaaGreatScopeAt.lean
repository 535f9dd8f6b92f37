/-
  The scope of a program in memory, and what it keeps of it; booleans, newProgramScope, addEnum.
-/
import Derived.Test.YtbpbnebcbjacdaaGreatScopeRec
import Derived.Test.YtbpbnebcbjacdaaGreatHeld
namespace Go.Proofs.YtbpbnebcbjacdaaGreat
open Go.RowKit
open Go.ChangeMaps Go.MapKept
open Go.Maps

theorem rowM4 {w : World} {N : Nat} {T0 : TypeId} {v0 v1 v2 v3 : Value} (h : w.heap[N]? = some (.cells #[v0, v1, v2, v3] T0 (0, 0))) : w.cell? ⟨N, 0, none⟩ = some v0 ∧ w.cell? ⟨N, 1, none⟩ = some v1 ∧ w.cell? ⟨N, 2, none⟩ = some v2 ∧ w.cell? ⟨N, 3, none⟩ = some v3 := by simp [World.cell?, h]
def unitV : Value := .agg #[]
def EnumV (w : World) (v : Value) (cs : List Tx) : Prop := ∃ s A m j, v = .agg #[.string s, .slice A m j] ∧ StrsAt w (.slice A m j) cs
def NodeV (v : Value) (n : QNode) : Prop := ∃ s A1 c1 A2 c2 A3 c3 A4 m4 c4, v = .agg #[.string s, .slice A1 n.funs.length c1, .slice A2 n.ins.length c2, .slice A3 n.outs.length c3, .slice A4 m4 c4]
def ConsR (w : World) (l : List (Tx × Value)) (cs : List (Tx × List Tx)) : Prop := keysOf l = cs.map Prod.fst ∧ ∀ (i : Nat) a b, l[i]? = some a → cs[i]? = some b → EnumV w a.2 b.2
def NodesR (l : List (Tx × Value)) (ns : List (Tx × QNode)) : Prop := keysOf l = ns.map Prod.fst ∧ ∀ (i : Nat) a b, l[i]? = some a → ns[i]? = some b → NodeV a.2 b.2
structure ScopeAt (w : World) (P e c n t : Nat) (s : SProg) : Prop where
  box : w.heap[P]? = some (.cells #[.map (some e), .map (some c), .map (some n), .map (some t)] 85 (0, 0))
  me : MapAt w e (withV unitV s.enums)
  mc : ∃ l, MapAt w c l ∧ ConsR w l s.cons
  mn : ∃ l, MapAt w n l ∧ NodesR l s.nodes
  mt : MapAt w t (withV unitV s.states)
  nd : e ≠ c ∧ e ≠ n ∧ e ≠ t ∧ c ≠ n ∧ c ≠ t ∧ n ≠ t
theorem MapAt.notbox {w : World} {b : Nat} {l : List (Tx × Value)} (h : MapAt w b l) {g : Nat} {cs : Array Value} {T0 : TypeId} {fz : Nat × Nat} (hg : w.heap[g]? = some (.cells cs T0 fz)) : g ≠ b := by
  obtain ⟨es, clock, hb, _⟩ := h
  intro e
  rw [e, hb] at hg
  cases hg
theorem EnumV.kept {w w' : World} {b : Nat} {l : List (Tx × Value)} {v : Value} {cs : List Tx} (h : EnumV w v cs) (hm : MapAt w b l) (hk : KeptM [b] w w') : EnumV w' v cs := by
  obtain ⟨s, A, m, j, rfl, hs⟩ := h
  exact ⟨s, A, m, j, rfl, hs.kept hm hk⟩
theorem ConsR.kept {w w' : World} {b : Nat} {l m : List (Tx × Value)} {cs : List (Tx × List Tx)} (h : ConsR w l cs) (hm : MapAt w b m) (hk : KeptM [b] w w') : ConsR w' l cs :=
  ⟨h.1, fun i a c ha hc => (h.2 i a c ha hc).kept hm hk⟩
theorem ConsR.under {w w' : World} {l : List (Tx × Value)} {cs : List (Tx × List Tx)} (h : ConsR w l cs) (hb : Below w.heap.size w w') : ConsR w' l cs :=
  ⟨h.1, fun i a c ha hc => by obtain ⟨s, A, m, j, e, hs⟩ := h.2 i a c ha hc; exact ⟨s, A, m, j, e, hs.under hb⟩⟩
theorem MapAt.keptM {w w' : World} {M : List Nat} {b : Nat} {l : List (Tx × Value)} (h : MapAt w b l) (hk : KeptM M w w') (hb : b ∉ M) : MapAt w' b l := h.block (hk.block b h.lt hb)
section
variable {w w' : World} {P e c n t : Nat} {s : SProg}
theorem ScopeAt.under (h : ScopeAt w P e c n t s) (hb : Below w.heap.size w w') : ScopeAt w' P e c n t s := by
  obtain ⟨lc, hc, hr⟩ := h.mc
  obtain ⟨ln, hn, hq⟩ := h.mn
  exact ⟨box_next hb h.box, h.me.under hb, ⟨lc, hc.under hb, hr.under hb⟩, ⟨ln, hn.under hb, hq⟩, h.mt.under hb, h.nd⟩
/-- another map is written -/
theorem ScopeAt.other {f : Nat} {m : List (Tx × Value)} (h : ScopeAt w P e c n t s) (hm : MapAt w f m) (hk : KeptM [f] w w') (hf : f ≠ e ∧ f ≠ c ∧ f ≠ n ∧ f ≠ t) : ScopeAt w' P e c n t s := by
  obtain ⟨h1, h2, h3, h4⟩ := hf
  obtain ⟨lc, hc, hr⟩ := h.mc
  obtain ⟨ln, hn, hq⟩ := h.mn
  exact ⟨box_kept hk (by simpa using hm.notbox h.box) h.box, h.me.keptM hk (by simpa using h1.symm), ⟨lc, hc.keptM hk (by simpa using h2.symm), hr.kept hm hk⟩, ⟨ln, hn.keptM hk (by simpa using h3.symm), hq⟩, h.mt.keptM hk (by simpa using h4.symm), h.nd⟩
theorem ScopeAt.putE (h : ScopeAt w P e c n t s) (hk : KeptM [e] w w') {l : List Tx} (hm : MapAt w' e (withV unitV l)) : ScopeAt w' P e c n t { s with enums := l } := by
  obtain ⟨h1, h2, h3, h4, h5, h6⟩ := h.nd
  obtain ⟨lc, hc, hr⟩ := h.mc
  obtain ⟨ln, hn, hq⟩ := h.mn
  exact ⟨box_kept hk (by simpa using h.me.notbox h.box) h.box, hm, ⟨lc, hc.keptM hk (by simpa using h1.symm), hr.kept h.me hk⟩, ⟨ln, hn.keptM hk (by simpa using h2.symm), hq⟩, h.mt.keptM hk (by simpa using h3.symm), h.nd⟩
theorem ScopeAt.putT (h : ScopeAt w P e c n t s) (hk : KeptM [t] w w') {l : List Tx} (hm : MapAt w' t (withV unitV l)) : ScopeAt w' P e c n t { s with states := l } := by
  obtain ⟨h1, h2, h3, h4, h5, h6⟩ := h.nd
  obtain ⟨lc, hc, hr⟩ := h.mc
  obtain ⟨ln, hn, hq⟩ := h.mn
  exact ⟨box_kept hk (by simpa using h.mt.notbox h.box) h.box, h.me.keptM hk (by simpa using h3), ⟨lc, hc.keptM hk (by simpa using h5), hr.kept h.mt hk⟩, ⟨ln, hn.keptM hk (by simpa using h6), hq⟩, hm, h.nd⟩
theorem ScopeAt.putC {m lc : List (Tx × Value)} {l : List (Tx × List Tx)} (h : ScopeAt w P e c n t s) (hm0 : MapAt w c m) (hk : KeptM [c] w w') (hm : MapAt w' c lc) (hr : ConsR w' lc l) : ScopeAt w' P e c n t { s with cons := l } := by
  obtain ⟨h1, h2, h3, h4, h5, h6⟩ := h.nd
  obtain ⟨ln, hn, hq⟩ := h.mn
  exact ⟨box_kept hk (by simpa using hm0.notbox h.box) h.box, h.me.keptM hk (by simpa using h1), ⟨lc, hm, hr⟩, ⟨ln, hn.keptM hk (by simpa using h4.symm), hq⟩, h.mt.keptM hk (by simpa using h5.symm), h.nd⟩
theorem ScopeAt.putN {m ln : List (Tx × Value)} {l : List (Tx × QNode)} (h : ScopeAt w P e c n t s) (hm0 : MapAt w n m) (hk : KeptM [n] w w') (hm : MapAt w' n ln) (hr : NodesR ln l) : ScopeAt w' P e c n t { s with nodes := l } := by
  obtain ⟨h1, h2, h3, h4, h5, h6⟩ := h.nd
  obtain ⟨lc, hc, hq⟩ := h.mc
  exact ⟨box_kept hk (by simpa using hm0.notbox h.box) h.box, h.me.keptM hk (by simpa using h2), ⟨lc, hc.keptM hk (by simpa using h4), hq.kept hm0 hk⟩, ⟨ln, hm, hr⟩, h.mt.keptM hk (by simpa using h6.symm), h.nd⟩
end
theorem ConsR.snoc {w : World} {l : List (Tx × Value)} {cs : List (Tx × List Tx)} {v : Value} {names L : List Tx} (h : ConsR w l cs) (hv : EnumV w v L) : ConsR w (l ++ withV v names) (cs ++ names.map fun c => (c, L)) := by
  have hlen : l.length = cs.length := by have := congrArg List.length h.1; simpa [keysOf] using this
  refine ⟨?_, fun i a b ha hb => ?_⟩
  · rw [keysOf_app, keysOf_with, h.1, List.map_append, List.map_map]
    congr 1
    induction names with
    | nil => rfl
    | cons x r ih => rw [List.map_cons, ← ih]; rfl
  · by_cases hi : i < l.length
    · rw [List.getElem?_append_left hi] at ha
      rw [List.getElem?_append_left (by omega)] at hb
      exact h.2 i a b ha hb
    · rw [List.getElem?_append_right (by omega)] at ha
      rw [List.getElem?_append_right (by omega)] at hb
      have h1 := List.mem_of_getElem? ha
      have h2 := List.mem_of_getElem? hb
      obtain ⟨x, _, rfl⟩ := List.mem_map.1 h1
      obtain ⟨y, _, rfl⟩ := List.mem_map.1 h2
      exact hv
theorem ConsR.sh {w : World} {l : List (Tx × Value)} {cs : List (Tx × List Tx)} (h : ConsR w l cs) : ∀ p ∈ l, ShE p.2 := by
  intro p hp
  obtain ⟨i, hi⟩ := List.getElem?_of_mem hp
  have hlen : l.length = cs.length := by have := congrArg List.length h.1; simpa [keysOf] using this
  have hl : i < cs.length := by rw [← hlen]; exact (List.getElem?_eq_some_iff.1 hi).1
  obtain ⟨s, A, m, j, e, _⟩ := h.2 i p _ hi (List.getElem?_eq_getElem hl)
  exact ⟨s, A, m, j, e⟩
theorem NodesR.sh {l : List (Tx × Value)} {ns : List (Tx × QNode)} (h : NodesR l ns) : ∀ p ∈ l, ShN p.2 := by
  intro p hp
  obtain ⟨i, hi⟩ := List.getElem?_of_mem hp
  have hlen : l.length = ns.length := by have := congrArg List.length h.1; simpa [keysOf] using this
  have hl : i < ns.length := by rw [← hlen]; exact (List.getElem?_eq_some_iff.1 hi).1
  obtain ⟨s, A1, c1, A2, c2, A3, c3, A4, m4, c4, e⟩ := h.2 i p _ hi (List.getElem?_eq_getElem hl)
  exact ⟨s, A1, A2, A3, A4, _, c1, _, c2, _, c3, m4, c4, e⟩
theorem sh_unit (l : List Tx) : ∀ p ∈ withV unitV l, ShS p.2 := by
  intro p hp
  obtain ⟨_, _, rfl⟩ := List.mem_map.1 hp
  rfl
def boolsV : Obj := .cells #[.string ⟨#[70, 97, 108, 115, 101]⟩, .string ⟨#[84, 114, 117, 101]⟩] 9
theorem bools_at (w : World) : StrsAt (w.alloc boolsV) (.slice (some ⟨w.heap.size, 0, none⟩) 2 2) boolsL :=
  ⟨_, 2, rfl, by decide, by unfold maxLen; omega, fun i x hx => by
    obtain ⟨x0, x1⟩ := row2 (show (w.alloc boolsV).heap[w.heap.size]? = some (.cells #[.string (str [70, 97, 108, 115, 101]), .string (str [84, 114, 117, 101])] 9 (0, 0)) from heap_alloc_new w boolsV)
    match i with
    | 0 => cases hx; exact ⟨_, ⟨_, rfl, fun j u hu => by
        have hj : j = 0 := by have := (List.getElem?_eq_some_iff.1 hu).1; simp at this; exact this
        subst hj; cases hu
        simpa [Addr.add] using x0⟩, rfl, by unfold maxLen; decide⟩
    | 1 => cases hx; exact ⟨_, ⟨_, rfl, fun j u hu => by
        have hj : j = 0 := by have := (List.getElem?_eq_some_iff.1 hu).1; simp at this; exact this
        subst hj; cases hu
        simpa [Addr.add] using x1⟩, rfl, by unfold maxLen; decide⟩
    | i + 2 => simp [boolsL] at hx⟩
set_option maxHeartbeats 400000 in
theorem booleans_any (w : World) : Calls Tryz.prog 31 #[] w fun e w' => e = .returned (.slice (some ⟨w.heap.size, 0, none⟩) 2 2) ∧ w' = w.alloc boolsV := by
  go_enter Tryz.func31, Tryz.ntmps31
  go_wp2_with fail
  go_ret
  exact ⟨rfl, rfl⟩
end Go.Proofs.YtbpbnebcbjacdaaGreat
