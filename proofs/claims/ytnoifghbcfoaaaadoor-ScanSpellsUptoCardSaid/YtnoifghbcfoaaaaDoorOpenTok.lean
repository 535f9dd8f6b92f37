/-
  A slice of tokens that came in: its cells, its tokens; what the bound on its bulk gives.
-/
import Derived.Test.YtnoifghbcfoaaaaDoorRows
import Derived.Test.YtnoifghbcfoaaaaDoorSpells
import Derived.Test.YtnoifghbcfoaaaaDoorLaid
import Derived.Deep.Slices
import Derived.Deep.Fields
import Derived.ChangeSame
import Derived.Carry
namespace Go.Proofs.YtnoifghbcfoaaaaDoor
open Go.ChangeShapes Go.WideShapes Go.Deep Go.RowKit

section
variable {H : Type} {enc : TypeId × Value → H} {P : Program} {w : World} {base : Nat} {spare : Nat → Bool} {held : Bool}
theorem open_slice_fields {t e : TypeId} {fs : Array Field} {fuel : Nat} {cs : List Value} {x : DataW H × List MemPlace} (ht : P.underlying t = some (.slice e)) (he : P.underlying e = some (.struct fs))
    (hone : oneCellFields P fs = true) (hC : P.cellsOf e = fs.size) (h : DataW.trod enc P w base spare held fuel t cs = some x) :
    (cs = [.slice none 0 0] ∧ x = (.nil, [])) ∨
    ∃ (a : Addr) (len cap m : Nat) (D : Nat → DataW H) (Pl : Nat → List MemPlace), cs = [.slice (some a) len cap] ∧ base ≤ a.block ∧ len ≤ cap ∧ cap ≤ maxLen ∧ m = (if spare a.block then cap else len) ∧
      x = (.slice ((List.range len).map D) ((List.range (m - len)).map fun j => D (len + j)), MemPlace.row a (m * fs.size) ++ (List.range m).flatMap Pl) ∧
      ∀ i, i < m → ∃ (ys : List (DataW H × List MemPlace)) (n : Nat), D i = .agg (ys.map (·.1)) ∧ Pl i = ys.flatMap (·.2) ∧ ys.length = fs.size ∧
        ∀ (j : Nat) (f : Field), fs[j]? = some f → ∃ (v : Value) (y : DataW H × List MemPlace), w.cell? (a.add (i * fs.size + j)) = some v ∧ ys[j]? = some y ∧ DataW.trod enc P w base spare held n f.type [v] = some y := by
  rcases open_slice ht h with h0 | ⟨a, len, cap, m, n, D, Pl, hcs, hb, hl, hm, hmm, hx, hi⟩
  · exact .inl h0
  · refine .inr ⟨a, len, cap, m, D, Pl, hcs, hb, hl, hm, hmm, by rw [hC] at hx; exact hx, fun i him => ?_⟩
    obtain ⟨cs', hc, ht'⟩ := hi i him
    rw [hC] at hc
    obtain ⟨ys, n', hn', hy, hlen, hyl, hf⟩ := DataW.trod_struct he ht'
    obtain ⟨_, hcl, hat⟩ := World.cells?_some hc
    simp only [Prod.mk.injEq] at hy
    refine ⟨ys, n', hy.1, hy.2, hyl, fun j f hj => ?_⟩
    obtain ⟨ho, hk⟩ := hone_of hone j f hj
    have hjl : j < fs.size := (Array.getElem?_eq_some_iff.1 hj).1
    have hcell := hat j hjl
    have hv : cs'[j]? = some (cs'[j]'(by omega)) := List.getElem?_eq_getElem (by omega)
    have h1 := hf j f hj
    rw [ho, hk] at h1
    have hone' : (cs'.drop j).take 1 = [cs'[j]'(by omega)] := by
      rw [List.drop_eq_getElem_cons (by omega)]
      rfl
    rw [hone'] at h1
    have hys : ys[j]? = some (ys[j]'(by omega)) := List.getElem?_eq_getElem (by omega)
    refine ⟨_, _, ?_, hys, h1.trans hys⟩
    rw [← Go.Deep.add_add, hcell, hv]
end

theorem bulk_one {H : Type} (d : DataW H) : 1 ≤ Rows.uptoBulk d := by
  cases d with
  | lit l => cases l <;> simp [Rows.uptoBulk]
  | _ => simp [Rows.uptoBulk]
theorem bulk_part {H : Type} {d : DataW H} {l : List (DataW H)} (h : d ∈ l) : Rows.uptoBulk d ≤ Rows.uptoBulkAll l := by
  induction l with
  | nil => cases h
  | cons x r ih =>
    simp only [Rows.uptoBulkAll]
    rcases List.mem_cons.1 h with rfl | h
    · omega
    · have := ih h; omega
/-- the letters of the texts, and one more for each -/
def weigh : List Tok → Nat
  | [] => 0
  | t :: r => t.text.length + 1 + weigh r
theorem spell_weigh (ts : List Tok) : (spellL (ts.map Tok.text)).length ≤ weigh ts := by
  induction ts with
  | nil => simp [spellL, weigh]
  | cons t r ih =>
    rw [List.map_cons, spellL, weigh]
    split <;> simp <;> omega
theorem len_weigh (ts : List Tok) : ts.length ≤ weigh ts := by
  induction ts with
  | nil => simp [weigh]
  | cons t r ih => rw [List.length_cons, weigh]; omega
theorem cells_inv (ts : List Tok) : ∀ (j : Nat) (u : Value), (ts.flatMap Tok.cells)[j]? = some u → ∃ k f t, j = k * 5 + f ∧ ts[k]? = some t ∧ t.cells[f]? = some u := by
  induction ts with
  | nil => intro j u h; simp at h
  | cons t r ih =>
    intro j u h
    rw [List.flatMap_cons] at h
    by_cases hj : j < 5
    · rw [List.getElem?_append_left (by simpa [Tok.cells] using hj)] at h
      exact ⟨0, j, t, by omega, rfl, h⟩
    · rw [List.getElem?_append_right (by simp [Tok.cells]; omega)] at h
      obtain ⟨k, f, t', h1, h2, h3⟩ := ih _ _ h
      have h5 : t.cells.length = 5 := rfl
      exact ⟨k + 1, f, t', by omega, h2, h3⟩
noncomputable def tokFields : Array Field := match Tryd.prog.underlying 34 with | some (.struct fs) => fs | _ => #[]
theorem tok_struct : Tryd.prog.underlying 34 = some (.struct tokFields) := by kernel_rfl
theorem tok_fields : tokFields.map (fun f => f.type) = #[3, 9, 2, 3, 3] := by kernel_rfl
theorem tok_one : oneCellFields Tryd.prog tokFields = true := by kernel_rfl
theorem tok_cellsOf : Tryd.prog.cellsOf 34 = tokFields.size := by kernel_rfl
theorem tok_size : tokFields.size = 5 := by kernel_rfl
theorem tok_field (j : Nat) {t : TypeId} (h : (tokFields.map (fun f => f.type))[j]? = some t) : ∃ f, tokFields[j]? = some f ∧ f.type = t := by
  rw [Array.getElem?_map] at h
  cases hf : tokFields[j]? with
  | none => rw [hf] at h; cases h
  | some f => rw [hf] at h; exact ⟨f, rfl, Option.some.inj h⟩

theorem cells_slice {P : Program} {W : World} {r : Reach} {b : Nat} {t e : TypeId} {v : Value} (ht : P.underlying t = some (.slice e)) (h : Value.okWide P W r b t v) : v.cells = #[v] := by
  obtain ⟨a, len, cap, rfl⟩ := okWide_slice ht h
  rfl
theorem open_tokens {H : Type} {enc : TypeId × Value → H} {W : World} {v : Value} {d : DataW H} {p : List MemPlace} (hone : v.cells = #[v]) (h : DataW.Trod enc Tryd.prog W 0 (fun _ => true) true 23 v d p) :
    ∃ ts, CameIn W v ts ∧ weigh ts ≤ Rows.uptoBulk d := by
  obtain ⟨fuel, hf⟩ := h
  rw [hone] at hf
  rcases open_slice_fields Tryd.underlying23 tok_struct tok_one tok_cellsOf hf with ⟨hv, hx⟩ | ⟨a, len, cap, m, D, Pl, hv, _, hl, _, hm, hx, hi⟩
  · refine ⟨[], .inl ⟨by simpa using hv, rfl⟩, by simp [weigh]⟩
  · have hv : v = .slice (some a) len cap := by simpa using hv
    have hmc : len ≤ m := by rw [hm]; split <;> omega
    have hall : ∀ i, ∃ t : Tok, i < len → (∀ f u, t.cells[f]? = some u → W.cell? (a.add (i * 5 + f)) = some u) ∧ t.text.length + 1 ≤ Rows.uptoBulk (D i) := by
      intro i
      by_cases hil : i < len
      · obtain ⟨ys, n, hD, _, hyl, hff⟩ := hi i (by omega)
        rw [tok_size] at hff
        obtain ⟨f0, g0, e0⟩ := tok_field 0 (by rw [tok_fields]; rfl)
        obtain ⟨f1, g1, e1⟩ := tok_field 1 (by rw [tok_fields]; rfl)
        obtain ⟨f2, g2, e2⟩ := tok_field 2 (by rw [tok_fields]; rfl)
        obtain ⟨f3, g3, e3⟩ := tok_field 3 (by rw [tok_fields]; rfl)
        obtain ⟨f4, g4, e4⟩ := tok_field 4 (by rw [tok_fields]; rfl)
        obtain ⟨v0, y0, c0, _, t0⟩ := hff 0 f0 g0
        obtain ⟨v1, y1, c1, hy1, t1⟩ := hff 1 f1 g1
        obtain ⟨v2, y2, c2, _, t2⟩ := hff 2 f2 g2
        obtain ⟨v3, y3, c3, _, t3⟩ := hff 3 f3 g3
        obtain ⟨v4, y4, c4, _, t4⟩ := hff 4 f4 g4
        rw [e0] at t0
        rw [e1] at t1
        rw [e2] at t2
        rw [e3] at t3
        rw [e4] at t4
        obtain ⟨n0, h0, _⟩ := DataW.trod_int Tryd.underlying3 t0
        obtain ⟨s1, h1, z1, _⟩ := DataW.trod_string Tryd.underlying9 t1
        obtain ⟨n2, h2, _⟩ := DataW.trod_int Tryd.underlying2 t2
        obtain ⟨n3, h3, _⟩ := DataW.trod_int Tryd.underlying3 t3
        obtain ⟨n4, h4, _⟩ := DataW.trod_int Tryd.underlying3 t4
        refine ⟨⟨n0, s1.data.toList, n2, n3, n4⟩, fun _ => ⟨fun f u hu => ?_, ?_⟩⟩
        · have hf5 : f < 5 := (List.getElem?_eq_some_iff.1 hu).1
          obtain rfl | rfl | rfl | rfl | rfl : f = 0 ∨ f = 1 ∨ f = 2 ∨ f = 3 ∨ f = 4 := by omega
          · rw [c0]; simp only [Tok.cells, List.getElem?_cons_zero] at hu; rw [← hu]; simpa using h0
          · rw [c1]; simp only [Tok.cells, List.getElem?_cons_succ, List.getElem?_cons_zero] at hu; rw [← hu, str_eq]; simpa using h1
          · rw [c2]; simp only [Tok.cells, List.getElem?_cons_succ, List.getElem?_cons_zero] at hu; rw [← hu]; simpa using h2
          · rw [c3]; simp only [Tok.cells, List.getElem?_cons_succ, List.getElem?_cons_zero] at hu; rw [← hu]; simpa using h3
          · rw [c4]; simp only [Tok.cells, List.getElem?_cons_succ, List.getElem?_cons_zero] at hu; rw [← hu]; simpa using h4
        · rw [hD]
          simp only [Rows.uptoBulk]
          have hmem : y1 ∈ ys := List.mem_of_getElem? hy1
          have := bulk_part (List.mem_map_of_mem (f := (·.1)) hmem)
          rw [z1] at this
          simp only [Rows.uptoBulk] at this
          simp at this
          simp
          omega
      · exact ⟨⟨0, [], 0, 0, 0⟩, fun h => absurd h hil⟩
    obtain ⟨F, hF⟩ := Classical.axiomOfChoice hall
    have hlen : ((List.range len).map F).length = len := by simp
    have hat : ∀ k t, ((List.range len).map F)[k]? = some t → k < len ∧ t = F k := by
      intro k t hk
      obtain ⟨h1, h2⟩ := List.getElem?_eq_some_iff.1 hk
      simp at h1 h2
      exact ⟨h1, h2.symm⟩
    refine ⟨(List.range len).map F, .inr ⟨a, cap, by rw [hlen]; exact hv, fun hne => ?_, fun j u hj => ?_⟩, ?_⟩
    · have hpos : 0 < len := by
        rcases Nat.eq_zero_or_pos len with h | h
        · subst h; exact absurd rfl hne
        · exact h
      have hc := ((hF 0) hpos).1 0 _ rfl
      simpa [add_block] using World.block_lt_of_cell? W _ hc
    · obtain ⟨k, f, t, rfl, hk, hu⟩ := cells_inv _ _ _ hj
      obtain ⟨hkl, rfl⟩ := hat k t hk
      exact ((hF k) hkl).1 f u hu
    · have hd : d = .slice ((List.range len).map D) ((List.range (m - len)).map fun j => D (len + j)) := congrArg Prod.fst hx
      rw [hd]
      simp only [Rows.uptoBulk]
      have : ∀ l : List Nat, (∀ i ∈ l, i < len) → weigh (l.map F) ≤ Rows.uptoBulkAll (l.map D) := by
        intro l
        induction l with
        | nil => intro _; simp [weigh]
        | cons i l ih =>
          intro hl'
          have h1 := ((hF i) (hl' i (by simp))).2
          have h2 := ih fun x hx => hl' x (by simp [hx])
          simp only [List.map_cons, weigh, Rows.uptoBulkAll]
          omega
      have := this (List.range len) (by simp)
      omega
theorem spells_law (v : Value) (ts0 : List Tok) (s : ByteArray) (w : World) (hc : CameIn w v ts0) (hq : weigh ts0 ≤ 1048576) (hm : s.size ≤ maxLen) (he : Errs w) : Calls Tryd.prog 5 #[v, .string s] w (Lived w) := by
  have h1 := len_weigh ts0
  have h2 := spell_weigh ts0
  exact spells_any v ts0 s w hc (by omega) (by omega) hm he
end Go.Proofs.YtnoifghbcfoaaaaDoor
