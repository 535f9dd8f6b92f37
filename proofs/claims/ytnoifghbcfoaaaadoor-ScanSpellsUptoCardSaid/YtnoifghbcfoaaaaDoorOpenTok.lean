/-
  A slice of tokens that came in: its cells, its tokens; what the bound on its bulk gives.
-/
import Derived.Test.YtnoifghbcfoaaaaDoorRows
import Derived.Test.YtnoifghbcfoaaaaDoorSpells
import Derived.Test.YtnoifghbcfoaaaaDoorLaid
import Derived.Deep.Slices
import Derived.Deep.Fields
import Derived.ChangeSame
import Derived.Carry
namespace Go.Proofs.YtnoifghbcfoaaaaDoor
open Go.ChangeShapes Go.WideShapes Go.Deep Go.RowKit

theorem bulk_one {H : Type} (d : DataW H) : 1 ≤ Rows.uptoBulk d := by
  cases d with
  | lit l => cases l <;> simp [Rows.uptoBulk]
  | _ => simp [Rows.uptoBulk]
theorem bulk_part {H : Type} {d : DataW H} {l : List (DataW H)} (h : d ∈ l) : Rows.uptoBulk d ≤ Rows.uptoBulkAll l := by
  induction l with
  | nil => cases h
  | cons x r ih =>
    simp only [Rows.uptoBulkAll]
    rcases List.mem_cons.1 h with rfl | h
    · omega
    · have := ih h; omega
/-- the letters of the texts, and one more for each -/
def weigh : List Tok → Nat
  | [] => 0
  | t :: r => t.text.length + 1 + weigh r
theorem spell_weigh (ts : List Tok) : (spellL (ts.map Tok.text)).length ≤ weigh ts := by
  induction ts with
  | nil => simp [spellL, weigh]
  | cons t r ih =>
    rw [List.map_cons, spellL, weigh]
    split <;> simp <;> omega
theorem len_weigh (ts : List Tok) : ts.length ≤ weigh ts := by
  induction ts with
  | nil => simp [weigh]
  | cons t r ih => rw [List.length_cons, weigh]; omega
theorem cells_inv (ts : List Tok) : ∀ (j : Nat) (u : Value), (ts.flatMap Tok.cells)[j]? = some u → ∃ k f t, j = k * 5 + f ∧ ts[k]? = some t ∧ t.cells[f]? = some u := by
  induction ts with
  | nil => intro j u h; simp at h
  | cons t r ih =>
    intro j u h
    rw [List.flatMap_cons] at h
    by_cases hj : j < 5
    · rw [List.getElem?_append_left (by simpa [Tok.cells] using hj)] at h
      exact ⟨0, j, t, by omega, rfl, h⟩
    · rw [List.getElem?_append_right (by simp [Tok.cells]; omega)] at h
      obtain ⟨k, f, t', h1, h2, h3⟩ := ih _ _ h
      have h5 : t.cells.length = 5 := rfl
      exact ⟨k + 1, f, t', by omega, h2, h3⟩
noncomputable def tokFields : Array Field := match Tryd.prog.underlying 34 with | some (.struct fs) => fs | _ => #[]
theorem tok_struct : Tryd.prog.underlying 34 = some (.struct tokFields) := by kernel_rfl
theorem tok_fields : tokFields.map (fun f => f.type) = #[3, 9, 2, 3, 3] := by kernel_rfl
theorem tok_one : oneCellFields Tryd.prog tokFields = true := by kernel_rfl
theorem tok_cellsOf : Tryd.prog.cellsOf 34 = tokFields.size := by kernel_rfl
theorem tok_size : tokFields.size = 5 := by kernel_rfl
theorem tok_field (j : Nat) {t : TypeId} (h : (tokFields.map (fun f => f.type))[j]? = some t) : ∃ f, tokFields[j]? = some f ∧ f.type = t := by
  rw [Array.getElem?_map] at h
  cases hf : tokFields[j]? with
  | none => rw [hf] at h; cases h
  | some f => rw [hf] at h; exact ⟨f, rfl, Option.some.inj h⟩

theorem cells_slice {P : Program} {W : World} {r : Reach} {b : Nat} {t e : TypeId} {v : Value} (ht : P.underlying t = some (.slice e)) (h : Value.okWide P W r b t v) : v.cells = #[v] := by
  obtain ⟨a, len, cap, rfl⟩ := okWide_slice ht h
  rfl
theorem five {α : Type _} {l : List α} (h : l.length = 5) : ∃ a b c d e, l = [a, b, c, d, e] := by
  match l, h with
  | [a, b, c, d, e], _ => exact ⟨a, b, c, d, e, rfl⟩
/-- one token read as data: five cells, and its text's letters weigh in its bulk -/
theorem tok_opened {H : Type} {enc : TypeId × Value → H} {W : World} {base fuel : Nat} {spare : Nat → Bool} {held : Bool} {cs : List Value} {x : DataW H × List MemPlace} (h : DataW.trod enc Tryd.prog W base spare held fuel 34 cs = some x) :
    ∃ t : Tok, cs = t.cells ∧ t.text.length + 1 ≤ Rows.uptoBulk x.1 := by
  obtain ⟨ys, n, _, rfl, hl, hy, hf⟩ := DataW.trod_struct tok_struct h
  rw [tok_size] at hy
  have hl : cs.length = 5 := hl.trans (tok_cellsOf.trans tok_size)
  have part : ∀ (j : Nat) (t : TypeId) (y : DataW H × List MemPlace), (tokFields.map (fun f => f.type))[j]? = some t → ys[j]? = some y → DataW.trod enc Tryd.prog W base spare held n t ((cs.drop j).take 1) = some y := by
    intro j t y ht hj
    obtain ⟨f, hfj, rfl⟩ := tok_field j ht
    obtain ⟨ho, hk⟩ := hone_of tok_one j f hfj
    have := hf j f hfj
    rw [ho, hk] at this
    exact this.trans hj
  obtain ⟨_, _, _, _, _, rfl⟩ := five hl
  obtain ⟨y0, y1, y2, y3, y4, rfl⟩ := five hy
  obtain ⟨n0, h0, _⟩ := DataW.trod_int Tryd.underlying3 (part 0 3 y0 (by rw [tok_fields]; rfl) rfl)
  obtain ⟨s1, h1, z1, _⟩ := DataW.trod_string Tryd.underlying9 (part 1 9 y1 (by rw [tok_fields]; rfl) rfl)
  obtain ⟨n2, h2, _⟩ := DataW.trod_int Tryd.underlying2 (part 2 2 y2 (by rw [tok_fields]; rfl) rfl)
  obtain ⟨n3, h3, _⟩ := DataW.trod_int Tryd.underlying3 (part 3 3 y3 (by rw [tok_fields]; rfl) rfl)
  obtain ⟨n4, h4, _⟩ := DataW.trod_int Tryd.underlying3 (part 4 3 y4 (by rw [tok_fields]; rfl) rfl)
  simp only [List.drop_zero, List.drop_succ_cons, List.take_succ_cons, List.take_zero, List.cons.injEq, and_true] at h0 h1 h2 h3 h4
  subst h0 h1 h2 h3 h4
  refine ⟨⟨n0, s1.data.toList, n2, n3, n4⟩, by simp [Tok.cells, str_eq], ?_⟩
  rw [z1]
  simp only [List.map_cons, List.map_nil, Rows.uptoBulk, Rows.uptoBulkAll]
  omega

theorem open_tokens {H : Type} {enc : TypeId × Value → H} {W : World} {v : Value} {d : DataW H} {p : List MemPlace} (hone : v.cells = #[v]) (h : DataW.Trod enc Tryd.prog W 0 (fun _ => true) true 23 v d p) :
    ∃ ts, CameIn W v ts ∧ weigh ts ≤ Rows.uptoBulk d := by
  obtain ⟨fuel, hf⟩ := h
  rw [hone] at hf
  rcases open_slice Tryd.underlying23 hf with ⟨hv, hx⟩ | ⟨a, len, cap, m, n, D, Pl, hv, _, hl, _, hm, hx, hi⟩
  · exact ⟨[], .inl ⟨by simpa using hv, rfl⟩, by simp [weigh]⟩
  · have hv : v = .slice (some a) len cap := by simpa using hv
    have hmc : len ≤ m := by rw [hm]; split <;> omega
    have hall : ∀ i, ∃ t : Tok, i < len → (∀ f u, t.cells[f]? = some u → W.cell? (a.add (i * 5 + f)) = some u) ∧ t.text.length + 1 ≤ Rows.uptoBulk (D i) := by
      intro i
      by_cases hil : i < len
      · obtain ⟨cs, hc, ht⟩ := hi i (by omega)
        obtain ⟨t, rfl, hb⟩ := tok_opened ht
        refine ⟨t, fun _ => ⟨fun f u hu => ?_, hb⟩⟩
        obtain ⟨_, hlc, hat⟩ := World.cells?_some hc
        rw [tok_cellsOf, tok_size] at hat
        rw [← add_add]
        exact (hat f (List.getElem?_eq_some_iff.1 hu).1).trans hu
      · exact ⟨⟨0, [], 0, 0, 0⟩, fun h => absurd h hil⟩
    obtain ⟨F, hF⟩ := Classical.axiomOfChoice hall
    have hlen : ((List.range len).map F).length = len := by simp
    have hat : ∀ k t, ((List.range len).map F)[k]? = some t → k < len ∧ t = F k := by
      intro k t hk
      obtain ⟨h1, h2⟩ := List.getElem?_eq_some_iff.1 hk
      simp at h1 h2
      exact ⟨h1, h2.symm⟩
    refine ⟨(List.range len).map F, .inr ⟨a, cap, by rw [hlen]; exact hv, fun hne => ?_, fun j u hj => ?_⟩, ?_⟩
    · have hpos : 0 < len := by
        rcases Nat.eq_zero_or_pos len with h | h
        · subst h; exact absurd rfl hne
        · exact h
      have hc := ((hF 0) hpos).1 0 _ rfl
      simpa [add_block] using World.block_lt_of_cell? W _ hc
    · obtain ⟨k, f, t, rfl, hk, hu⟩ := cells_inv _ _ _ hj
      obtain ⟨hkl, rfl⟩ := hat k t hk
      exact ((hF k) hkl).1 f u hu
    · have hd : d = .slice ((List.range len).map D) ((List.range (m - len)).map fun j => D (len + j)) := congrArg Prod.fst hx
      rw [hd]
      simp only [Rows.uptoBulk]
      have : ∀ l : List Nat, (∀ i ∈ l, i < len) → weigh (l.map F) ≤ Rows.uptoBulkAll (l.map D) := by
        intro l
        induction l with
        | nil => intro _; simp [weigh]
        | cons i l ih =>
          intro hl'
          have h1 := ((hF i) (hl' i (by simp))).2
          have h2 := ih fun x hx => hl' x (by simp [hx])
          simp only [List.map_cons, weigh, Rows.uptoBulkAll]
          omega
      have := this (List.range len) (by simp)
      omega
theorem spells_law (v : Value) (ts0 : List Tok) (s : ByteArray) (w : World) (hc : CameIn w v ts0) (hq : weigh ts0 ≤ 1048576) (hm : s.size ≤ maxLen) (he : Errs w) : Calls Tryd.prog 5 #[v, .string s] w (Lived w) := by
  have h1 := len_weigh ts0
  have h2 := spell_weigh ts0
  exact spells_any v ts0 s w hc (by omega) (by omega) hm he
end Go.Proofs.YtnoifghbcfoaaaaDoor
