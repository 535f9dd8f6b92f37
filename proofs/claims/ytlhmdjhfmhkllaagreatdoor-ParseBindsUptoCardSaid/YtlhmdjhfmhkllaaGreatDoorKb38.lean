/-
  Texts joined.
-/
import Derived.Test.YtlhmdjhfmhkllaaGreatDoorKb03
import Derived.Test.YtlhmdjhfmhkllaaGreatDoorKb20
import Derived.Test.YtlhmdjhfmhkllaaGreatDoorKb37
namespace Go.Proofs.YtlhmdjhfmhkllaaGreatDoor
open Go.RowKit
theorem tok_flat : ∀ (ts : List Tok) (k : Nat) (t : Tok), ts[k]? = some t → ∀ f, f < 5 → (ts.flatMap Tok.cells)[k * 5 + f]? = t.cells[f]? := by
  intro ts; induction ts with
  | nil => intro k t h; simp at h
  | cons x r ih =>
    intro k t h f hf; have hx : x.cells.length = 5 := rfl; rw [List.flatMap_cons]; cases k with
    | zero =>
      simp only [List.getElem?_cons_zero, Option.some.injEq] at h; subst h; rw [List.getElem?_append_left (by rw [hx]; omega)]; congr 1; omega
    | succ k =>
      rw [List.getElem?_cons_succ] at h; rw [List.getElem?_append_right (by rw [hx]; omega), hx, show (k + 1) * 5 + f - 5 = k * 5 + f from by omega]; exact ih k t h f hf
theorem litN_i64 {l : Tx} (hl : l ≠ []) (hr : ∀ c ∈ l, moreB c = true) : 0 ≤ litN l ∧ litN l ≤ 9223372036854775807 := by
  unfold litN; by_cases h : AllDig l
  · rw [litL_dig hl h]; split
    · simp
    · split
      · simp only [Option.getD_some]; omega
      · simp
  · rw [litL_not hr h]; simp
theorem tokNum_i64 (m : Tx) : i64B (tokNum m) := by
  unfold tokNum i64B; split
  · omega
  · rename_i h; have h1 := litN_i64 (l := m.take (runL m)) (fun e => h (by have := congrArg List.length e; have := runL_le m; simp only [List.length_take, List.length_nil] at *; omega)) (run_take m); unfold numL; repeat' split
    all_goals omega
def FitTok (t : Tok) : Prop := t.text.length ≤ 65536 ∧ i64B t.num
theorem fit_scanF : ∀ (f : Nat) (l : Tx) (p : Int × Int), l.length ≤ 65536 → ∀ t ∈ (scanF f l p).1, FitTok t := by
  intro f; induction f with
  | zero => intro l p _ t ht; simp [scanF] at ht
  | succ f ih =>
    intro l p hl; have hd : (l.drop (gapL l)).length ≤ 65536 := (by rw [List.length_drop]; omega); have hf : ∀ q, FitTok (tokAt (l.drop (gapL l)) q) := fun q => ⟨Nat.le_trans (tokText_le _) hd, tokNum_i64 _⟩; by_cases h0 : tokSort (l.drop (gapL l)) = 0
    · rw [scanF_none h0]; exact fun t ht => by cases ht
    · by_cases h6 : tokSort (l.drop (gapL l)) = 6
      · rw [scanF_end h6]; intro t ht; rw [List.mem_singleton.1 ht]; exact hf _
      · rw [scanF_tok h0 h6]; intro t ht; rcases List.mem_cons.1 ht with rfl | ht
        · exact hf _
        · exact ih _ _ (by rw [List.length_drop]; omega) t ht
/-- what Scan answers -/
def ScanAllPost (s : Tx) (w : World) (e : Ending) (w' : World) : Prop := Below w.heap.size w w' ∧
  match scanL s with
  | .inr f => e = .returned (.tuple #[.slice none 0 0, .agg #[.int .i64 f.1, .int .i64 f.2.1, .int .i64 f.2.2]])
  | .inl ts => ∃ g cap, e = .returned (.tuple #[.slice (some ⟨g, 0, none⟩) ts.length cap, .agg #[.int .i64 0, .int .i64 0, .int .i64 0]]) ∧ w.heap.size ≤ g ∧ g < w'.heap.size ∧ SliceAt w' TokCell (.slice (some ⟨g, 0, none⟩) ts.length cap) ts
theorem scan_all (s : Tx) (w : World) (hm : s.length ≤ maxLen) (he : Errs w) : Calls Tryz.prog 38 #[.string (str s)] w (ScanAllPost s w) := by
  by_cases hb : 65536 < s.length
  · refine (scan_big (str s) w hb hm).mono ?_; rintro e w' ⟨rfl, h1⟩; refine ⟨h1, ?_⟩; rw [scanL, if_pos hb]
  · refine (scan_any (str s) w (by rw [str_size]; omega) he).mono ?_; rintro e w' ⟨h1, h2⟩; rw [str_toList] at h2; refine ⟨h1, ?_⟩; rw [scanL, if_neg hb]; obtain ⟨q, hq⟩ : ∃ q, scanAll s = q := ⟨_, rfl⟩; obtain ⟨ts, o⟩ := q; have hfit : ∀ t ∈ ts, FitTok t := by
      have := fit_scanF (s.length + 1) s (1, 1) (by omega); rwa [show scanF (s.length + 1) s (1, 1) = scanAll s from rfl, hq] at this
    have hpos : o = none → 0 < ts.length := fun e => by
      have := scanF_ne (f := s.length + 1) (l := s) (p := (1, 1)) (by rw [show scanF (s.length + 1) s (1, 1) = scanAll s from rfl, hq]; exact e); rwa [show scanF (s.length + 1) s (1, 1) = scanAll s from rfl, hq] at this
    rw [hq] at h2; simp only [hq]; cases o with
    | some q =>
      rcases h2 with ⟨q', e1, rfl⟩ | ⟨e1, _⟩
      · cases e1; rfl
      · cases e1
    | none =>
      rcases h2 with ⟨q', e1, _⟩ | ⟨_, v, rfl, hown⟩
      · cases e1
      · obtain ⟨g, cap, rfl, g1, g2, g3, g4, hc⟩ := own_slice hown (hpos rfl); refine ⟨g, cap, rfl, g1, g2, _, _, rfl, g3, g4, fun i x hx => ⟨x.cells, ⟨_, rfl, fun j u hu => ?_⟩, rfl, ?_, (hfit x (List.mem_of_getElem? hx)).2⟩⟩
        · have hj : j < 5 := (List.getElem?_eq_some_iff.1 hu).1; have h3 := hc (i * 5 + j) u ((tok_flat ts i x hx j hj).trans hu); have ha : ((⟨g, 0, none⟩ : Addr).add (i * x.cells.length)).add j = ⟨g, i * 5 + j, none⟩ := by
            rw [show x.cells.length = 5 from rfl, add_add]; unfold Addr.add; split <;> simp_all
          rw [ha]; exact h3
        · have := (hfit x (List.mem_of_getElem? hx)).1; unfold maxLen; omega
end Go.Proofs.YtlhmdjhfmhkllaaGreatDoor
