/-
  Texts joined.
-/
import Derived.Lib.ItoaLen
import Derived.Test.YtoajfnfhphoaeaaGreatDoorKj02
import Derived.Test.YtoajfnfhphoaeaaGreatDoorKj05
import Derived.Test.YtoajfnfhphoaeaaGreatDoorKj10
import Derived.Test.YtoajfnfhphoaeaaGreatDoorKj45
namespace Go.Proofs.YtoajfnfhphoaeaaGreatDoor
/- a node's expressions are no more than its tokens -/
theorem gflat_le {X Y : Type} {f : X → List Y} {T : X → List Tx} : ∀ {l : List X}, (∀ x ∈ l, (f x).length ≤ (T x).length) → (l.flatMap f).length ≤ (l.flatMap T).length
  | [], _ => by simp
  | x :: l, h => by
    have h1 := h x (by simp)
    have h2 := gflat_le (l := l) fun y hy => h y (by simp [hy])
    simp only [List.flatMap_cons, List.length_append]
    omega
theorem flat_mem {X : Type} {T : X → List Tx} {x : X} : ∀ {l : List X}, x ∈ l → (T x).length ≤ (l.flatMap T).length
  | y :: l, h => by
    simp only [List.flatMap_cons, List.length_append]
    rcases List.mem_cons.1 h with rfl | h
    · omega
    · have := flat_mem (T := T) h; omega
theorem state_few (s : QState) : (stateX s).length ≤ (stateT s).length := by
  have h1 := flat_len (T := eqT) eqT_ne s.eqs; have h2 := flat_len (T := wayT) (fun y => by simp [wayT]) s.ways; simp only [stateX, stateT, List.length_append, List.length_map, List.length_cons]; omega
theorem item_few (i : QItem) : (itemX i).length ≤ (itemT i).length := by
  unfold itemX itemT; by_cases h : i.states = []
  · rw [if_pos h, if_pos h, h]; have := List.length_pos_iff.2 (eqT_ne i.eq); simp; omega
  · rw [if_neg h, if_neg h]; have := gflat_le (f := stateX) (T := stateT) (l := i.states) fun s _ => state_few s; simp only [List.nil_append, List.length_cons, List.length_append]; omega
theorem gnode_few (n : QNode) : (nodeX n).length ≤ (nodeT n).length := by
  have := gflat_le (f := itemX) (T := itemT) (l := n.items) fun i _ => item_few i; simp only [nodeX, nodeT, List.length_cons, List.length_append]; omega
theorem gprog_few {p : QProg} {n : QNode} (h : n ∈ p.nodes) : (nodeX n).length ≤ (progT p).length := by
  have h1 := gnode_few n; have h2 := flat_mem (T := nodeT) h; rw [progT, List.length_append]; omega
theorem right_large {p : QProg} (h : rightL false p = 0) : ∀ n ∈ p.nodes, largeN n = false := by
  unfold rightL at h; split at h
  · split at h
    · omega
    · rename_i h1; intro n hn; cases hl : largeN n with
      | false => rfl
      | true => exact absurd (List.any_eq_true.2 ⟨n, hn, hl⟩) h1
  · omega
theorem scan_lex {s : Tx} {ks : List Key} (h : Lex s ks) (hl : s.length ≤ 65536) : ∃ toks, scanL s = .inl toks ∧ toks.map Tok.key = ks := by
  obtain ⟨h1, h2⟩ := scan_of_lex h; refine ⟨(scanAll s).1, ?_, h2⟩; rw [scanL, if_neg (by omega)]; obtain ⟨q, hq⟩ : ∃ q, scanAll s = q := ⟨_, rfl⟩; obtain ⟨ts, o⟩ := q; rw [hq] at h1 ⊢; replace h1 : o = none := h1; subst h1; rfl
/-- what comes of a text -/
theorem prog_got {s : Tx} {ts : List Tok} {p : QProg} {r : List Tok} (hs : scanL s = .inl ts) (h : progO ts = .ok p r) : GProg p ∧ (progT p).length ≤ 196611 := by
  obtain ⟨he, h1, h2⟩ := ended_scan hs; obtain ⟨f, hf⟩ := progO_some he; rw [h] at hf; obtain ⟨u, e, h3, _, _, _, h4, h5, _⟩ := progF_loc (oneEnd_scan h2) (good_scan h1 h2) hf; refine ⟨h5, ?_⟩; have hl : ts.length ≤ 65537 := by
    have := scanF_len (f := s.length + 1) (l := s) (p := (1, 1)); rw [show scanF (s.length + 1) s (1, 1) = scanAll s from rfl, h2] at this; have h3 : ts.length ≤ s.length + 1 := this; omega
  rw [h3, List.length_append] at hl; omega
end Go.Proofs.YtoajfnfhphoaeaaGreatDoor
