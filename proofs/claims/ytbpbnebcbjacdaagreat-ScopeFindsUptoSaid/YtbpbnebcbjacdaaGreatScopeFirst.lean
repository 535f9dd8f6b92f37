/-
  ScopeFirst: the first nodes alone are well: the mathematics, and the walk.
-/
import Derived.Test.YtbpbnebcbjacdaaGreatScopeLives
import Derived.Test.YtbpbnebcbjacdaaGreatHeld
import Derived.Test.YtbpbnebcbjacdaaGreatTreeOpen
import Derived.IntWalk
namespace Go.Proofs.YtbpbnebcbjacdaaGreat
open Go.RowKit

theorem nodesF_cases (l : List QNode) : ∀ (k : Int) (s : SProg), (nodesF k s l).1 = 0 → nodesF k s l = (0, 0, 0) := by
  induction l with
  | nil => intro k s _; rfl
  | cons n r ih =>
    intro k s h
    cases hs : nodeStep s n with
    | inr b => rw [nodesF_no hs] at h; cases h
    | inl s' => rw [nodesF_yes hs] at h ⊢; exact ih _ _ h
theorem check_zero {made : Bool} {p : QProg} (h : (checkQ made p).1 = 0) : checkQ made p = (0, 0, 0) ∧ rightL made p = 0 ∧ ∃ s, enumsF 0 .new p.enums = .inl s ∧ nodesF 0 s p.nodes = (0, 0, 0) := by
  by_cases h0 : rightL made p = 0
  · cases he : enumsF 0 .new p.enums with
    | inr i => rw [check_enum h0 he] at h; cases h
    | inl s =>
      rw [check_nodes h0 he] at h ⊢
      have := nodesF_cases _ _ _ h
      exact ⟨this, h0, s, rfl, this⟩
  · rw [check_bad h0] at h; exact absurd h h0
theorem nodesF_take (l : List QNode) : ∀ (j : Nat) (k : Int) (s : SProg), nodesF k s l = (0, 0, 0) → nodesF k s (l.take j) = (0, 0, 0) := by
  induction l with
  | nil => intro j k s _; simp [nodesF]
  | cons n r ih =>
    intro j k s h
    cases j with
    | zero => rfl
    | succ j =>
      cases hs : nodeStep s n with
      | inr b => rw [nodesF_no hs] at h; cases h
      | inl s' =>
        rw [nodesF_yes hs] at h
        rw [List.take_succ_cons, nodesF_yes hs]
        exact ih j _ _ h
theorem right_pos {made : Bool} {p : QProg} (h : rightL made p = 0) : 1 ≤ p.nodes.length ∧ p.nodes.length ≤ 16 := by
  have h1 := (rightL_zero h).1
  unfold rightP at h1
  rw [Bool.and_eq_true] at h1
  have h2 := allM_len h1.2
  exact ⟨h2.1, h2.2.1⟩
theorem allM_mk {X : Type} {l : List X} {a b : Nat} {f : X → Bool} (h1 : a ≤ l.length) (h2 : l.length ≤ b) (h3 : ∀ x ∈ l, f x = true) : allM l a b f = true := by
  unfold allM
  rw [Bool.and_eq_true, Bool.and_eq_true, decide_eq_true_eq, decide_eq_true_eq, List.all_eq_true]
  exact ⟨⟨h1, h2⟩, h3⟩
theorem right_sub {made : Bool} {p : QProg} (h : rightL made p = 0) {l : List QNode} (h1 : 1 ≤ l.length) (h2 : l.length ≤ 16) (hs : ∀ n ∈ l, n ∈ p.nodes) : rightL made ⟨p.enums, l⟩ = 0 := by
  obtain ⟨hp, hl⟩ := rightL_zero h
  have hp' := hp
  unfold rightP at hp'
  rw [Bool.and_eq_true] at hp'
  have h3 : rightP made ⟨p.enums, l⟩ = true := by
    unfold rightP
    rw [Bool.and_eq_true]
    exact ⟨hp'.1, allM_mk h1 h2 (fun n hn => (allM_len hp'.2).2.2 n (hs n hn))⟩
  have h4 : l.any largeN = false := by
    rw [List.any_eq_false] at hl ⊢
    exact fun n hn => hl n (hs n hn)
  show (if rightP made ⟨p.enums, l⟩ = true then (if l.any largeN = true then (9 : Int) else 0) else 10) = 0
  rw [if_pos h3, h4]; rfl
theorem first_ok {made : Bool} {p : QProg} (h : (checkQ made p).1 = 0) {k : Nat} (hk : 1 ≤ k) : checkQ made ⟨p.enums, p.nodes.take k⟩ = (0, 0, 0) := by
  obtain ⟨_, h0, s, he, hn⟩ := check_zero h
  obtain ⟨h1, h2⟩ := right_pos h0
  have h3 := right_sub (l := p.nodes.take k) h0 (by rw [List.length_take]; omega) (by rw [List.length_take]; omega) (fun n hn => List.mem_of_mem_take hn)
  rw [check_nodes (p := ⟨p.enums, p.nodes.take k⟩) h3 he]
  exact nodesF_take _ _ _ _ hn
theorem SliceAt.take {X : Type} {w : World} {R : List Value → X → Prop} {A : Option Addr} {c : Nat} {l : List X} (h : SliceAt w R (.slice A l.length c) l) {k : Nat} (hk : k ≤ l.length) : SliceAt w R (.slice A k c) (l.take k) := by
  obtain ⟨A', c', e, h1, h2, h3⟩ := h
  injection e with e1 _ e3
  subst e1 e3
  exact ⟨A, c, by rw [List.length_take, Nat.min_eq_left hk], by rw [List.length_take]; omega, h2, fun i x hx => h3 i x (by
    rw [List.getElem?_take] at hx
    split at hx
    · exact hx
    · cases hx)⟩
theorem pick_k (n : Int) {len : Nat} (h : 0 < len) (hl : len ≤ 9223372036854775807) : ∃ k : Nat, 1 ≤ k ∧ k ≤ len ∧ wrap64 (1 + wrap64 ((IntKind.u64.wrap n).tmod len)) = k := by
  have h0 : 0 ≤ IntKind.u64.wrap n := by simp [IntKind.wrap, IntKind.bits, IntKind.signed]; omega
  rw [Int.tmod_eq_emod_of_nonneg h0]
  have h1 := Int.emod_nonneg (IntKind.u64.wrap n) (show (len : Int) ≠ 0 by omega)
  have h2 := Int.emod_lt_of_pos (IntKind.u64.wrap n) (show (0 : Int) < len by omega)
  have e1 := IntWalk.wrap64_in (IntKind.u64.wrap n % len) (by omega)
  rw [e1, IntWalk.wrap64_in (1 + IntKind.u64.wrap n % len) (by omega)]
  exact ⟨(1 + IntKind.u64.wrap n % len).toNat, by omega, by omega, by omega⟩
/-- what a law's walk ends in -/
def Lived (W : World) (e : Ending) (W' : World) : Prop := e = .returned (.bool true) ∧ Below W.heap.size W W'
set_option maxHeartbeats 4000000 in
set_option maxRecDepth 100000 in
theorem first_walk {w : World} {p : QProg} {A1 A2 : Option Addr} {n1 k1 n2 k2 : Nat} (hL : ProgAt w [.slice A1 n1 k1, .slice A2 n2 k2] p) (hq : ∀ x ∈ p.nodes, (nodeX x).length ≤ 1048576) (n : Int) :
    Calls Tryz.prog 5 #[.agg #[.slice A1 n1 k1, .slice A2 n2 k2], .int .i64 n] w (Lived w) := by
  have HL := Lib.hid hL
  have HQ := Lib.hid hq
  have HCK := Lib.hid (check_any true hL hq)
  have hff := field_fault
  have heq0 := eq_fault 0 0 0
  have hal := Lib.hid ((Below.refl w.heap.size w).alloc (Nat.le_refl _) (.cells #[.slice A1 n1 k1, .slice A2 n2 k2] 25))
  have BP := Lib.hid (heap_alloc_new w (.cells #[.slice A1 n1 k1, .slice A2 n2 k2] 25))
  obtain ⟨ev, nv, e0, he, hnn⟩ := hL
  injection e0 with ea e0
  injection e0 with eb _
  subst ea eb
  obtain ⟨A', c', eq2, hcc, hmc, hne⟩ := hnn
  injection eq2 with e1 e2 e3
  subst e1 e2 e3
  have hcap : p.nodes.length ≤ k2 := hcc
  have hnl : p.nodes.length ≤ 9223372036854775807 := by unfold maxLen at hmc; omega
  have HN := Lib.hid (show SliceAt w (NodeAt w) (.slice A2 p.nodes.length k2) p.nodes from ⟨A2, k2, rfl, hcc, hmc, hne⟩)
  have HE := Lib.hid he
  clear hq he hcc hmc hne
  by_cases hc : (checkQ true p).1 = 0
  · have HC := Lib.hid hc
    obtain ⟨hz, h0, _⟩ := check_zero hc
    have hp1 := (right_pos h0).1
    have hd : ((p.nodes.length : Int) == 0) = false := beq_eq_false_iff_ne.2 (by omega)
    have HZ := Lib.hid hz
    clear hc hz h0
    go_enter Tryz.func5, Tryz.ntmps5
    go_wp2_with (first
      | (go_at_call 9
         (with_reducible refine (lives_any _).mono ?_)
         rintro e w7 ⟨rfl, hb7⟩
         obtain ⟨V1, rfl⟩ : ∃ W, W = w7 := ⟨_, rfl⟩
         have HB1 := Lib.hid (hal.out.trans (hb7.mono hal.out.size))
         have BP1 := Lib.hid (box_next hb7 BP.out)
         obtain ⟨_, _⟩ := row2 BP1.out
         clear hb7)
      | (go_at_call 10
         (with_reducible refine (HCK.out _ HB1.out).mono ?_)
         rintro e w8 ⟨he, hb8⟩
         rw [HZ.out] at he
         subst he
         obtain ⟨V2, rfl⟩ : ∃ W, W = w8 := ⟨_, rfl⟩
         have HB2 := Lib.hid (HB1.out.trans (hb8.mono HB1.out.size))
         have BP2 := Lib.hid (box_next hb8 BP1.out)
         obtain ⟨_, _⟩ := row2 BP2.out
         clear hb8))
    obtain ⟨k, hk1, hk2, hke⟩ := pick_k n (len := p.nodes.length) (by omega) hnl
    rw [hke]
    have hkc : k ≤ k2 := by omega
    have HF := Lib.hid (first_ok HC.out hk1)
    have HP2 := Lib.hid (show ProgAt w [.slice A1 n1 k1, .slice A2 k k2] ⟨p.enums, p.nodes.take k⟩ from ⟨_, _, rfl, HE.out, HN.out.take hk2⟩)
    have HCK2 := Lib.hid (check_any true HP2.out (fun x hx => HQ.out x (List.mem_of_mem_take hx)))
    obtain ⟨a, rfl⟩ : ∃ a, A2 = some a := by
      obtain ⟨A', c', e, _, _, h3⟩ := HN.out
      injection e with e1 _ _
      obtain ⟨L, ⟨a, ha, _⟩, _⟩ := h3 0 p.nodes[0] (by simp)
      exact ⟨a, by rw [e1, ha]⟩
    obtain ⟨p0, p1⟩ := row2 BP2.out
    have hPl := lt_of_heap BP2.out
    clear hke
    refine wp_region_held_drew (S := (fun W => W.cell? ⟨w.heap.size, 0, none⟩ = some (.slice A1 n1 k1) ∧ W.cell? ⟨w.heap.size, 1, none⟩ = some (.slice (some a) p.nodes.length k2))) (by kernel_rfl) ?_ (fun hHeld => ?_)
    · (try dsimp only); go_keep
    refine take_at 0 (v := ?_) rfl (by kernel_rfl) (by kernel_rfl) (by kernel_rfl) (fun _ _ _ h => h) (by rfl) ?_ (by assumption) ?_
    rotate_left
    · intro w hSw; (try dsimp only at hSw); go_simp; (try rw [if_neg (by assumption)]); (try rw [if_pos (by omega)]); (try simp only [hSw]); (try with_reducible rfl)
    try simp only [Act.put, List.setIfInBounds_toArray, List.set_cons_zero, List.set_cons_succ]
    refine take_at 1 (v := ?_) rfl (by kernel_rfl) (by kernel_rfl) (by kernel_rfl) (fun _ _ _ h => h) (by rfl) ?_ (by assumption) ?_
    rotate_left
    · intro w hSw; (try dsimp only at hSw); go_simp; (try rw [if_neg (by assumption)]); (try rw [if_pos (by omega)]); (try simp only [hSw]); (try with_reducible rfl)
    try simp only [Act.put, List.setIfInBounds_toArray, List.set_cons_zero, List.set_cons_succ]
    refine take_at 2 (v := ?_) rfl (by kernel_rfl) (by kernel_rfl) (by kernel_rfl) (fun _ _ _ h => h) (by rfl) ?_ (by assumption) ?_
    rotate_left
    · intro w hSw; (try dsimp only at hSw); go_simp; (try rw [if_neg (by assumption)]); (try rw [if_pos (by omega)]); (try simp only [hSw]); (try with_reducible rfl)
    try simp only [Act.put, List.setIfInBounds_toArray, List.set_cons_zero, List.set_cons_succ]
    refine take_at 3 (v := ?_) rfl (by kernel_rfl) (by kernel_rfl) (by kernel_rfl) (fun _ _ _ h => h) (by rfl) ?_ (by assumption) ?_
    rotate_left
    · intro w hSw; (try dsimp only at hSw); go_simp; (try rw [if_neg (by assumption)]); (try rw [if_pos (by omega)]); (try simp only [hSw]); (try with_reducible rfl)
    try simp only [Act.put, List.setIfInBounds_toArray, List.set_cons_zero, List.set_cons_succ]
    refine take_at 4 (v := ?_) rfl (by kernel_rfl) (by kernel_rfl) (by kernel_rfl) (fun _ _ _ h => h) (by rfl) ?_ (by assumption) ?_
    rotate_left
    · intro w hSw; (try dsimp only at hSw); go_simp; (try rw [if_neg (by assumption)]); (try rw [if_pos (by omega)]); (try simp only [hSw]); (try with_reducible rfl)
    try simp only [Act.put, List.setIfInBounds_toArray, List.set_cons_zero, List.set_cons_succ]
    refine take_at 5 (v := ?_) rfl (by kernel_rfl) (by kernel_rfl) (by kernel_rfl) (fun _ _ _ h => h) (by rfl) ?_ (by assumption) ?_
    rotate_left
    · intro w hSw; (try dsimp only at hSw); go_simp; (try rw [if_neg (by assumption)]); (try rw [if_pos (by omega)]); (try simp only [hSw]); (try with_reducible rfl)
    try simp only [Act.put, List.setIfInBounds_toArray, List.set_cons_zero, List.set_cons_succ]
    refine take_at 6 (v := ?_) rfl (by kernel_rfl) (by kernel_rfl) (by kernel_rfl) (fun _ _ _ h => h) (by rfl) ?_ (by assumption) ?_
    rotate_left
    · intro w hSw; (try dsimp only at hSw); go_simp; (try rw [if_neg (by assumption)]); (try rw [if_pos (by omega)]); (try simp only [hSw]); (try with_reducible rfl)
    try simp only [Act.put, List.setIfInBounds_toArray, List.set_cons_zero, List.set_cons_succ]
    refine take_at 8 (v := ?_) rfl (by kernel_rfl) (by kernel_rfl) (by kernel_rfl) (fun _ _ _ h => h) (by rfl) ?_ (by assumption) ?_
    rotate_left
    · intro w hSw; (try dsimp only at hSw); go_simp; (try rw [if_neg (by assumption)]); (try rw [if_pos (by omega)]); (try simp only [hSw]); (try with_reducible rfl)
    try simp only [Act.put, List.setIfInBounds_toArray, List.set_cons_zero, List.set_cons_succ]
    refine only_at 7 (by kernel_rfl) rfl (fun K hK => ?_)
    go_simp
    (go_at_call 10
     (with_reducible refine (HCK2.out _ HB2.out.drew).mono ?_)
     rintro e w9 ⟨he, hb9⟩
     rw [HF.out] at he
     subst he
     obtain ⟨V3, rfl⟩ : ∃ W, W = w9 := ⟨_, rfl⟩
     have HB3 := Lib.hid (HB2.out.trans (((Below.refl V2.heap.size V2).drew.trans hb9).mono HB2.out.size))
     obtain ⟨p0, p1⟩ := row2 (box_next ((Below.refl V2.heap.size V2).drew.trans hb9) BP2.out)
     clear hb9)
    refine hK.out _ _ ?_ (fun hHeld => ?_)
    · (try dsimp only); go_keep
    clear hK K
    refine take_at 9 (v := ?_) rfl (by kernel_rfl) (by kernel_rfl) (by kernel_rfl) (fun _ _ _ h => h) (by rfl) ?_ (by assumption) ?_
    rotate_left
    · intro w hSw; (try dsimp only at hSw); go_simp; (try rw [if_neg (by assumption)]); (try rw [if_pos (by omega)]); (try simp only [hSw]); (try with_reducible rfl)
    try simp only [Act.put, List.setIfInBounds_toArray, List.set_cons_zero, List.set_cons_succ]
    refine take_at 10 (v := ?_) rfl (by kernel_rfl) (by kernel_rfl) (by kernel_rfl) (fun _ _ _ h => h) (by rfl) ?_ (by assumption) ?_
    rotate_left
    · intro w hSw; (try dsimp only at hSw); go_simp; (try rw [if_neg (by assumption)]); (try rw [if_pos (by omega)]); (try simp only [hSw]); (try with_reducible rfl)
    try simp only [Act.put, List.setIfInBounds_toArray, List.set_cons_zero, List.set_cons_succ]
    refine wpAnyH_done (by kernel_rfl) ?_ _
    go_wp2_with fail
    go_ret
    exact ⟨rfl, HB3.out⟩
  · have hd : ((checkQ true p).1 != 0) = true := by simp [hc]
    clear hc
    go_enter Tryz.func5, Tryz.ntmps5
    go_wp2_with (first
      | (go_at_call 9
         (with_reducible refine (lives_any _).mono ?_)
         rintro e w7 ⟨rfl, hb7⟩
         obtain ⟨V1, rfl⟩ : ∃ W, W = w7 := ⟨_, rfl⟩
         have HB1 := Lib.hid (hal.out.trans (hb7.mono hal.out.size))
         have BP1 := Lib.hid (box_next hb7 BP.out)
         obtain ⟨_, _⟩ := row2 BP1.out
         clear hb7)
      | (go_at_call 10
         (with_reducible refine (HCK.out _ HB1.out).mono ?_)
         rintro e w8 ⟨rfl, hb8⟩
         have HB2 := Lib.hid (HB1.out.trans (hb8.mono HB1.out.size))
         clear hb8))
    go_ret
    exact ⟨rfl, HB2.out⟩
theorem prog_shape {w : World} {L : List Value} {p : QProg} (h : ProgAt w L p) : ∃ A1 n1 k1 A2 n2 k2, L = [.slice A1 n1 k1, .slice A2 n2 k2] := by
  obtain ⟨ev, nv, rfl, h1, h2⟩ := h
  obtain ⟨_, _, _, rfl⟩ := SliceAt.shape h1
  obtain ⟨_, _, _, rfl⟩ := SliceAt.shape h2
  exact ⟨_, _, _, _, _, _, rfl⟩
theorem first_law (L : List Value) (p : QProg) (n : Int) (w : World) (hL : ProgAt w L p) (hp : wProg p ≤ 1048576) (_ : i64B n) : Calls Tryz.prog 5 #[.agg L.toArray, .int .i64 n] w (Lived w) := by
  obtain ⟨A1, n1, k1, A2, n2, k2, rfl⟩ := prog_shape hL
  exact first_walk hL (prog_few hp) n
end Go.Proofs.YtbpbnebcbjacdaaGreat
