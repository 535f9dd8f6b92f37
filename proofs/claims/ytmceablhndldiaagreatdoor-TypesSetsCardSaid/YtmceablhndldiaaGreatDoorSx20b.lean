import Derived.Test.YtmceablhndldiaaGreatDoorSx20
namespace Go.Sx

section
variable {P : Program} {ops : Array Oper} {call : Ctx}
/-- with an operation, a set holds all that must stand ahead of it -/
def Closed (ops : Array Oper) (S : Nat → Prop) : Prop := ∀ (k : Nat) (o : Oper), ops[k]? = some o → S k → ∀ e ∈ o.after.toList, Region.binds .any e = true → S e.on
theorem shl_bit {k i : Nat} (h : (Nat.shiftLeft 1 k).testBit i = true) : i = k := by
  have h : (1 <<< k).testBit i = true := h
  rw [Nat.testBit_shiftLeft] at h
  simp only [Bool.and_eq_true, decide_eq_true_eq] at h
  have h2 := h.2
  rw [Nat.testBit_one_eq_true_iff_self_eq_zero] at h2
  omega
theorem aheadOf_spec {ps : List Nat} {i : Nat} : ∀ {l : List Edge}, (aheadOf ps l).testBit i = true → ∃ e ∈ l, Region.binds .any e = true ∧ ∃ m, ps[e.on]? = some m ∧ (m.testBit i = true ∨ i = e.on)
  | [], h => by
    have h : Nat.testBit 0 i = true := h
    simp at h
  | e :: l, h => by
    have h : (ifB (Region.binds .any e) (ifS (aheadOf ps l) (fun m => Nat.lor (aheadOf ps l) (Nat.lor m (Nat.shiftLeft 1 e.on))) (ps[e.on]?)) (aheadOf ps l)).testBit i = true := h
    have hrec : (aheadOf ps l).testBit i = true → ∃ e' ∈ e :: l, Region.binds .any e' = true ∧ ∃ m, ps[e'.on]? = some m ∧ (m.testBit i = true ∨ i = e'.on) := fun h => by
      obtain ⟨e', h1, h2⟩ := aheadOf_spec h
      exact ⟨e', List.mem_cons_of_mem _ h1, h2⟩
    cases hb : Region.binds .any e with
    | false => rw [hb] at h; exact hrec h
    | true =>
      rw [hb, ifB_true] at h
      cases hm : ps[e.on]? with
      | none => rw [hm] at h; exact hrec h
      | some m =>
        rw [hm] at h
        have h : ((aheadOf ps l) ||| (m ||| (Nat.shiftLeft 1 e.on))).testBit i = true := h
        rw [Nat.testBit_or, Nat.testBit_or] at h
        simp only [Bool.or_eq_true] at h
        rcases h with h | h | h
        · exact hrec h
        · exact ⟨e, List.mem_cons_self, hb, m, hm, .inl h⟩
        · exact ⟨e, List.mem_cons_self, hb, m, hm, .inr (shl_bit h)⟩
theorem aheads_spec {S : Nat → Prop} (hS : Closed ops S) : ∀ (l : List Oper) (k : Nat) (ps : List Nat), l = ops.toList.drop k → ps.length = k → (∀ j m, ps[j]? = some m → ∀ i, m.testBit i = true → S j → S i) →
    ∀ j m, (aheads l ps)[j]? = some m → ∀ i, m.testBit i = true → S j → S i
  | [], k, ps, _, _, h => h
  | o :: l, k, ps, hl, hk, h => by
    have ho : ops[k]? = some o := by
      have := congrArg List.head? hl
      rw [List.head?_drop] at this
      simpa using this.symm
    have hl' : l = ops.toList.drop (k + 1) := by
      have := congrArg List.tail hl
      simpa using this
    refine aheads_spec hS l (k + 1) (ps ++ [aheadOf ps o.after.toList]) hl' (by simp [hk]) fun j m hj i hi hs => ?_
    rcases Nat.lt_or_ge j ps.length with hlt | hge
    · rw [List.getElem?_append_left hlt] at hj
      exact h j m hj i hi hs
    · rw [List.getElem?_append_right hge] at hj
      have hj0 : j - ps.length = 0 := by
        rcases Nat.eq_zero_or_pos (j - ps.length) with h0 | h0
        · exact h0
        · rw [List.getElem?_eq_none (by simp; omega)] at hj; cases hj
      rw [hj0] at hj
      cases hj
      have hjk : j = k := by omega
      subst hjk
      obtain ⟨e, h1, h2, m, h3, h4⟩ := aheadOf_spec hi
      have hon := hS j o ho hs e h1 h2
      rcases h4 with h4 | rfl
      · exact h e.on m h3 i h4 hon
      · exact hon
theorem pairs1_spec {m j : Nat} {oj : Oper} : ∀ {i : Nat} {l : List (Nat × Nat)}, pairs1 ops m j oj i = some l → ∀ k, k < i → m.testBit k = true ∨ ((k, j) ∈ l ∧ ∃ ok, ops[k]? = some ok ∧ Oper.apart ops ok oj = true)
  | 0, l, _, k, hk => by omega
  | i + 1, l, h, k, hk => by
    have h : ifB (Nat.testBit m i) (pairs1 ops m j oj i) (ifS none (fun oi => ifB (Oper.apart ops oi oj) (ifS none (fun l => some ((i, j) :: l)) (pairs1 ops m j oj i)) none) ops[i]?) = some l := h
    cases hb : Nat.testBit m i with
    | true =>
      rw [hb, ifB_true] at h
      rcases Nat.lt_or_ge k i with hlt | hge
      · exact pairs1_spec h k hlt
      · have : k = i := by omega
        subst this
        exact .inl hb
    | false =>
      rw [hb, ifB_false] at h
      obtain ⟨oi, h1, h⟩ := ifS_eq h
      cases ha : Oper.apart ops oi oj with
      | false => rw [ha] at h; cases h
      | true =>
        rw [ha, ifB_true] at h
        obtain ⟨l', h2, h⟩ := ifS_eq h
        cases h
        rcases Nat.lt_or_ge k i with hlt | hge
        · exact (pairs1_spec h2 k hlt).imp id fun h => ⟨List.mem_cons_of_mem _ h.1, h.2⟩
        · have : k = i := by omega
          subst this
          exact .inr ⟨List.mem_cons_self, oi, h1, ha⟩
theorem backL_spec {j : Nat} : ∀ {l : List Edge}, backL j l = true → ∀ e ∈ l, Region.binds .any e = true → e.on < j
  | [], _, e, he, _ => by cases he
  | a :: l, h, e, he, hb => by
    have h : ifB (ifB (Region.binds .any a) (Nat.blt a.on j) true) (backL j l) false = true := h
    cases ha : ifB (Region.binds .any a) (Nat.blt a.on j) true with
    | false => rw [ha] at h; cases h
    | true =>
      rw [ha] at h
      rcases List.mem_cons.1 he with rfl | he
      · rw [hb, ifB_true, blt_dec] at ha
        exact of_decide_eq_true ha
      · exact backL_spec h e he hb
theorem pairsN_spec {ps : List Nat} : ∀ {j : Nat} {l : List (Nat × Nat)}, pairsN ops ps j = some l → ∀ k, k < j → ∃ m o lk, ps[k]? = some m ∧ ops[k]? = some o ∧ backL k o.after.toList = true ∧ pairs1 ops m k o k = some lk ∧ ∀ p ∈ lk, p ∈ l
  | 0, l, _, k, hk => by omega
  | j + 1, l, h, k, hk => by
    obtain ⟨m, h1, h⟩ := ifS_eq (show ifS none (fun m => ifS none (fun oj => ifB (backL j oj.after.toList) (ifS none (fun l => ifS none (fun k => some (List.append l k)) (pairs1 ops m j oj j)) (pairsN ops ps j)) none) ops[j]?) ps[j]? = some l from h)
    obtain ⟨o, h2, h⟩ := ifS_eq h
    cases hb : backL j o.after.toList with
    | false => rw [hb] at h; cases h
    | true =>
    rw [hb, ifB_true] at h
    obtain ⟨l1, h3, h⟩ := ifS_eq h
    obtain ⟨l2, h4, h⟩ := ifS_eq h
    cases h
    rcases Nat.lt_or_ge k j with hlt | hge
    · obtain ⟨m', o', lk, k1, k2, k0, k3, k4⟩ := pairsN_spec h3 k hlt
      exact ⟨m', o', lk, k1, k2, k0, k3, fun p hp => List.mem_append_left _ (k4 p hp)⟩
    · have : k = j := by omega
      subst this
      exact ⟨m, o, l2, h1, h2, hb, h4, fun p hp => List.mem_append_right _ hp⟩
/-- where none is ready, all are listed -/
theorem ready_nil {ps : List (Nat × Nat)} (h : pairsOf ops = some ps) {listed : Array Bool} (hn : Region.ready .any ops listed = []) (hs : listed.size = ops.size) : ∀ j, j < ops.size → listed.getD j false = true := by
  intro j
  induction j using Nat.strongRecOn with
  | _ j ih =>
    intro hj
    cases hl : listed.getD j true with
    | true =>
      rw [Array.getD_eq_getD_getElem?, Array.getElem?_eq_getElem (by omega)] at hl ⊢
      exact hl
    | false =>
      obtain ⟨m, o, lk, h1, h2, h0, _, _⟩ := pairsN_spec (show pairsN ops (aheads ops.toList []) ops.size = some ps from h) j hj
      have : j ∈ Region.ready .any ops listed := mem_ready.2 ⟨hl, o, h2, fun e he hb => by
        have hlt := backL_spec h0 e (by simpa using he) hb
        exact ih e.on hlt (by omega)⟩
      rw [hn] at this
      cases this
/-- of two operations the former stands ahead of the later in every order, or the two are apart -/
theorem pairsOf_spec {ps : List (Nat × Nat)} (h : pairsOf ops = some ps) {i j : Nat} (hij : i < j) (hj : j < ops.size) :
    (∀ S, Closed ops S → S j → S i) ∨ ((i, j) ∈ ps ∧ ∃ oi oj, ops[i]? = some oi ∧ ops[j]? = some oj ∧ Oper.apart ops oi oj = true) := by
  obtain ⟨m, o, lk, h1, h2, _, h3, h4⟩ := pairsN_spec (show pairsN ops (aheads ops.toList []) ops.size = some ps from h) j hj
  rcases pairs1_spec h3 i hij with hb | ⟨hm, oi, k1, k2⟩
  · exact .inl fun S hS hs => aheads_spec hS ops.toList 0 [] rfl rfl (fun j m hj => by simp at hj) j m h1 i hb hs
  · exact .inr ⟨h4 _ hm, oi, o, k1, h2, k2⟩
end
end Go.Sx
