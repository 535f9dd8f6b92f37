import Derived.Test.YtmceablhndldiaaGreatDoorSx20e
namespace Go.Sx
open Go.RowKit

section
variable {P : Program} {ops : Array Oper} {call : Ctx} {n : Nat}
theorem looksAt_op {o : Oper} {t : Nat} (h : Operand.tmp t ∈ o.op.operands) : t ∈ o.looksAt ops :=
  List.mem_append_left _ (List.mem_filterMap.2 ⟨.tmp t, by simpa using h, rfl⟩)
theorem looksAt_guard {o o' : Oper} {j t : Nat} {w : Bool} (h1 : o.guard = some (j, w)) (h2 : ops[j]? = some o') (h3 : o'.dst = some t) : t ∈ o.looksAt ops :=
  List.mem_append_right _ (by simp [h1, h2, h3])
/-- an operation of a region that draws its order: what its run hangs on -/
theorem cIt_val {o : Oper} {s s' : St} {c c' : Nat} {h h' : H} {l : Log} (e : step2 call s (cIt P n ops o) c h = .ok s' c' h' l) :
    ∃ q f, cIt P n ops o = .val o.dst q f ∧ (∀ e e' : Env, (∀ t ∈ o.looksAt ops, e.get t = e'.get t) → f call e = f call e') ∧ ∀ e e' : Env, (∀ t ∈ o.looksAt ops, e.get t = e'.get t) → gOn q e = gOn q e' := by
  unfold cIt at e ⊢
  cases hd : dstOk n o.dst with
  | false => rw [hd] at e; cases e
  | true =>
    rw [hd, ifB_true] at e
    rw [ifB_true]
    cases hq : cDefer o.op with
    | some q =>
      rw [hq, ifS_some] at e
      cases hg : o.guard with
      | some g => rw [hg] at e; cases e
      | none => rw [hg] at e; cases e
    | none =>
      rw [hq, ifS_none] at e
      rw [ifS_none]
      cases hg : guardO ops o.guard with
      | none => rw [hg] at e; cases e
      | some g =>
        refine ⟨g, ifS oFail (fun f => f) (cOp P o.op), rfl, fun e e' hE => ?_, fun e e' hE => ?_⟩
        · cases hc : cOp P o.op with
          | none => rfl
          | some f => exact cOp_at hc (fun x hx t ht => hE t (looksAt_op (ht ▸ hx))) call
        · rcases guardO_ok hg with ⟨h1, rfl⟩ | ⟨j, w, o', t, h1, h2, h3, rfl⟩
          · rfl
          · show isB w (e.get t) = isB w (e'.get t)
            rw [hE t (looksAt_guard h1 h2 h3)]
theorem stepV_eq {d : Option Nat} {q : Option (Nat × Bool)} {f : Ev} {s : St} : stepV d q f call s = ifB (gOn q s.env) (M.map (fun v => putE d v s) (f call s.env)) (M.pure (putE d undefA s)) := by
  cases q <;> rfl
theorem stepV_at {d : Option Nat} {q : Option (Nat × Bool)} {f : Ev} {s s2 s1 : St} {c c1 : Nat} {g g1 : H} {l : Log} (e : stepV d q f call s c g = .ok s1 c1 g1 l) (hf : f call s.env = f call s2.env) (hq : gOn q s.env = gOn q s2.env) :
    ∃ v, s1 = putE d v s ∧ stepV d q f call s2 c g = .ok (putE d v s2) c1 g1 l := by
  rw [stepV_eq] at e ⊢
  rw [← hq, ← hf]
  cases hb : gOn q s.env with
  | true =>
    rw [hb, ifB_true] at e
    obtain ⟨v, h1, h2⟩ := map_ok e
    refine ⟨v, h2, ?_⟩
    rw [ifB_true]
    show Rs.rec (motive := fun _ => Rs St) .fail (fun a c h l => .ok (putE d a s2) c h l) (f call s.env c g) = _
    rw [h1]
  | false =>
    rw [hb, ifB_false] at e
    obtain ⟨h1, rfl, rfl, rfl⟩ := pure_ok e
    exact ⟨undefA, h1, rfl⟩
theorem putE_get {d : Option Nat} {v : AV} {s : St} {t : Nat} : (putE d v s).env.get t = if d = some t then v else s.env.get t := by
  cases d with
  | none => simp [putE, ifS_none]
  | some d =>
    show (Env.put d v s.env).get t = _
    rw [env_put]
    by_cases h : t = d
    · subst h; simp
    · rw [if_neg h, if_neg fun e => h (by cases e; rfl)]
theorem putE_defers {d : Option Nat} {v : AV} {s : St} : (putE d v s).defers = s.defers := by cases d <;> rfl
theorem DR_eq {ρ : Ren} {x y : List (Nat × List AV)} {l : List Deferred} (h : x = y) (k : DR ρ x l) : DR ρ y l := h ▸ k
theorem StR.of_get {ρ : Ren} {s s' : St} {a : Act} (h : StR ρ n s a) (he : ∀ t, s.env.get t = s'.env.get t) (hd : s.defers = s'.defers) : StR ρ n s' a :=
  ⟨fun t => he t ▸ h.env t, h.room, DR_eq hd h.defers⟩
theorem Rel.of_get {ρ : Ren} {g h : H} {w : World} (r : Rel ρ g w) (e : ∀ m, g.get m = h.get m) : Rel ρ h w :=
  ⟨fun n o hn => r.lies n o ((e n).trans hn), fun n m o p b s t h1 h2 => r.alone n m o p b s t ((e n).trans h1) ((e m).trans h2)⟩
theorem Post.of_get {ρ ρ' : Ren} {h g h' : H} {w w' : World} {c c' : Nat} (p : Post ρ h w c c' ρ' g w') (e : ∀ m, g.get m = h'.get m) : Post ρ h w c c' ρ' h' w' :=
  ⟨p.rel.of_get e, p.ext, p.os, p.tape, p.output, p.size, p.old, fun n o b s h1 => p.new n o b s ((e n).trans h1)⟩
theorem Post.wide {ρ ρ1 ρ2 : Ren} {h h1 h2 : H} {w w1 w2 : World} {c c' d d' : Nat} (p : Post ρ h w c c' ρ1 h1 w1) (q : Post ρ1 h1 w1 d d' ρ2 h2 w2) (k : c ≤ d) (m : d' ≤ c') : Post ρ h w c c' ρ2 h2 w2 where
  rel := q.rel
  ext n hn := by rw [q.ext n (by omega), p.ext n hn]
  os := q.os.trans p.os
  tape := q.tape.trans p.tape
  output := q.output.trans p.output
  size := Nat.le_trans p.size q.size
  old b hb hn := by
    rw [q.old b (Nat.lt_of_lt_of_le hb p.size) (fun n o s e f => ?_), p.old b hb hn]
    obtain ⟨m, o', t, e', f'⟩ := p.new n o b s e f hb
    exact hn m o' t e' f'
  new n o b s e f hb := by
    obtain ⟨m, o', t, e', f'⟩ := q.new n o b s e f (Nat.lt_of_lt_of_le hb p.size)
    exact p.new m o' b t e' f' hb
/-- how many are not listed -/
def uns (l : Array Bool) : Nat → Nat
  | 0 => 0
  | k + 1 => uns l k + if l.getD k true = true then 0 else 1
theorem uns_set {l : Array Bool} {j : Nat} (hj : l.getD j true = false) (hs : j < l.size) : ∀ {N : Nat}, (j < N → uns (l.setIfInBounds j true) N + 1 = uns l N) ∧ (N ≤ j → uns (l.setIfInBounds j true) N = uns l N)
  | 0 => ⟨fun h => by omega, fun _ => rfl⟩
  | N + 1 => by
    obtain ⟨i1, i2⟩ := uns_set hj hs (N := N)
    refine ⟨fun h => ?_, fun h => ?_⟩
    · simp only [uns]
      by_cases hN : N = j
      · subst hN
        have h0 : (l.setIfInBounds N true).getD N true = true := by simp [hs]
        rw [h0, hj, i2 (Nat.le_refl _)]
        simp
      · rw [getD_set_ne true (Ne.symm hN)]
        have := i1 (by omega)
        omega
    · simp only [uns]
      rw [getD_set_ne true (by omega), i2 (by omega)]
theorem uns_zero {l : Array Bool} : ∀ {N : Nat}, uns l N = 0 → ∀ j, j < N → l.getD j true = true
  | 0, _, j, hj => by omega
  | N + 1, h, j, hj => by
    simp only [uns] at h
    rcases Nat.lt_or_ge j N with hlt | hge
    · exact uns_zero (by omega) j hlt
    · rw [show j = N by omega]
      cases hl : l.getD N true with
      | true => rfl
      | false => rw [hl] at h; simp at h
theorem uns_le {l : Array Bool} : ∀ {N : Nat}, uns l N ≤ N
  | 0 => Nat.le_refl _
  | N + 1 => by
    have := uns_le (l := l) (N := N)
    simp only [uns]
    split <;> omega
end
end Go.Sx
