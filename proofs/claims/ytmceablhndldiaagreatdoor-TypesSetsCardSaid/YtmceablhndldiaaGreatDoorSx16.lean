/-
  The operations of a region, one behind the other.
-/
import Derived.Test.YtmceablhndldiaaGreatDoorSx15
namespace Go.Sx
open Go.RowKit

def DR (ρ : Ren) : List (Nat × List AV) → List Deferred → Prop
  | [], l => l = []
  | q :: x, l => ∃ d r c, l = d :: r ∧ d.target = .fn (.func q.1) c ∧ VRs ρ q.2 (d.args.toList ++ c.toList) ∧ DR ρ x r
theorem DR.mono {ρ σ : Ren} (h : Ren.le ρ σ) : ∀ (x : List (Nat × List AV)) (l : List Deferred), DR ρ x l → DR σ x l
  | [], _, e => e
  | _ :: x, _, ⟨d, r, c, h1, h2, h3, h4⟩ => ⟨d, r, c, h1, h2, VRs.mono h _ _ h3, DR.mono h x r h4⟩
/-- the state of a frame of at least n temporaries -/
structure StR (ρ : Ren) (n : Nat) (s : St) (a : Act) : Prop where
  env : ER ρ s.env a.tmps
  room : n ≤ a.tmps.size
  defers : DR ρ s.defers a.defers
theorem StR.mono {ρ σ : Ren} (h : Ren.le ρ σ) {n : Nat} {s : St} {a : Act} (k : StR ρ n s a) : StR σ n s a := ⟨k.env.mono h, k.room, DR.mono h _ _ k.defers⟩
theorem env_put (u : Nat) (v : AV) (e : Env) (t : Nat) : (Env.put u v e).get t = if t = u then v else e.get t := by
  show Bool.rec (motive := fun _ => AV) (e.get t) v (Nat.beq u t) = _
  cases h : Nat.beq u t with
  | true => rw [if_pos (Nat.eq_of_beq_eq_true h).symm]
  | false => rw [if_neg fun q => by subst q; simp at h]
theorem StR.put {ρ : Ren} {n : Nat} {s : St} {a : Act} (k : StR ρ n s a) {d : Option Nat} (hd : dstOk n d = true) {v : AV} {u : Value} (hv : VR ρ v u) : StR ρ n (putE d v s) (a.put d u) := by
  cases d with
  | none => exact k
  | some d =>
    have hlt : d < n := by
      have : Nat.blt d n = true := hd
      rw [blt_dec] at this
      exact of_decide_eq_true this
    have hr := k.room
    refine ⟨fun t => ?_, by simpa [Act.put] using k.room, k.defers⟩
    show VR ρ ((Env.put d v s.env).get t) _
    rw [env_put]
    by_cases ht : t = d
    · rw [if_pos ht]
      subst ht
      have : (a.put (some t) u).tmps.getD t undef = u := by
        simp only [Act.put, Array.getD_eq_getD_getElem?, Array.getElem?_setIfInBounds_self]
        rw [if_pos (by omega)]
        rfl
      rw [this]
      exact hv
    · rw [if_neg ht]
      have : (a.put (some d) u).tmps.getD t undef = a.tmps.getD t undef := by
        simp only [Act.put, Array.getD_eq_getD_getElem?, Array.getElem?_setIfInBounds_ne (Ne.symm ht)]
      rw [this]
      exact k.env t
theorem VR.bool_iff {ρ : Ren} {v : AV} {u : Value} (h : VR ρ v u) (b : Bool) : u = .bool b ↔ v = .bool b := by
  cases v with
  | bool c => simp only [VR] at h; subst h; simp
  | int k n => simp only [VR] at h; subst h; simp
  | str s => simp only [VR] at h; obtain ⟨_, rfl, _⟩ := h; simp
  | ptr a => cases a <;> simp only [VR] at h <;> (first | subst h | obtain ⟨_, _, _, rfl⟩ := h) <;> simp
  | slice a n c z => cases a <;> simp only [VR] at h <;> (first | subst h | obtain ⟨_, _, _, _, _, rfl, _⟩ := h) <;> simp
  | map a => cases a <;> simp only [VR] at h <;> (first | subst h | obtain ⟨_, _, _, rfl⟩ := h) <;> simp
  | fn f a c => simp only [VR] at h; obtain ⟨_, _, rfl, _⟩ := h; simp
  | nilFn => simp only [VR] at h; subst h; simp
  | iface t x => simp only [VR] at h; obtain ⟨_, rfl, _⟩ := h; simp
  | nilIface => simp only [VR] at h; subst h; simp
  | agg l => simp only [VR] at h; obtain ⟨_, rfl, _⟩ := h; simp
  | tuple l => simp only [VR] at h; obtain ⟨_, rfl, _⟩ := h; simp
section
variable {P : Program} {ops : Array Oper}
theorem guardO_ok {g : Option (Nat × Bool)} {q : Option (Nat × Bool)} (h : guardO ops g = some q) : (g = none ∧ q = none) ∨ ∃ j w o t, g = some (j, w) ∧ ops[j]? = some o ∧ o.dst = some t ∧ q = some (t, w) := by
  cases g with
  | none => cases h; exact .inl ⟨rfl, rfl⟩
  | some g =>
    obtain ⟨o, ho, h⟩ := ifS_eq (show ifS none (fun o => ifS none (fun t => some (some (t, g.2))) o.dst) ops[g.1]? = some q from h)
    obtain ⟨t, ht, h⟩ := ifS_eq h
    cases h
    exact .inr ⟨g.1, g.2, o, t, rfl, ho, ht, rfl⟩
/-- is an operation wanted? -/
noncomputable def gOn (q : Option (Nat × Bool)) (e : Env) : Bool := match q with
  | none => true
  | some q => isB q.2 (e.get q.1)
theorem wanted_eq {ρ : Ren} {e : Env} {tmps : Array Value} (hE : ER ρ e tmps) {o : Oper} {q : Option (Nat × Bool)} (h : guardO ops o.guard = some q) :
    Region.wanted o (yielded ops tmps) = gOn q e := by
  rcases guardO_ok h with ⟨h1, rfl⟩ | ⟨j, w, o', t, h1, h2, h3, rfl⟩
  · simp [Region.wanted, h1, gOn]
  · simp only [Region.wanted, h1, gOn]
    have hy : yielded ops tmps j = match tmps[t]? with | some (.bool b) => some b | _ => none := by
      simp [yielded, h2, h3]
      rfl
    rw [hy]
    have hV := hE t
    cases hg : tmps[t]? with
    | none =>
      have hu : tmps.getD t undef = undef := by simp [Array.getD_eq_getD_getElem?, hg]
      rw [hu] at hV
      have : ∀ b, e.get t ≠ .bool b := fun b hb => by
        have := (hV.bool_iff b).2 hb
        cases this
      cases hv : e.get t <;> first | rfl | exact absurd hv (this _)
    | some u =>
      have hu : tmps.getD t undef = u := by simp [Array.getD_eq_getD_getElem?, hg]
      rw [hu] at hV
      cases hv : e.get t with
      | bool b =>
        rw [(hV.bool_iff b).2 hv]
        cases b <;> cases w <;> rfl
      | _ =>
        have : ∀ b, u ≠ .bool b := fun b hb => by
          have := (hV.bool_iff b).1 hb
          rw [hv] at this
          cases this
        cases u <;> first | rfl | exact absurd rfl (this _)
theorem cDefer_ok {op : Op} {q : Opd × List Opd} (h : cDefer op = some q) : ∃ f args ts, op = .defer { callee := .value f, args, argTypes := ts } ∧ cOpd f = some q.1 ∧ cOps args.toList = some q.2 := by
  unfold cDefer at h
  split at h
  · rename_i c
    obtain ⟨callee, args, ts⟩ := c
    cases callee with
    | value f =>
      obtain ⟨f', kf, h⟩ := ifS_eq (show ifS none (fun f => ifS none (fun l => some (f, l)) (cOps args.toList)) (cOpd f) = some q from h)
      obtain ⟨l, kl, h⟩ := ifS_eq h
      cases h
      exact ⟨f, args, ts, rfl, kf, kl⟩
    | _ => cases h
  · cases h
theorem stepV_ok {d : Option Nat} {g : Option (Nat × Bool)} {f : Ev} {call : Ctx} {s s' : St} {c c' : Nat} {h h' : H} {l : Log} (e : stepV d g f call s c h = .ok s' c' h' l) :
    (gOn g s.env = true ∧ ∃ v, f call s.env c h = .ok v c' h' l ∧ s' = putE d v s) ∨
    (gOn g s.env = false ∧ s' = putE d undefA s ∧ c' = c ∧ h' = h ∧ l = []) := by
  cases g with
  | none =>
    obtain ⟨v, h1, h2⟩ := map_ok (show M.map (fun v => putE d v s) (f call s.env) c h = _ from e)
    exact .inl ⟨rfl, v, h1, h2⟩
  | some q =>
    have e : ifB (isB q.2 (s.env.get q.1)) (M.map (fun v => putE d v s) (f call s.env)) (M.pure (putE d undefA s)) c h = Rs.ok s' c' h' l := e
    cases k : isB q.2 (s.env.get q.1) with
    | true =>
      rw [k] at e
      obtain ⟨v, h1, h2⟩ := map_ok (show M.map (fun v => putE d v s) (f call s.env) c h = _ from e)
      exact .inl ⟨k, v, h1, h2⟩
    | false =>
      rw [k] at e
      obtain ⟨h1, h2, h3, h4⟩ := pure_ok (show M.pure (putE d undefA s) c h = _ from e)
      exact .inr ⟨k, h1, h2, h3, h4⟩
/-- one operation -/
theorem step1_ok {n i : Nat} {o : Oper} (hi : ops[i]? = some o) {call : Ctx} (hcall : CallOk P call) {s s' : St} {c c' : Nat} {h h' : H} {l : Log} (e : step1 call s (cIt P n ops o) c h = .ok s' c' h' l) {ρ : Ren} {w : World} {a : Act} (hr : Rel ρ h w) (hS : StR ρ n s a) (hf : Free ρ c c')
    {K : Act → World → Prop} {Q : Exit → Act → World → Prop} (hk : ∀ a' w' ρ', StR ρ' n s' a' → Post ρ h w c c' ρ' h' w' → K a' w') : wpOp P ops Q i K a w := by
  unfold wpOp
  simp only [hi]
  unfold cIt at e
  cases hd : dstOk n o.dst with
  | false => rw [hd] at e; cases e
  | true =>
    rw [hd, ifB_true] at e
    cases hq : cDefer o.op with
    | some q =>
      rw [hq, ifS_some] at e
      cases hg : o.guard with
      | some g => rw [hg] at e; cases e
      | none =>
        rw [hg] at e
        obtain ⟨g, x, y, hv, e⟩ := onFn_ok (show stepD o.dst q.1 q.2 s c h = _ from e)
        obtain ⟨rfl, rfl, rfl, _⟩ := pure_ok e
        obtain ⟨f, args, ts, hop, kf, kl⟩ := cDefer_ok hq
        have hx := cOpd_VR hS.env kf
        rw [hv] at hx
        simp only [VR] at hx
        obtain ⟨x', y', hx, h1, h2⟩ := hx
        have hw : Region.wanted o (yielded ops a.tmps) = true := by simp [Region.wanted, hg]
        rw [if_pos hw]
        left
        have hrun : (execOp a.eval o).run P w = .ok (.defer { target := .fn (.func g) y', args := x' ++ args.map a.eval }) w := by
          simp only [execOp, hop, resolve, Deferred.ofValue, hx, Sem.run_bind, Sem.run_pure, Result.andThen]
        unfold Oper.wp
        rw [hrun, Oper.upon_defer]
        refine hk _ _ ρ ?_ (Post.refl hr)
        have base : StR ρ n ⟨s.env, (g, x ++ (evs s.env q.2 ++ y)) :: s.defers⟩ { a with defers := { target := .fn (.func g) y', args := x' ++ args.map a.eval } :: a.defers } := by
          refine ⟨hS.env, hS.room, _, _, y', rfl, rfl, ?_, hS.defers⟩
          simp only [Array.toList_append, Array.toList_map, List.append_assoc]
          exact h1.append ((cOps_VR hS.env kl).append h2)
        exact base.put hd (VR.undefA ρ)
    | none =>
      rw [hq, ifS_none] at e
      cases hg : guardO ops o.guard with
      | none => rw [hg] at e; cases e
      | some g =>
        rw [hg, ifS_some] at e
        have hw := wanted_eq hS.env hg
        rcases stepV_ok (show stepV o.dst g (ifS oFail (fun f => f) (cOp P o.op)) call s c h = _ from e) with ⟨h1, v, h2, rfl⟩ | ⟨h1, rfl, rfl, rfl, _⟩
        · rw [h1] at hw
          rw [if_pos hw]
          left
          cases hc : cOp P o.op with
          | none => rw [hc] at h2; cases h2
          | some f =>
            rw [hc] at h2
            exact cOp_ok hc call hcall _ _ _ _ _ _ _ h2 ρ w a hr hS.env hf _ _ fun v' ρ' w' hV hp => hk _ _ ρ' ((hS.mono (hp.le hf)).put hd hV) hp
        · rw [h1] at hw
          rw [if_neg (by rw [hw]; exact Bool.false_ne_true)]
          exact hk _ _ ρ (hS.put hd (VR.undefA ρ)) (Post.refl hr)
end
end Go.Sx
