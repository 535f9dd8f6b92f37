/-
  A region in its order; code; calls.
-/
import Derived.Test.YtmceablhndldiaaGreatDoorSx18
import Derived.Scope
namespace Go.Sx
open Go.RowKit

section
variable {P : Program} {ops : Array Oper} {call : Ctx}
theorem stepV_lo {d : Option Nat} {g : Option (Nat × Bool)} {f : Ev} {s : St} (hf : ∀ e, Lo (f call e)) : Lo (stepV d g f call s) := by
  unfold stepV
  exact Lo.ifS (Lo.map (hf _)) fun _ => Lo.ifB (Lo.map (hf _)) (Lo.pure _)
theorem cIt_lo (hc : CtxLo call) (n : Nat) (o : Oper) (s : St) : Lo (step1 call s (cIt P n ops o)) := by
  unfold cIt
  cases dstOk n o.dst with
  | false => exact Lo.fail
  | true =>
    cases cDefer o.op with
    | some q =>
      cases o.guard with
      | some g => exact Lo.fail
      | none => exact Lo.onFn Lo.fail fun _ _ _ => Lo.pure _
    | none =>
      cases guardO ops o.guard with
      | none => exact Lo.fail
      | some g =>
        refine stepV_lo fun e => ?_
        cases hq : cOp P o.op with
        | none => exact Lo.fail
        | some f => exact (cOp_lo hq).lo call hc e
theorem step2_of {i : It} {s s' : St} {c c' : Nat} {h h' : H} {l : Log} (e : step2 call s i c h = .ok s' c' h' l) : step1 call s i c h = .ok s' c' h' l := by
  cases i with
  | val d g f => exact e
  | dfr d f args => cases e
  | bad => cases e
theorem evOps_lo (hc : CtxLo call) (n : Nat) : ∀ (os : List Oper) (s : St), Lo (evOps call (mapL (cIt P n ops) os) s)
  | [], s => Lo.pure s
  | o :: os, s => Lo.bind (cIt_lo hc n o s) fun s' => evOps_lo hc n os s'
/-- the operations of a region, in the text's order -/
theorem plain_ok (hcall : CallOk P call) (hlo : CtxLo call) {n : Nat} {Q : Exit → Act → World → Prop} : ∀ (os : List Oper) (i0 : Nat), os = ops.toList.drop i0 → ∀ (s s' : St) (c c' : Nat) (h h' : H) (l : Log), evOps call (mapL (cIt P n ops) os) s c h = .ok s' c' h' l →
    ∀ (ρ : Ren) (w : World) (a : Act), Rel ρ h w → StR ρ n s a → Free ρ c c' → (∀ a' w' ρ', StR ρ' n s' a' → Post ρ h w c c' ρ' h' w' → Q .normal a' w') → wpOps P ops Q (List.range' i0 os.length) a w
  | [], i0, _, s, s', c, c', h, h', l, e, ρ, w, a, hr, hS, _, hk => by
    obtain ⟨rfl, rfl, rfl, _⟩ := pure_ok (show M.pure s c h = _ from e)
    exact hk a w ρ hS (Post.refl hr)
  | o :: os, i0, ho, s, s', c, c', h, h', l, e, ρ, w, a, hr, hS, hf, hk => by
    obtain ⟨s1, c1, h1, l1, l2, e1, e2, _⟩ := bind_ok (show M.bind (step1 call s (cIt P n ops o)) (evOps call (mapL (cIt P n ops) os)) c h = _ from e)
    have L1 := cIt_lo (P := P) (ops := ops) hlo n o s c h s1 c1 h1 l1 e1
    have L2 := evOps_lo (P := P) (ops := ops) hlo n os s1 c1 h1 s' c' h' l2 e2
    have hi : ops[i0]? = some o := by
      have := congrArg List.head? ho
      rw [List.head?_drop] at this
      simpa using this.symm
    have hos : os = ops.toList.drop (i0 + 1) := by
      have := congrArg List.tail ho
      simpa using this
    show wpOps P ops Q (i0 :: List.range' (i0 + 1) os.length) a w
    rw [wpOps_cons]
    refine step1_ok hi hcall e1 hr hS (fun m h1 h2 => hf m h1 (Nat.lt_of_lt_of_le h2 L2.le)) fun a1 w1 ρ1 hS1 hp1 => ?_
    refine plain_ok hcall hlo os (i0 + 1) hos s1 s' c1 c' h1 h' l2 e2 ρ1 w1 a1 hp1.rel hS1 (fun m k1 k2 => ?_) fun a2 w2 ρ2 hS2 hp2 => hk a2 w2 ρ2 hS2 (hp1.trans hp2 L1.le L2.le)
    rw [hp1.ext m (by omega)]
    exact hf m (Nat.le_trans L1.le k1) k2
/-- what a piece of code's symbolic run says of it -/
def CodeOk (P : Program) (n : Nat) (call : Ctx) (code : Code) (f : CodeE) : Prop := (∀ s, Lo (f call s)) ∧ ∀ s x s' c c' h h' l, f call s c h = .ok (x, s') c' h' l → ∀ ρ w a, Rel ρ h w → StR ρ n s a → Free ρ c c' →
  ∀ Q : Exit → Act → World → Prop, (∀ a' w' ρ', StR ρ' n s' a' → Post ρ h w c c' ρ' h' w' → Q (match x with | .normal => .normal | .ret => .ret | .exit i => .exit i) a' w') → code.wp P Q a w
theorem code_plain (hcall : CallOk P call) (hlo : CtxLo call) {n id : Nat} : CodeOk P n call (.region id ops false) (cRegion (mapL (cIt P n ops) ops.toList)) := by
  refine ⟨fun s => Lo.map (evOps_lo hlo n _ s), fun s x s' c c' h h' l e ρ w a hr hS hf Q hk => ?_⟩
  obtain ⟨s1, e1, he⟩ := map_ok (show M.map (fun s => (X.normal, s)) (evOps call (mapL (cIt P n ops) ops.toList) s) c h = _ from e)
  cases he
  refine wp_region ?_
  rw [List.range_eq_range']
  exact plain_ok hcall hlo ops.toList 0 rfl s s' c c' h h' l e1 ρ w a hr hS hf hk
theorem onN_lo {k : St → M (X × St)} (hk : ∀ s, Lo (k s)) (r : X × St) : Lo (onN k r) := by
  obtain ⟨x, s⟩ := r
  cases x with
  | normal => exact hk s
  | ret => exact Lo.pure _
  | exit i => exact Lo.pure _
theorem code_skip {n : Nat} : CodeOk P n call .skip cSkip := by
  refine ⟨fun s => Lo.pure _, fun s x s' c c' h h' l e ρ w a hr hS _ Q hk => ?_⟩
  obtain ⟨he, rfl, rfl, _⟩ := pure_ok e
  cases he
  exact wp_skip (hk a w ρ hS (Post.refl hr))
theorem code_label {n k : Nat} : CodeOk P n call (.label k) cSkip := by
  refine ⟨fun s => Lo.pure _, fun s x s' c c' h h' l e ρ w a hr hS _ Q hk => ?_⟩
  obtain ⟨he, rfl, rfl, _⟩ := pure_ok e
  cases he
  exact wp_label (hk a w ρ hS (Post.refl hr))
theorem code_exit {n k : Nat} : CodeOk P n call (.exit k) (cExit k) := by
  refine ⟨fun s => Lo.pure _, fun s x s' c c' h h' l e ρ w a hr hS _ Q hk => ?_⟩
  obtain ⟨he, rfl, rfl, _⟩ := pure_ok e
  cases he
  exact wp_exit (hk a w ρ hS (Post.refl hr))
theorem code_ret {n : Nat} : CodeOk P n call .ret cRet := by
  refine ⟨fun s => Lo.pure _, fun s x s' c c' h h' l e ρ w a hr hS _ Q hk => ?_⟩
  obtain ⟨he, rfl, rfl, _⟩ := pure_ok e
  cases he
  exact wp_ret (hk a w ρ hS (Post.refl hr))
theorem code_bad {n : Nat} {k : Code} : CodeOk P n call k cBad := ⟨fun _ => Lo.fail, fun _ _ _ _ _ _ _ _ e => by cases e⟩
theorem code_seq {n : Nat} {x y : Code} {f g : CodeE} (hx : CodeOk P n call x f) (hy : CodeOk P n call y g) : CodeOk P n call (.seq x y) (cSeq f g) := by
  refine ⟨fun s => Lo.bind (hx.1 s) (onN_lo hy.1), fun s r s' c c' h h' l e ρ w a hr hS hf Q hk => ?_⟩
  obtain ⟨⟨r1, s1⟩, c1, h1, l1, l2, e1, e2, _⟩ := bind_ok e
  have L1 := hx.1 s c h _ c1 h1 l1 e1
  have L2 := onN_lo hy.1 (r1, s1) c1 h1 _ c' h' l2 e2
  refine wp_seq (hx.2 s r1 s1 c c1 h h1 l1 e1 ρ w a hr hS (fun m k1 k2 => hf m k1 (Nat.lt_of_lt_of_le k2 L2.le)) _ fun a1 w1 ρ1 hS1 hp1 => ?_)
  have hf1 : Free ρ1 c1 c' := fun m k1 k2 => by
    rw [hp1.ext m (by omega)]
    exact hf m (Nat.le_trans L1.le k1) k2
  cases r1 with
  | normal => exact hy.2 s1 r s' c1 c' h1 h' l2 e2 ρ1 w1 a1 hp1.rel hS1 hf1 Q fun a2 w2 ρ2 hS2 hp2 => hk a2 w2 ρ2 hS2 (hp1.trans hp2 L1.le L2.le)
  | ret =>
    obtain ⟨he, rfl, rfl, _⟩ := pure_ok (show M.pure (X.ret, s1) c1 h1 = _ from e2)
    cases he
    exact hk a1 w1 ρ1 hS1 hp1
  | exit i =>
    obtain ⟨he, rfl, rfl, _⟩ := pure_ok (show M.pure (X.exit i, s1) c1 h1 = _ from e2)
    cases he
    exact hk a1 w1 ρ1 hS1 hp1
theorem code_cond {n : Nat} {o : Operand} {q : Opd} {x y : Code} {f g : CodeE} (ko : cOpd o = some q) (hx : CodeOk P n call x f) (hy : CodeOk P n call y g) : CodeOk P n call (.cond o x y) (cCond q f g) := by
  refine ⟨fun s => Lo.onBool Lo.fail fun b => Lo.ifB (hx.1 s) (hy.1 s), fun s r s' c c' h h' l e ρ w a hr hS hf Q hk => ?_⟩
  obtain ⟨b, hb, e⟩ := onBool_ok e
  have hv := cOpd_VR hS.env ko
  rw [hb] at hv
  simp only [VR] at hv
  refine wp_cond hv ?_
  cases b with
  | true => exact hx.2 s r s' c c' h h' l e ρ w a hr hS hf Q hk
  | false => exact hy.2 s r s' c c' h h' l e ρ w a hr hS hf Q hk
theorem code_block {n id : Nat} {x : Code} {f : CodeE} (hx : CodeOk P n call x f) : CodeOk P n call (.block id x) (cBlock id f) := by
  refine ⟨fun s => Lo.map (hx.1 s), fun s r s' c c' h h' l e ρ w a hr hS hf Q hk => ?_⟩
  obtain ⟨⟨r1, s1⟩, e1, he⟩ := map_ok e
  have he : (r, s') = ((X.rec .normal .ret (fun i => ifB (Nat.beq i id) .normal (.exit i)) r1 : X), s1) := he
  cases he
  refine wp_block (hx.2 s r1 _ c c' h h' l e1 ρ w a hr hS hf _ fun a1 w1 ρ1 hS1 hp1 => ?_)
  have := hk a1 w1 ρ1 hS1 hp1
  cases r1 with
  | normal => exact this
  | ret => exact this
  | exit i =>
    show if i = id then Q .normal a1 w1 else Q (.exit i) a1 w1
    have this : Q (match ifB (Nat.beq i id) X.normal (X.exit i) with | .normal => .normal | .ret => .ret | .exit i => .exit i) a1 w1 := this
    cases hb : Nat.beq i id with
    | true => rw [hb] at this; rw [if_pos (Nat.eq_of_beq_eq_true hb)]; exact this
    | false => rw [hb] at this; rw [if_neg fun q => by subst q; simp at hb]; exact this
theorem code_scope {n : Nat} {x : Code} {f : CodeE} (hx : CodeOk P n call x f) : CodeOk P n call (.scope x) f := by
  refine ⟨hx.1, fun s r s' c c' h h' l e ρ w a hr hS hf Q hk => ?_⟩
  refine wp_scope_straight (hx.2 s r s' c c' h h' l e ρ w a hr hS hf _ fun a1 w1 ρ1 hS1 hp1 => ?_)
  have := hk a1 w1 ρ1 hS1 hp1
  cases r <;> exact this
theorem flush_get : ∀ (e : Env) (t : Nat), (Env.base e.flush).get t = e.get t
  | .base b, t => rfl
  | .put u v e, t => by
    have ih := flush_get e t
    rw [env_put]
    show ifS undefA (fun v => v) ((e.flush.set u (some v)).get t) = _
    rw [T.get_set]
    by_cases ht : t = u
    · rw [if_pos ht, if_pos ht]
      rfl
    · rw [if_neg ht, if_neg ht]
      exact ih
theorem StR.flush {ρ : Ren} {n : Nat} {s : St} {a : Act} (h : StR ρ n s a) : StR ρ n (flushS s) a := ⟨fun t => by show VR ρ ((Env.base s.env.flush).get t) _; rw [flush_get]; exact h.env t, h.room, h.defers⟩
theorem loopN_lo {f : CodeE} (hf : ∀ s, Lo (f call s)) : ∀ (k : Nat) (s : St), Lo (loopN f k call s)
  | 0, _ => Lo.fail
  | k + 1, s => Lo.bind (hf s) (onN_lo fun s => loopN_lo hf k (flushS s))
theorem loop_key {n : Nat} {x : Code} {f : CodeE} (hx : CodeOk P n call x f) (Q : Exit → Act → World → Prop) : ∀ (k : Nat) (s : St) (r : X) (s' : St) (c c' : Nat) (h h' : H) (l : Log), loopN f k call s c h = .ok (r, s') c' h' l → ∀ (ρ : Ren) (w : World) (a : Act), Rel ρ h w → StR ρ n s a → Free ρ c c' →
    (∀ a' w' ρ', StR ρ' n s' a' → Post ρ h w c c' ρ' h' w' → Q (match r with | .normal => .normal | .ret => .ret | .exit i => .exit i) a' w') →
    ∀ (b : Frame) (kk : List Item) (cs : List Frame), ∃ e a' w', Q e a' w' ∧ Arrives P (lone (b.at a (.code x :: .inLoop x :: kk)) cs w) b kk cs e a' w'
  | 0, _, _, _, _, _, _, _, _, e, _, _, _, _, _, _, _, _, _, _ => by cases e
  | k + 1, s, r, s', c, c', h, h', l, e, ρ, w, a, hr, hS, hf, hk, b, kk, cs => by
    obtain ⟨⟨r1, s1⟩, c1, h1, l1, l2, e1, e2, _⟩ := bind_ok (show M.bind (f call s) (onN fun s => loopN f k call (flushS s)) c h = _ from e)
    have L1 := hx.1 s c h _ c1 h1 l1 e1
    have L2 := onN_lo (fun s => loopN_lo hx.1 k (flushS s)) (r1, s1) c1 h1 _ c' h' l2 e2
    have hw := hx.2 s r1 s1 c c1 h h1 l1 e1 ρ w a hr hS (fun m k1 k2 => hf m k1 (Nat.lt_of_lt_of_le k2 L2.le)) (fun e a1 w1 => ∃ ρ1, e = (match r1 with | .normal => .normal | .ret => .ret | .exit i => .exit i) ∧ StR ρ1 n s1 a1 ∧ Post ρ h w c c1 ρ1 h1 w1) fun a1 w1 ρ1 hS1 hp1 => ⟨ρ1, rfl, hS1, hp1⟩
    obtain ⟨e, a1, w1, ⟨ρ1, he, hS1, hp1⟩, harr⟩ := hw b (.inLoop x :: kk) cs
    have hf1 : Free ρ1 c1 c' := fun m k1 k2 => by
      rw [hp1.ext m (by omega)]
      exact hf m (Nat.le_trans L1.le k1) k2
    cases r1 with
    | normal =>
      subst he
      obtain ⟨e3, a3, w3, hq3, harr3⟩ := loop_key hx Q k (flushS s1) r s' c1 c' h1 h' l2 e2 ρ1 w1 a1 hp1.rel hS1.flush hf1 (fun a2 w2 ρ2 hS2 hp2 => hk a2 w2 ρ2 hS2 (hp1.trans hp2 L1.le L2.le)) b kk cs
      exact ⟨e3, a3, w3, hq3, .of_steps (Steps.trans harr (.one step_inLoop)) harr3⟩
    | ret =>
      subst he
      obtain ⟨he, rfl, rfl, _⟩ := pure_ok (show M.pure (X.ret, s1) c1 h1 = _ from e2)
      cases he
      exact ⟨_, a1, w1, hk a1 w1 ρ1 hS1 hp1, .pass (x := .inLoop x) rfl (fun _ _ => .inl (by simp)) harr⟩
    | exit i =>
      subst he
      obtain ⟨he, rfl, rfl, _⟩ := pure_ok (show M.pure (X.exit i, s1) c1 h1 = _ from e2)
      cases he
      exact ⟨_, a1, w1, hk a1 w1 ρ1 hS1 hp1, .pass (x := .inLoop x) rfl (fun _ _ => .inl (by simp)) harr⟩
theorem code_loop {n : Nat} {x : Code} {f : CodeE} (hx : CodeOk P n call x f) : CodeOk P n call (.loop x) (cLoop f) := by
  refine ⟨fun s => loopN_lo hx.1 _ s, fun s r s' c c' h h' l e ρ w a hr hS hf Q hk => ?_⟩
  intro b kk cs
  obtain ⟨e3, a3, w3, hq3, harr3⟩ := loop_key hx Q 100000 s r s' c c' h h' l e ρ w a hr hS hf hk b kk cs
  exact ⟨e3, a3, w3, hq3, .of_steps (.one step_loop) harr3⟩
end
end Go.Sx
