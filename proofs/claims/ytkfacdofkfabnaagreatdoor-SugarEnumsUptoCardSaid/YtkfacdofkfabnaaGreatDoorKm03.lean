import Derived.Recover
import Derived.Scope
import Derived.Test.YtkfacdofkfabnaaGreatDoorKm02
noncomputable section
namespace Go.Sx
open Go.RowKit
section
variable {P : Program} {ops : Array Oper} {call : Ctx}
theorem uA {d : Option Nat} {g : Option (Nat × Bool)} {f : Ev} {s : St} (hf : ∀ e, Lo (f call e)) : Lo (jN d g f call s) := by
 unfold jN; exact Lo.ifS (Lo.map (hf _)) λ _ => Lo.ifB (Lo.map (hf _)) (Lo.pure _)
theorem zo (hc : kG call) (n : Nat) (o : Oper) (s : St) : Lo (og call s (cIt P n ops o)) := by
 unfold cIt; cases sI n o.dst with
 | false => exact Lo.fail
 | true =>
   cases lS o.op with
   | some q =>
     cases o.guard with
     | some g => exact Lo.fail
     | none => exact Lo.onFn Lo.fail λ _ _ _ => Lo.pure _
   | none =>
     cases lO ops o.guard with
     | none => exact Lo.fail
     | some g =>
       refine uA λ e => ?_; cases hq : cOp P o.op with
       | none => exact Lo.fail
       | some f => exact (Fa hq).lo call hc e
theorem Dh {i : It} {s s' : St} {c c' : Nat} {h h' : H} {l : Log} (e : iJ call s i c h = .ok s' c' h' l) : og call s i c h = .ok s' c' h' l := by
 cases i with
 | val d g f => exact e
 | dfr d f args => cases e
 | bad => cases e
theorem qB (hc : kG call) (n : Nat) : ∀ (os : List Oper) (s : St), Lo (wA call (jH (cIt P n ops) os) s)
 | [], s => Lo.pure s
 | o :: os, s => Lo.bind (zo hc n o s) λ s' => qB hc n os s'
theorem vi (hcall : kH P call) (hlo : kG call) {n : Nat} {Q : Exit -> Act -> World -> Prop} : ∀ (os : List Oper) (i0 : Nat), os = ops.toList.drop i0 -> ∀ (s s' : St) (c c' : Nat) (h h' : H) (l : Log), wA call (jH (cIt P n ops) os) s c h = .ok s' c' h' l ->
  ∀ (ρ : Ren) (w : World) (a : Act), Rel ρ h w -> StR ρ n s a -> lV ρ c c' -> (∀ a' w' ρ', StR ρ' n s' a' -> Post ρ h w c c' ρ' h' w' -> Q .normal a' w') -> wpOps P ops Q (List.range' i0 os.length) a w
 | [], i0, _, s, s', c, c', h, h', l, e, ρ, w, a, hr, hS, _, hk => by
   obtain ⟨rfl, rfl, rfl, _⟩ := aS (show M.pure s c h = _ from e)
   exact hk a w ρ hS (Post.refl hr)
 | o :: os, i0, ho, s, s', c, c', h, h', l, e, ρ, w, a, hr, hS, hf, hk => by
   obtain ⟨s1, c1, h1, l1, l2, e1, e2, _⟩ := dy (show M.bind (og call s (cIt P n ops o)) (wA call (jH (cIt P n ops) os)) c h = _ from e)
   have L1 := zo (P := P) (ops := ops) hlo n o s c h s1 c1 h1 l1 e1
   have L2 := qB (P := P) (ops := ops) hlo n os s1 c1 h1 s' c' h' l2 e2
   have hi : ops[i0]? = some o := by
    have := congrArg List.head? ho; rw [List.head?_drop] at this; simpa using this.symm
   have hos : os = ops.toList.drop (i0 + 1) := by
    have := congrArg List.tail ho; simpa using this
   show wpOps P ops Q (i0 :: List.range' (i0 + 1) os.length) a w; rw [wpOps_cons]; refine uC hi hcall e1 hr hS (λ m h1 h2 => hf m h1 (Nat.lt_of_lt_of_le h2 L2.le)) λ a1 w1 ρ1 hS1 hp1 => ?_; refine vi hcall hlo os (i0 + 1) hos s1 s' c1 c' h1 h' l2 e2 ρ1 w1 a1 hp1.rel hS1 (λ m k1 k2 => ?_) λ a2 w2 ρ2 hS2 hp2 => hk a2 w2 ρ2 hS2 (hp1.trans hp2 L1.le L2.le); rw [hp1.ext m zO]; exact hf m (Nat.le_trans L1.le k1) k2
def di (P : Program) (n : Nat) (call : Ctx) (code : Code) (f : df) : Prop := (∀ s, Lo (f call s)) /\ ∀ s x s' c c' h h' l, f call s c h = .ok (x, s') c' h' l -> ∀ ρ w a, Rel ρ h w -> StR ρ n s a -> lV ρ c c' ->
 ∀ Q : Exit -> Act -> World -> Prop, (∀ a' w' ρ', StR ρ' n s' a' -> Post ρ h w c c' ρ' h' w' -> Q (match x with | .normal => .normal | .ret => .ret | .exit i => .exit i) a' w') -> code.wp P Q a w
theorem za (hcall : kH P call) (hlo : kG call) {n id : Nat} : di P n call (.region id ops false) (AT (jH (cIt P n ops) ops.toList)) := by
 refine ⟨λ s => Lo.map (qB hlo n _ s), λ s x s' c c' h h' l e ρ w a hr hS hf Q hk => ?_⟩; obtain ⟨s1, e1, he⟩ := cS (show M.map (λ s => (X.normal, s)) (wA call (jH (cIt P n ops) ops.toList) s) c h = _ from e); cases he; refine wp_region ?_; rw [List.range_eq_range']; exact vi hcall hlo ops.toList 0 rfl s s' c c' h h' l e1 ρ w a hr hS hf hk
theorem tu {k : St -> M (X × St)} (hk : ∀ s, Lo (k s)) (r : X × St) : Lo (onN k r) := by
 obtain ⟨x, s⟩ := r; cases x with
 | normal => exact hk s
 | ret => exact Lo.pure _
 | exit i => exact Lo.pure _
theorem Cs {n : Nat} : di P n call .skip AS := by
 refine ⟨λ s => Lo.pure _, λ s x s' c c' h h' l e ρ w a hr hS _ Q hk => ?_⟩; obtain ⟨he, rfl, rfl, _⟩ := aS e; cases he; exact wp_skip (hk a w ρ hS (Post.refl hr))
theorem zb {n k : Nat} : di P n call (.label k) AS := by
 refine ⟨λ s => Lo.pure _, λ s x s' c c' h h' l e ρ w a hr hS _ Q hk => ?_⟩; obtain ⟨he, rfl, rfl, _⟩ := aS e; cases he; exact wp_label (hk a w ρ hS (Post.refl hr))
theorem Cu {n k : Nat} : di P n call (.exit k) (IK k) := by
 refine ⟨λ s => Lo.pure _, λ s x s' c c' h h' l e ρ w a hr hS _ Q hk => ?_⟩; obtain ⟨he, rfl, rfl, _⟩ := aS e; cases he; exact wp_exit (hk a w ρ hS (Post.refl hr))
theorem EM {n : Nat} : di P n call .ret Ko := by
 refine ⟨λ s => Lo.pure _, λ s x s' c c' h h' l e ρ w a hr hS _ Q hk => ?_⟩; obtain ⟨he, rfl, rfl, _⟩ := aS e; cases he; exact wp_ret (hk a w ρ hS (Post.refl hr))
theorem iV {n : Nat} {k : Code} : di P n call k rt := ⟨λ _ => Lo.fail, λ _ _ _ _ _ _ _ _ e => by cases e⟩
theorem EL {n : Nat} {x y : Code} {f g : df} (hx : di P n call x f) (hy : di P n call y g) : di P n call (.seq x y) (JC f g) := by
 refine ⟨λ s => Lo.bind (hx.1 s) (tu hy.1), λ s r s' c c' h h' l e ρ w a hr hS hf Q hk => ?_⟩; obtain ⟨⟨r1, s1⟩, c1, h1, l1, l2, e1, e2, _⟩ := dy e; have L1 := hx.1 s c h _ c1 h1 l1 e1; have L2 := tu hy.1 (r1, s1) c1 h1 _ c' h' l2 e2; refine wp_seq (hx.2 s r1 s1 c c1 h h1 l1 e1 ρ w a hr hS (λ m k1 k2 => hf m k1 (Nat.lt_of_lt_of_le k2 L2.le)) _ λ a1 w1 ρ1 hS1 hp1 => ?_); have hf1 : lV ρ1 c1 c' := λ m k1 k2 => by
  rw [hp1.ext m zO]; exact hf m (Nat.le_trans L1.le k1) k2
 cases r1 with
 | normal => exact hy.2 s1 r s' c1 c' h1 h' l2 e2 ρ1 w1 a1 hp1.rel hS1 hf1 Q λ a2 w2 ρ2 hS2 hp2 => hk a2 w2 ρ2 hS2 (hp1.trans hp2 L1.le L2.le)
 | ret =>
   obtain ⟨he, rfl, rfl, _⟩ := aS (show M.pure (X.ret, s1) c1 h1 = _ from e2); cases he; exact hk a1 w1 ρ1 hS1 hp1
 | exit i =>
   obtain ⟨he, rfl, rfl, _⟩ := aS (show M.pure (X.exit i, s1) c1 h1 = _ from e2); cases he; exact hk a1 w1 ρ1 hS1 hp1
theorem Cv {n : Nat} {o : Operand} {q : Opd} {x y : Code} {f g : df} (ko : aW o = some q) (hx : di P n call x f) (hy : di P n call y g) : di P n call (.cond o x y) (Fc q f g) := by
 refine ⟨λ s => Lo.onBool Lo.fail λ b => Lo.ifB (hx.1 s) (hy.1 s), λ s r s' c c' h h' l e ρ w a hr hS hf Q hk => ?_⟩; obtain ⟨b, hb, e⟩ := nH e; have hv := aO hS.env ko; rw [hb] at hv; simp only [VR] at hv; refine wp_cond hv ?_; cases b with
 | true => exact hx.2 s r s' c c' h h' l e ρ w a hr hS hf Q hk
 | false => exact hy.2 s r s' c c' h h' l e ρ w a hr hS hf Q hk
theorem ze {n id : Nat} {x : Code} {f : df} (hx : di P n call x f) : di P n call (.block id x) (zp id f) := by
 refine ⟨λ s => Lo.map (hx.1 s), λ s r s' c c' h h' l e ρ w a hr hS hf Q hk => ?_⟩; obtain ⟨⟨r1, s1⟩, e1, he⟩ := cS e; have he : (r, s') = ((X.rec .normal .ret (λ i => ifB (Nat.beq i id) .normal (.exit i)) r1 : X), s1) := he; cases he; refine wp_block (hx.2 s r1 _ c c' h h' l e1 ρ w a hr hS hf _ λ a1 w1 ρ1 hS1 hp1 => ?_); have := hk a1 w1 ρ1 hS1 hp1; cases r1 with
 | normal => exact this
 | ret => exact this
 | exit i =>
   show if i = id then Q .normal a1 w1 else Q (.exit i) a1 w1; have this : Q (match ifB (Nat.beq i id) X.normal (X.exit i) with | .normal => .normal | .ret => .ret | .exit i => .exit i) a1 w1 := this; cases hb : Nat.beq i id with
   | true => rw [hb] at this; rw [if_pos (Nat.eq_of_beq_eq_true hb)]; exact this
   | false => rw [hb] at this; rw [if_neg λ q => by subst q; simp at hb]; exact this
theorem y9 {n : Nat} {x : Code} {f : df} (hx : di P n call x f) : di P n call (.scope x) f := by
 refine ⟨hx.1, λ s r s' c c' h h' l e ρ w a hr hS hf Q hk => ?_⟩; refine wp_scope_straight (hx.2 s r s' c c' h h' l e ρ w a hr hS hf _ λ a1 w1 ρ1 hS1 hp1 => ?_); have := hk a1 w1 ρ1 hS1 hp1; cases r <;> exact this
theorem su : ∀ (e : Env) (t : Nat), (Env.base e.flush).get t = e.get t
 | .base b, t => rfl
 | .put u v e, t => by
   have ih := su e t
   rw [tX]
   show ifS undefA (λ v => v) ((e.flush.set u (some v)).get t) = _
   rw [T.get_set]
   by_cases ht : t = u
   . rw [if_pos ht, if_pos ht]
     rfl
   . rw [if_neg ht, if_neg ht]
     exact ih
theorem StR.flush {ρ : Ren} {n : Nat} {s : St} {a : Act} (h : StR ρ n s a) : StR ρ n (nS s) a := ⟨λ t => by show VR ρ ((Env.base s.env.flush).get t) _; rw [su]; exact h.env t, h.room, h.defers⟩
theorem qd {f : df} (hf : ∀ s, Lo (f call s)) : ∀ (k : Nat) (s : St), Lo (Ax f k call s)
 | 0, _ => Lo.fail
 | k + 1, s => Lo.bind (hf s) (tu λ s => qd hf k (nS s))
theorem vM {n : Nat} {x : Code} {f : df} (hx : di P n call x f) (Q : Exit -> Act -> World -> Prop) : ∀ (k : Nat) (s : St) (r : X) (s' : St) (c c' : Nat) (h h' : H) (l : Log), Ax f k call s c h = .ok (r, s') c' h' l -> ∀ (ρ : Ren) (w : World) (a : Act), Rel ρ h w -> StR ρ n s a -> lV ρ c c' ->
  (∀ a' w' ρ', StR ρ' n s' a' -> Post ρ h w c c' ρ' h' w' -> Q (match r with | .normal => .normal | .ret => .ret | .exit i => .exit i) a' w') ->
  ∀ (b : Frame) (kk : List Item) (cs : List Frame), ∃ e a' w', Q e a' w' /\ Arrives P (lone (b.at a (.code x :: .inLoop x :: kk)) cs w) b kk cs e a' w'
 | 0, _, _, _, _, _, _, _, _, e, _, _, _, _, _, _, _, _, _, _ => by cases e
 | k + 1, s, r, s', c, c', h, h', l, e, ρ, w, a, hr, hS, hf, hk, b, kk, cs => by
   obtain ⟨⟨r1, s1⟩, c1, h1, l1, l2, e1, e2, _⟩ := dy (show M.bind (f call s) (onN λ s => Ax f k call (nS s)) c h = _ from e)
   have L1 := hx.1 s c h _ c1 h1 l1 e1
   have L2 := tu (λ s => qd hx.1 k (nS s)) (r1, s1) c1 h1 _ c' h' l2 e2
   have hw := hx.2 s r1 s1 c c1 h h1 l1 e1 ρ w a hr hS (λ m k1 k2 => hf m k1 (Nat.lt_of_lt_of_le k2 L2.le)) (λ e a1 w1 => ∃ ρ1, e = (match r1 with | .normal => .normal | .ret => .ret | .exit i => .exit i) /\ StR ρ1 n s1 a1 /\ Post ρ h w c c1 ρ1 h1 w1) λ a1 w1 ρ1 hS1 hp1 => ⟨ρ1, rfl, hS1, hp1⟩
   obtain ⟨e, a1, w1, ⟨ρ1, he, hS1, hp1⟩, harr⟩ := hw b (.inLoop x :: kk) cs
   have hf1 : lV ρ1 c1 c' := λ m k1 k2 => by
    rw [hp1.ext m zO]
    exact hf m (Nat.le_trans L1.le k1) k2
   cases r1 with
   | normal =>
     subst he
     obtain ⟨e3, a3, w3, hq3, harr3⟩ := vM hx Q k (nS s1) r s' c1 c' h1 h' l2 e2 ρ1 w1 a1 hp1.rel hS1.flush hf1 (λ a2 w2 ρ2 hS2 hp2 => hk a2 w2 ρ2 hS2 (hp1.trans hp2 L1.le L2.le)) b kk cs
     exact ⟨e3, a3, w3, hq3, .of_steps (Steps.trans harr (.one step_inLoop)) harr3⟩
   | ret =>
     subst he
     obtain ⟨he, rfl, rfl, _⟩ := aS (show M.pure (X.ret, s1) c1 h1 = _ from e2)
     cases he
     exact ⟨_, a1, w1, hk a1 w1 ρ1 hS1 hp1, .pass (x := .inLoop x) rfl (λ _ _ => .inl (by simp)) harr⟩
   | exit i =>
     subst he
     obtain ⟨he, rfl, rfl, _⟩ := aS (show M.pure (X.exit i, s1) c1 h1 = _ from e2)
     cases he
     exact ⟨_, a1, w1, hk a1 w1 ρ1 hS1 hp1, .pass (x := .inLoop x) rfl (λ _ _ => .inl (by simp)) harr⟩
theorem Ct {n : Nat} {x : Code} {f : df} (hx : di P n call x f) : di P n call (.loop x) (Fb f) := by
 refine ⟨λ s => qd hx.1 _ s, λ s r s' c c' h h' l e ρ w a hr hS hf Q hk => ?_⟩; intro b kk cs; obtain ⟨e3, a3, w3, hq3, harr3⟩ := vM hx Q 100000 s r s' c c' h h' l e ρ w a hr hS hf hk b kk cs; exact ⟨e3, a3, w3, hq3, .of_steps (.one step_loop) harr3⟩
end
end Go.Sx
namespace Go.Sx
open Go.RowKit (zH zO zD zK zW zA zB zG)
section
variable {P : Program} {ops : Array Oper} {call : Ctx}
def KA (call : Ctx) (is : List It) (st : Nat -> St) (ct : Nat -> Nat) (hp : Nat -> H) (lg : Nat -> Log) : Prop :=
 ∀ j i, is[j]? = some i -> iJ call (st j) i (ct j) (hp j) = .ok (st (j + 1)) (ct (j + 1)) (hp (j + 1)) (lg j)
def shift {α : Type} (a : α) (f : Nat -> α) : Nat -> α
 | 0 => a
 | j + 1 => f j
theorem qC : ∀ (is : List It) (s : St) (c : Nat) (h : H) (r : List (Nat × Nat × Log) × St) (c' : Nat) (h' : H) (l : Log), eX call is s c h = .ok r c' h' l ->
  ∃ st ct hp lg, KA call is st ct hp lg /\ st 0 = s /\ ct 0 = c /\ hp 0 = h /\ st is.length = r.2 /\ ct is.length = c' /\ hp is.length = h' /\ ∀ j, j < is.length -> tB j r.1 = (ct j, ct (j + 1), lg j)
 | [], s, c, h, r, c', h', l, e => by
   obtain ⟨rfl, rfl, rfl, rfl⟩ := aS (show M.pure ([], s) c h = _ from e)
   exact ⟨λ _ => s, λ _ => c', λ _ => h', λ _ => [], λ j i hi => (by simp at hi), rfl, rfl, rfl, rfl, rfl, rfl, λ j hj => (by simp at hj)⟩
 | i :: is, s, c, h, r, c', h', l, e => by
   have e : Rs.rec (motive := λ _ => Rs (List (Nat × Nat × Log) × St)) .fail (λ s1 c1 h1 f1 => Rs.rec (motive := λ _ => Rs (List (Nat × Nat × Log) × St)) .fail (λ r c2 h2 f2 => .ok ((c, c1, f1) :: r.1, r.2) c2 h2 (List.append f1 f2)) (eX call is s1 c1 h1)) (iJ call s i c h) = Rs.ok r c' h' l := e
   cases e1 : iJ call s i c h with
   | fail => rw [e1] at e; cases e
   | ok s1 c1 h1 f1 =>
     rw [e1] at e
     have e : Rs.rec (motive := λ _ => Rs (List (Nat × Nat × Log) × St)) .fail (λ r c2 h2 f2 => .ok ((c, c1, f1) :: r.1, r.2) c2 h2 (List.append f1 f2)) (eX call is s1 c1 h1) = Rs.ok r c' h' l := e
     cases e2 : eX call is s1 c1 h1 with
     | fail => rw [e2] at e; cases e
     | ok q c2 h2 f2 =>
       rw [e2] at e
       cases e
       obtain ⟨st, ct, hp, lg, k1, k2, k3, k4, k5, k6, k7, k8⟩ := qC is s1 c1 h1 q _ _ f2 e2
       refine ⟨shift s st, shift c ct, shift h hp, shift f1 lg, λ j x hx => ?_, rfl, rfl, rfl, k5, k6, k7, λ j hj => ?_⟩
       . cases j with
         | zero =>
           cases hx
           show iJ call s i c h = .ok (st 0) (ct 0) (hp 0) f1
           rw [k2, k3, k4]
           exact e1
         | succ j => exact k1 j x (by simpa using hx)
       . cases j with
         | zero =>
           show (c, c1, f1) = (c, ct 0, f1)
           rw [k3]
         | succ j => exact k8 j (by simpa using hj)
theorem mA {fs : List (Nat × Nat × Log)} : ∀ {ps : List (Nat × Nat)}, oU fs ps = true -> ∀ p ∈ ps, jz (tB p.1 fs) (tB p.2 fs) = true
 | [], _, p, hp => by cases hp
 | q :: ps, h, p, hp => by
   have h : ifB (jz (tB q.1 fs) (tB q.2 fs)) (oU fs ps) false = true := h
   cases hq : jz (tB q.1 fs) (tB q.2 fs) with
   | false => rw [hq] at h; cases h
   | true =>
     rw [hq] at h
     rcases List.mem_cons.1 hp with rfl | hp
     . exact hq
     . exact mA h p hp
theorem oF {q : Nat × Option Nat × Bool} : ∀ {l : Log}, qX q l = true -> ∀ p ∈ l, sL q p = false
 | [], _, p, hp => by cases hp
 | a :: l, h, p, hp => by
   have h : ifB (sL q a) false (qX q l) = true := h
   cases hq : sL q a with
   | true => rw [hq] at h; cases h
   | false =>
     rw [hq] at h
     rcases List.mem_cons.1 hp with rfl | hp
     . exact hq
     . exact oF h p hp
theorem kB {l : Log} : ∀ {k : Log}, kC k l = true -> ∀ q ∈ k, ∀ p ∈ l, sL q p = false
 | [], _, q, hq => by cases hq
 | a :: k, h, q, hq => by
   have h : ifB (qX a l) (kC k l) false = true := h
   cases ha : qX a l with
   | false => rw [ha] at h; cases h
   | true =>
     rw [ha] at h
     rcases List.mem_cons.1 hq with rfl | hq
     . exact oF ha
     . exact kB h q hq
theorem nG {lo hi : Nat} : ∀ {l : Log}, DC lo hi l = true -> ∀ q ∈ l, q.1 < lo ∨ hi <= q.1
 | [], _, q, hq => by cases hq
 | a :: l, h, q, hq => by
   have h : ifB (ifB (Nat.blt a.1 lo) true (Nat.ble hi a.1)) (DC lo hi l) false = true := h
   cases ha : ifB (Nat.blt a.1 lo) true (Nat.ble hi a.1) with
   | false => rw [ha] at h; cases h
   | true =>
     rw [ha] at h
     rcases List.mem_cons.1 hq with rfl | hq
     . cases hb : Nat.blt q.1 lo with
       | true => rw [eD] at hb; exact .inl (of_decide_eq_true hb)
       | false => rw [hb] at ha; exact .inr (Nat.le_of_ble_eq_true ha)
     . exact nG h q hq
theorem wQ {n : Nat} {x y : Option Nat} {a b : Bool} (h : sL (n, x, a) (n, y, b) = false) (hab : a = true ∨ b = true) : ∃ i j, x = some i /\ y = some j /\ i ≠ j := by
 have h : ifB (Nat.beq n n) (ifB (ifB a true b) (DZ x y) false) false = false := h; rw [Nat.beq_refl, cI] at h; have h : ifB (ifB a true b) (DZ x y) false = false := h; have hw : ifB a true b = true := (by rcases hab with h1 | h1 <;> rw [h1] <;> first | rfl | (cases a <;> rfl))
 rw [hw, cI] at h; cases x with
 | none => cases h
 | some i =>
   cases y with
   | none => cases h
   | some j =>
     refine ⟨i, j, rfl, rfl, λ e => ?_⟩; subst e; have h : Nat.beq i i = false := h; rw [Nat.beq_refl] at h; cases h
theorem CO {k l : Log} (h : kC k l = true) {n : Nat} {x : Option Nat} (hk : Tou k n x) : ¬ Wri l n x := λ hl => by
 have key : ∀ (a : Bool) (y z : Option Nat), (n, y, a) ∈ k -> (n, z, true) ∈ l -> (y = none ∨ z = none ∨ y = z) -> False := λ a y z h1 h2 h3 => by
  obtain ⟨i, j, rfl, rfl, hij⟩ := wQ (kB h _ h1 _ h2) (.inr rfl)
  rcases h3 with h3 | h3 | h3
  . cases h3
  . cases h3
  . cases h3; exact hij rfl
 obtain ⟨a, hk⟩ := hk
 rcases hk with hk | ⟨i, rfl, hk⟩
 . rcases hl with hl | ⟨j, h3, hl⟩
   . exact key a _ _ hk hl (.inl rfl)
   . exact key a _ _ hk hl (.inl rfl)
 . rcases hl with hl | ⟨j, h3, hl⟩
   . exact key a _ _ hk hl (.inr (.inl rfl))
   . exact key a _ _ hk hl (.inr (.inr h3))
theorem CN {k l : Log} (h : kC k l = true) {n : Nat} {x : Option Nat} (hk : Wri k n x) : ¬ Tou l n x := λ hl => by
 have key : ∀ (b : Bool) (y z : Option Nat), (n, y, true) ∈ k -> (n, z, b) ∈ l -> (y = none ∨ z = none ∨ y = z) -> False := λ b y z h1 h2 h3 => by
  obtain ⟨i, j, rfl, rfl, hij⟩ := wQ (kB h _ h1 _ h2) (.inl rfl)
  rcases h3 with h3 | h3 | h3
  . cases h3
  . cases h3
  . cases h3; exact hij rfl
 obtain ⟨b, hl⟩ := hl
 rcases hk with hk | ⟨i, rfl, hk⟩
 . rcases hl with hl | ⟨j, h3, hl⟩
   . exact key b _ _ hk hl (.inl rfl)
   . exact key b _ _ hk hl (.inl rfl)
 . rcases hl with hl | ⟨j, h3, hl⟩
   . exact key b _ _ hk hl (.inr (.inl rfl))
   . exact key b _ _ hk hl (.inr (.inr h3))
end
section
variable {P : Program} {ops : Array Oper} {call : Ctx}
def jB (ops : Array Oper) (S : Nat -> Prop) : Prop := ∀ (k : Nat) (o : Oper), ops[k]? = some o -> S k -> ∀ e ∈ o.after.toList, Region.binds .any e = true -> S e.on
theorem F6 {k i : Nat} (h : (Nat.shiftLeft 1 k).testBit i = true) : i = k := by
 have h : (1 <<< k).testBit i = true := h; rw [Nat.testBit_shiftLeft] at h; simp only [Bool.and_eq_true, decide_eq_true_eq] at h; have h2 := h.2; rw [Nat.testBit_one_eq_true_iff_self_eq_zero] at h2; omega
theorem ni {ps : List Nat} {i : Nat} : ∀ {l : List Edge}, (iu ps l).testBit i = true -> ∃ e ∈ l, Region.binds .any e = true /\ ∃ m, ps[e.on]? = some m /\ (m.testBit i = true ∨ i = e.on)
 | [], h => by
   have h : Nat.testBit 0 i = true := h
   simp at h
 | e :: l, h => by
   have h : (ifB (Region.binds .any e) (ifS (iu ps l) (λ m => Nat.lor (iu ps l) (Nat.lor m (Nat.shiftLeft 1 e.on))) (ps[e.on]?)) (iu ps l)).testBit i = true := h
   have hrec : (iu ps l).testBit i = true -> ∃ e' ∈ e :: l, Region.binds .any e' = true /\ ∃ m, ps[e'.on]? = some m /\ (m.testBit i = true ∨ i = e'.on) := λ h => by
    obtain ⟨e', h1, h2⟩ := ni h
    exact ⟨e', List.mem_cons_of_mem _ h1, h2⟩
   cases hb : Region.binds .any e with
   | false => rw [hb] at h; exact hrec h
   | true =>
     rw [hb, cI] at h
     cases hm : ps[e.on]? with
     | none => rw [hm] at h; exact hrec h
     | some m =>
       rw [hm] at h
       have h : ((iu ps l) ||| (m ||| (Nat.shiftLeft 1 e.on))).testBit i = true := h
       rw [Nat.testBit_or, Nat.testBit_or] at h
       simp only [Bool.or_eq_true] at h
       rcases h with h | h | h
       . exact hrec h
       . exact ⟨e, List.mem_cons_self, hb, m, hm, .inl h⟩
       . exact ⟨e, List.mem_cons_self, hb, m, hm, .inr (F6 h)⟩
theorem oG {S : Nat -> Prop} (hS : jB ops S) : ∀ (l : List Oper) (k : Nat) (ps : List Nat), l = ops.toList.drop k -> ps.length = k -> (∀ j m, ps[j]? = some m -> ∀ i, m.testBit i = true -> S j -> S i) ->
  ∀ j m, (uk l ps)[j]? = some m -> ∀ i, m.testBit i = true -> S j -> S i
 | [], k, ps, _, _, h => h
 | o :: l, k, ps, hl, hk, h => by
   have ho : ops[k]? = some o := by
    have := congrArg List.head? hl; rw [List.head?_drop] at this; simpa using this.symm
   have hl' : l = ops.toList.drop (k + 1) := by
    have := congrArg List.tail hl; simpa using this
   refine oG hS l (k + 1) (ps ++ [iu ps o.after.toList]) hl' (by simp [hk]) λ j m hj i hi hs => ?_; rcases Nat.lt_or_ge j ps.length with hlt | hge
   . rw [List.getElem?_append_left hlt] at hj; exact h j m hj i hi hs
   . rw [List.getElem?_append_right hge] at hj; have hj0 : j - ps.length = 0 := by
      rcases Nat.eq_zero_or_pos (j - ps.length) with h0 | h0
      . exact h0
      . rw [List.getElem?_eq_none (by simp; omega)] at hj; cases hj
     rw [hj0] at hj; cases hj; have hjk : j = k := zO; subst hjk; obtain ⟨e, h1, h2, m, h3, h4⟩ := ni hi; have hon := hS j o ho hs e h1 h2; rcases h4 with h4 | rfl
     . exact h e.on m h3 i h4 hon
     . exact hon
theorem jW {m j : Nat} {oj : Oper} : ∀ {i : Nat} {l : List (Nat × Nat)}, nF ops m j oj i = some l -> ∀ k, k < i -> m.testBit k = true ∨ ((k, j) ∈ l /\ ∃ ok, ops[k]? = some ok /\ Oper.apart ops ok oj = true)
 | 0, l, _, k, hk => by omega
 | i + 1, l, h, k, hk => by
   have h : ifB (Nat.testBit m i) (nF ops m j oj i) (ifS none (λ oi => ifB (Oper.apart ops oi oj) (ifS none (λ l => some ((i, j) :: l)) (nF ops m j oj i)) none) ops[i]?) = some l := h
   cases hb : Nat.testBit m i with
   | true =>
     rw [hb, cI] at h
     rcases Nat.lt_or_ge k i with hlt | hge
     . exact jW h k hlt
     . have : k = i := by omega
       subst this
       exact .inl hb
   | false =>
     rw [hb, eA] at h
     obtain ⟨oi, h1, h⟩ := ah h
     cases ha : Oper.apart ops oi oj with
     | false => rw [ha] at h; cases h
     | true =>
       rw [ha, cI] at h
       obtain ⟨l', h2, h⟩ := ah h
       cases h
       rcases Nat.lt_or_ge k i with hlt | hge
       . exact (jW h2 k hlt).imp id λ h => ⟨List.mem_cons_of_mem _ h.1, h.2⟩
       . have : k = i := by omega
         subst this
         exact .inr ⟨List.mem_cons_self, oi, h1, ha⟩
theorem qS {j : Nat} : ∀ {l : List Edge}, sO j l = true -> ∀ e ∈ l, Region.binds .any e = true -> e.on < j
 | [], _, e, he, _ => by cases he
 | a :: l, h, e, he, hb => by
   have h : ifB (ifB (Region.binds .any a) (Nat.blt a.on j) true) (sO j l) false = true := h
   cases ha : ifB (Region.binds .any a) (Nat.blt a.on j) true with
   | false => rw [ha] at h; cases h
   | true =>
     rw [ha] at h
     rcases List.mem_cons.1 he with rfl | he
     . rw [hb, cI, eD] at ha
       exact of_decide_eq_true ha
     . exact qS h e he hb
theorem jV {ps : List Nat} : ∀ {j : Nat} {l : List (Nat × Nat)}, pV ops ps j = some l -> ∀ k, k < j -> ∃ m o lk, ps[k]? = some m /\ ops[k]? = some o /\ sO k o.after.toList = true /\ nF ops m k o k = some lk /\ ∀ p ∈ lk, p ∈ l
 | 0, l, _, k, hk => by omega
 | j + 1, l, h, k, hk => by
   obtain ⟨m, h1, h⟩ := ah (show ifS none (λ m => ifS none (λ oj => ifB (sO j oj.after.toList) (ifS none (λ l => ifS none (λ k => some (List.append l k)) (nF ops m j oj j)) (pV ops ps j)) none) ops[j]?) ps[j]? = some l from h)
   obtain ⟨o, h2, h⟩ := ah h
   cases hb : sO j o.after.toList with
   | false => rw [hb] at h; cases h
   | true =>
   rw [hb, cI] at h
   obtain ⟨l1, h3, h⟩ := ah h
   obtain ⟨l2, h4, h⟩ := ah h
   cases h
   rcases Nat.lt_or_ge k j with hlt | hge
   . obtain ⟨m', o', lk, k1, k2, k0, k3, k4⟩ := jV h3 k hlt
     exact ⟨m', o', lk, k1, k2, k0, k3, λ p hp => List.mem_append_left _ (k4 p hp)⟩
   . have : k = j := by omega
     subst this
     exact ⟨m, o, l2, h1, h2, hb, h4, λ p hp => List.mem_append_right _ hp⟩
theorem BI {ps : List (Nat × Nat)} (h : hU ops = some ps) {listed : Array Bool} (hn : Region.ready .any ops listed = []) (hs : listed.size = ops.size) : ∀ j, j < ops.size -> listed.getD j false = true := by
 intro j; induction j using Nat.strongRecOn with
 | _ j ih =>
   intro hj; cases hl : listed.getD j true with
   | true =>
     rw [Array.getD_eq_getD_getElem?, Array.getElem?_eq_getElem zO] at hl ⊢; exact hl
   | false =>
     obtain ⟨m, o, lk, h1, h2, h0, _, _⟩ := jV (show pV ops (uk ops.toList []) ops.size = some ps from h) j hj
     have : j ∈ Region.ready .any ops listed := mem_ready.2 ⟨hl, o, h2, λ e he hb => by
      have hlt := qS h0 e (by simpa using he) hb; exact ih e.on hlt zO⟩
     rw [hn] at this; cases this
theorem gu {ps : List (Nat × Nat)} (h : hU ops = some ps) {i j : Nat} (hij : i < j) (hj : j < ops.size) :
  (∀ S, jB ops S -> S j -> S i) ∨ ((i, j) ∈ ps /\ ∃ oi oj, ops[i]? = some oi /\ ops[j]? = some oj /\ Oper.apart ops oi oj = true) := by
 obtain ⟨m, o, lk, h1, h2, _, h3, h4⟩ := jV (show pV ops (uk ops.toList []) ops.size = some ps from h) j hj; rcases jW h3 i hij with hb | ⟨hm, oi, k1, k2⟩
 . exact .inl λ S hS hs => oG hS ops.toList 0 [] rfl rfl (λ j m hj => by simp at hj) j m h1 i hb hs
 . exact .inr ⟨h4 _ hm, oi, o, k1, h2, k2⟩
end
end Go.Sx
namespace Go.Sx
open Go.RowKit (zH zO zD zK zW zA zB zG)
open Classical
def atS {α : Type} (val : Nat -> α) (W S : Nat -> Prop) : Nat -> α
 | 0 => val 0
 | j + 1 => if S j /\ W j then val (j + 1) else atS val W S j
section
variable {α : Type} {val : Nat -> α} {W S : Nat -> Prop}
theorem uh : ∀ {N : Nat}, (∀ j, j < N -> ¬ W j -> val (j + 1) = val j) -> (∀ j, j < N -> S j) -> atS val W S N = val N
 | 0, _, _ => rfl
 | N + 1, hst, h => by
   unfold atS
   by_cases hw : W N
   . rw [if_pos ⟨h N zO, hw⟩]
   . rw [if_neg λ h => hw h.2, hst N zO hw]
     exact uh (λ j hj => hst j zO) λ j hj => h j zO
theorem qU : ∀ {N : Nat}, (∀ j, j < N -> S j -> ¬ W j) -> atS val W S N = val 0
 | 0, _ => rfl
 | N + 1, h => by
   unfold atS
   rw [if_neg λ hh => h N zO hh.1 hh.2]
   exact qU λ j hj => h j zO
theorem jx : ∀ {N j : Nat}, j <= N -> (∀ k, j <= k -> k < N -> S k -> ¬ W k) -> atS val W S N = atS val W S j
 | 0, j, hj, _ => by rw [show j = 0 by omega]
 | N + 1, j, hj, h => by
   rcases Nat.lt_or_ge N j with hlt | hge
   . rw [show j = N + 1 by omega]
   . show (if S N /\ W N then val (N + 1) else atS val W S N) = _
     rw [if_neg λ hh => h N hge zO hh.1 hh.2]
     exact jx hge λ k h1 h2 => h k h1 zO
theorem qT : ∀ {j : Nat}, (∀ i, i < j -> ¬ W i -> val (i + 1) = val i) -> (∀ i, i < j -> ¬ S i -> ¬ W i) -> atS val W S j = val j
 | 0, _, _ => rfl
 | j + 1, hst, h => by
   unfold atS
   by_cases hw : W j
   . have hs : S j := Classical.byContradiction λ hs => h j zO hs hw
     rw [if_pos ⟨hs, hw⟩]
   . rw [if_neg λ h => hw h.2, hst j zO hw]
     exact qT (λ i hi => hst i zO) λ i hi => h i zO
theorem ug {j : Nat} (hj : ¬ W j) : ∀ {N : Nat}, atS val W (λ k => S k ∨ k = j) N = atS val W S N
 | 0 => rfl
 | N + 1 => by
   simp only [atS]
   rw [ug hj]
   by_cases hw : W N
   . have hn : N ≠ j := λ e => hj (e ▸ hw)
     simp [hn]
   . simp [hw]
theorem sP {j N : Nat} (hjN : j < N) (hj : W j) (hb : ∀ k, j < k -> k < N -> S k -> ¬ W k) : atS val W (λ k => S k ∨ k = j) N = val (j + 1) := by
 rw [jx (j := j + 1) hjN λ k h1 h2 h3 => hb k h1 h2 (h3.resolve_right zO)]; unfold atS; rw [if_pos ⟨.inr rfl, hj⟩]
end
end Go.Sx
namespace Go.Sx
open Go.RowKit (zH zO zD zK zW zA zB zG)
section
variable {ct : Nat -> Nat} {lg : Nat -> Log} {N : Nat}
theorem gC (hle : ∀ j, j < N -> ct j <= ct (j + 1)) : ∀ {j k : Nat}, j <= k -> k <= N -> ct j <= ct k
 | j, 0, h, _ => by rw [show j = 0 by omega]; exact Nat.le_refl _
 | j, k + 1, h, hk => by
   rcases Nat.lt_or_ge k j with hlt | hge
   . rw [show j = k + 1 by omega]; exact Nat.le_refl _
   . exact Nat.le_trans (gC hle hge zO) (hle k zO)
theorem Tou.mem {l : Log} {n : Nat} {x : Option Nat} (h : Tou l n x) : ∃ q ∈ l, q.1 = n := by
 obtain ⟨b, h | ⟨i, _, h⟩⟩ := h
 . exact ⟨_, h, rfl⟩
 . exact ⟨_, h, rfl⟩
theorem ng {a b : Nat × Nat × Log} (h : jz a b = true) : kC a.2.2 b.2.2 = true /\ DC a.1 a.2.1 b.2.2 = true := by
 have h : ifB (kC a.2.2 b.2.2) (DC a.1 a.2.1 b.2.2) false = true := h; cases ha : kC a.2.2 b.2.2 with
 | false => rw [ha] at h; cases h
 | true => rw [ha, cI] at h; exact ⟨rfl, h⟩
theorem uj (hle : ∀ j, j < N -> ct j <= ct (j + 1)) (hlow : ∀ j, j < N -> ∀ q ∈ lg j, q.1 < ct (j + 1)) {i j : Nat} (hij : i < j) (hj : j < N) (h : jz (ct i, ct (i + 1), lg i) (ct j, ct (j + 1), lg j) = true)
  {m : Nat} {x : Option Nat} (ht : nZ (lg j) (ct j) (ct (j + 1)) m x) : ¬ eE (lg i) (ct i) (ct (i + 1)) m x := by
 obtain ⟨h1, h2⟩ := ng h; have hm := gC hle (show i + 1 <= j by omega) zO; rintro (⟨a1, a2⟩ | hw)
 . rcases ht with ⟨b1, b2⟩ | ht
   . omega
   . obtain ⟨q, hq, rfl⟩ := ht.mem; rcases nG h2 q hq with hh | hh
     . exact absurd a1 (by show ¬ ct i <= q.1; have : q.1 < ct i := hh; omega)
     . have : ct (i + 1) <= q.1 := hh; omega
 . rcases ht with ⟨b1, b2⟩ | ht
   . obtain ⟨q, hq, rfl⟩ := hw.tou.mem; have := hlow i zO q hq; omega
   . exact CN h1 hw ht
theorem xf (hle : ∀ j, j < N -> ct j <= ct (j + 1)) (hlow : ∀ j, j < N -> ∀ q ∈ lg j, q.1 < ct (j + 1)) {j k : Nat} (hjk : j < k) (hk : k < N) (h : jz (ct j, ct (j + 1), lg j) (ct k, ct (k + 1), lg k) = true)
  {m : Nat} {x : Option Nat} (ht : nZ (lg j) (ct j) (ct (j + 1)) m x) : ¬ eE (lg k) (ct k) (ct (k + 1)) m x := by
 obtain ⟨h1, h2⟩ := ng h; have hm := gC hle (show j + 1 <= k by omega) zO; rintro (⟨a1, a2⟩ | hw)
 . rcases ht with ⟨b1, b2⟩ | ht
   . omega
   . obtain ⟨q, hq, rfl⟩ := ht.mem; have := hlow j zO q hq; omega
 . rcases ht with ⟨b1, b2⟩ | ht
   . obtain ⟨q, hq, rfl⟩ := hw.tou.mem; rcases nG h2 q hq with hh | hh
     . have : q.1 < ct j := hh; omega
     . have : ct (j + 1) <= q.1 := hh; omega
   . exact CO h1 ht hw
variable {ops : Array Oper} {ps : List (Nat × Nat)}
theorem vc (hps : hU ops = some ps) (hN : N = ops.size) (hle : ∀ j, j < N -> ct j <= ct (j + 1)) (hlow : ∀ j, j < N -> ∀ q ∈ lg j, q.1 < ct (j + 1)) (hok : ∀ p ∈ ps, p.1 < N -> p.2 < N -> jz (ct p.1, ct (p.1 + 1), lg p.1) (ct p.2, ct (p.2 + 1), lg p.2) = true)
  {S : Nat -> Prop} (hS : jB ops S) {j : Nat} (hj : j < N) (hSj : ¬ S j) (hSj' : jB ops λ k => S k ∨ k = j) {m : Nat} {x : Option Nat} (ht : nZ (lg j) (ct j) (ct (j + 1)) m x) :
  (∀ i, i < j -> ¬ S i -> ¬ eE (lg i) (ct i) (ct (i + 1)) m x) /\ ∀ k, j < k -> k < N -> S k -> ¬ eE (lg k) (ct k) (ct (k + 1)) m x := by
 subst hN; refine ⟨λ i hij hi => ?_, λ k hjk hk hSk => ?_⟩
 . rcases gu hps hij hj with hc | ⟨hm, _⟩
   . rcases hc _ hSj' (.inr rfl) with h | h
     . exact absurd h hi
     . omega
   . exact uj hle hlow hij hj (hok _ hm (by show i < _; omega) hj) ht
 . rcases gu hps hjk hk with hc | ⟨hm, _⟩
   . exact absurd (hc _ hS hSk) hSj
   . exact xf hle hlow hjk hk (hok _ hm hj hk) ht
theorem Ci {hp : Nat -> H} {α : Type} {f : M α} {a : α} {S : Nat -> Prop} {j : Nat} (hj : j < N) (hSj : ¬ S j) (hL : oQ f (ct j) (hp j) a (ct (j + 1)) (hp (j + 1)) (lg j))
  (hst : ∀ i, i < N -> ∀ m x, ¬ eE (lg i) (ct i) (ct (i + 1)) m x -> vw (hp (i + 1)) m x = vw (hp i) m x)
  (hap : ∀ m x, nZ (lg j) (ct j) (ct (j + 1)) m x -> (∀ i, i < j -> ¬ S i -> ¬ eE (lg i) (ct i) (ct (i + 1)) m x) /\ ∀ k, j < k -> k < N -> S k -> ¬ eE (lg k) (ct k) (ct (k + 1)) m x)
  {g : H} (hg : ∀ m x, vw g m x = atS (λ k => vw (hp k) m x) (λ k => eE (lg k) (ct k) (ct (k + 1)) m x) S N) :
  ∃ g', f (ct j) g = .ok a (ct (j + 1)) g' (lg j) /\ ∀ m x, vw g' m x = atS (λ k => vw (hp k) m x) (λ k => eE (lg k) (ct k) (ct (k + 1)) m x) (λ k => S k ∨ k = j) N := by
 obtain ⟨g', h1, h2, h3⟩ := hL.carry g λ m x ht => by
  obtain ⟨k1, k2⟩ := hap m x ht; rw [hg, jx (j := j) zO λ k a1 a2 a3 => ?_, qT (λ i hi => hst i zO m x) k1]; rcases Nat.lt_or_ge j k with hlt | hge
  . exact k2 k hlt a2 a3
  . rw [show k = j by omega] at a3; exact absurd a3 hSj
 refine ⟨g', h1, λ m x => ?_⟩; by_cases hw : eE (lg j) (ct j) (ct (j + 1)) m x
 . rw [h2 m x hw]; exact (sP (val := λ k => vw (hp k) m x) (W := λ k => eE (lg k) (ct k) (ct (k + 1)) m x) hj hw (hap m x hw.tou).2).symm
 . rw [h3 m x hw, hg]; exact (ug (val := λ k => vw (hp k) m x) (W := λ k => eE (lg k) (ct k) (ct (k + 1)) m x) hw).symm
end
def AtO (e e' : Env) (x : Operand) : Prop := ∀ t, x = .tmp t -> e.get t = e'.get t
section
variable {P : Program} {e e' : Env}
theorem bV {x : Operand} {q : Opd} (k : aW x = some q) (h : AtO e e' x) : ev e q = ev e' q := by
 unfold aW at k; split at k
 . cases k; exact h _ rfl
 . obtain ⟨v, h1, k⟩ := ah k; cases k; rfl
 . cases k
 . cases k; rfl
theorem nh {α β : Type} {f : α -> Option β} : ∀ {l : List α} {r : List β}, iF f l = some r -> ∀ b ∈ r, ∃ a ∈ l, f a = some b
 | [], r, h, b, hb => by cases h; cases hb
 | a :: l, r, h, b, hb => by
   obtain ⟨b1, h1, h⟩ := ah (show ifS none (λ b => ifS none (λ r => some (b :: r)) (iF f l)) (f a) = some r from h)
   obtain ⟨r1, h2, h⟩ := ah h
   cases h
   rcases List.mem_cons.1 hb with rfl | hb
   . exact ⟨a, List.mem_cons_self, h1⟩
   . obtain ⟨a', h3, h4⟩ := nh h2 b hb
     exact ⟨a', List.mem_cons_of_mem _ h3, h4⟩
theorem tV : ∀ {l : List Operand} {r : List Opd}, iD l = some r -> (∀ x ∈ l, AtO e e' x) -> evs e r = evs e' r
 | [], _, k, _ => by cases k; rfl
 | x :: l, r, k, h => by
   have k : ifS none (λ b => ifS none (λ r => some (b :: r)) (iD l)) (aW x) = some r := k
   obtain ⟨b, h1, k⟩ := ah k
   obtain ⟨q, h2, k⟩ := ah k
   cases k
   show ev e b :: evs e q = ev e' b :: evs e' q
   rw [bV h1 (h x List.mem_cons_self), tV h2 λ y hy => h y (List.mem_cons_of_mem _ hy)]
theorem EA {x : Option Operand} {q : Option Opd} (k : kj x = some q) (h : ∀ y, x = some y -> AtO e e' y) (d : Nat) : evB e d q = evB e' d q := by
 cases x with
 | none => cases k; rfl
 | some y =>
   obtain ⟨z, h1, k⟩ := ah (show ifS none (λ y => some (some y)) (aW y) = some q from k); cases k; show asN (ev e z) = asN (ev e' z); rw [bV h1 (h y rfl)]
theorem mP : ∀ {ps : List (Nat × Nat × Opd)}, (∀ p ∈ ps, ev e p.2.2 = ev e' p.2.2) -> ∀ z, j9 e ps z = j9 e' ps z
 | [], _, z => rfl
 | p :: ps, h, z => by
   show ifB (Nat.beq (ev e p.2.2).cells.length p.2.1) (ifS none (j9 e ps) (gq (ev e p.2.2).cells p.1 z)) none = ifB (Nat.beq (ev e' p.2.2).cells.length p.2.1) (ifS none (j9 e' ps) (gq (ev e' p.2.2).cells p.1 z)) none
   rw [h p List.mem_cons_self, show j9 e ps = j9 e' ps from funext (mP λ q hq => h q (List.mem_cons_of_mem _ hq))]
theorem vk {s : Nat} {q : Nat × Operand} {p : Nat × Nat × Opd} (k : rY s q = some p) (h : AtO e e' q.2) : ev e p.2.2 = ev e' p.2.2 := by
 obtain ⟨x, h1, k⟩ := ah (show ifS none (λ x => some (q.1 * s, s, x)) (aW q.2) = some p from k); cases k; exact bV h1 h
theorem DA {pl : List (Nat × Nat)} {q : Nat × Operand} {p : Nat × Nat × Opd} (k : DB pl q = some p) (h : AtO e e' q.2) : ev e p.2.2 = ev e' p.2.2 := by
 obtain ⟨y, h0, k⟩ := ah (show ifS none (λ p => ifS none (λ x => some (p.1, p.2, x)) (aW q.2)) pl[q.1]? = some p from k); obtain ⟨x, h1, k⟩ := ah k; cases k; exact bV h1 h
theorem ue {b : Builtin} {ts : List TypeId} {l : List Opd} {f : Ev} (h : fM P b l ts = some f) (hl : evs e l = evs e' l) (call : Ctx) : f call e = f call e' := by
 unfold fM at h; split at h
 . rename_i x' y' sT eT; have hl : [ev e x', ev e y'] = [ev e' x', ev e' y'] := hl; injection hl with hx hl; injection hl with hy hl; obtain ⟨el, he, h⟩ := ah h; obtain ⟨Z, hZ, h⟩ := ah h; obtain ⟨d, hd, h⟩ := ah h; split at h
   . cases h; simp only [mG, hx, hy]
   . rename_i hn; cases h; simp only [o9, hx, hy]
 . rename_i x' t; have hl : [ev e x'] = [ev e' x'] := hl; injection hl with hx hl; unfold Ic at h; split at h
   . cases h; rfl
   . split at h
     . cases h; rfl
     . cases h
   . cases h; simp only [oW, hx]
   . cases h; simp only [tz, hx]
   . cases h; simp only [oX, hx]
   . cases h
 . rename_i x' t; have hl : [ev e x'] = [ev e' x'] := hl; injection hl with hx hl; obtain ⟨el, he, h⟩ := ah h; cases h; simp only [Gu, hx]
 . rename_i x' y'; have hl : [ev e x', ev e y'] = [ev e' x', ev e' y'] := hl; injection hl with hx hl; injection hl with hy hl; cases h; simp only [kQ, hx, hy]
 . rename_i x' y'; have hl : [ev e x', ev e y'] = [ev e' x', ev e' y'] := hl; injection hl with hx hl; injection hl with hy hl; cases h; simp only [kQ, hx, hy]
 . cases h
theorem wU {b : Builtin} {ts : List TypeId} {l : List Opd} {f : Ev} (h : gV P b l ts = some f) (hl : evs e l = evs e' l) (call : Ctx) : f call e = f call e' := by
 unfold gV at h; split at h
 . unfold AW at h; split at h
   . rename_i x' y' sT eT; have hl : [ev e x', ev e y'] = [ev e' x', ev e' y'] := hl; injection hl with hx hl; injection hl with hy hl; obtain ⟨el, he, h⟩ := ah h; obtain ⟨n, hn, h⟩ := ah h; cases h; simp only [An, hx, hy]
   . cases h
 . exact ue h hl call
theorem JE {op : Op} {f : Ev} (h : cOp P op = some f) (H : ∀ x ∈ op.operands, AtO e e' x) (call : Ctx) : f call e = f call e' := by
 unfold cOp at h; split at h
 . obtain ⟨x', kx, h⟩ := ah h; have hx := bV kx (H _ (by simp [Op.operands])); cases h; simp only [sd, hx]
 . obtain ⟨x', kx, h⟩ := ah h; have hx := bV kx (H _ (by simp [Op.operands])); cases h; simp only [sd, hx]
 . obtain ⟨c', kc, h⟩ := ah h; obtain ⟨a', ka, h⟩ := ah h; obtain ⟨b', kb, h⟩ := ah h; have hc := bV kc (H _ (by simp [Op.operands])); have ha := bV ka (H _ (by simp [Op.operands])); have hb := bV kb (H _ (by simp [Op.operands])); cases h; simp only [Al, hc, ha, hb]
 . obtain ⟨z, hz, h⟩ := ah h; cases h; rfl
 . obtain ⟨x', kx, h⟩ := ah h; have hx := bV kx (H _ (by simp [Op.operands])); cases h; simp only [Gv, hx]
 . rename_i t ps; have H : ∀ q ∈ ps.toList, AtO e e' q.2 := λ q hq => H _ (by simp only [Op.operands, List.mem_toArray, List.mem_map]; exact ⟨q, hq, rfl⟩); obtain ⟨z, hz, h⟩ := ah h; unfold qR at h; split at h
   . obtain ⟨pl, hpl, h⟩ := ah h; obtain ⟨l, hl, h⟩ := ah h; cases h; simp only [nI]; rw [mP λ p hp => by obtain ⟨q, h1, h2⟩ := nh hl p hp; exact DA h2 (H q h1)]
   . obtain ⟨s, hs, h⟩ := ah h; obtain ⟨l, hl, h⟩ := ah h; cases h; simp only [nI]; rw [mP λ p hp => by obtain ⟨q, h1, h2⟩ := nh hl p hp; exact vk h2 (H q h1)]
   . cases h
 . rename_i t n ps; have H : ∀ q ∈ ps.toList, AtO e e' q.2 := λ q hq => H _ (by simp only [Op.operands, List.mem_toArray, List.mem_map]; exact ⟨q, hq, rfl⟩); obtain ⟨el, he, h⟩ := ah h; obtain ⟨z, hz, h⟩ := ah h; obtain ⟨hn, h⟩ := dP h; obtain ⟨l, hl, h⟩ := ah h; cases h; simp only [ib]; rw [mP λ p hp => by obtain ⟨q, h1, h2⟩ := nh hl p hp; exact vk h2 (H q h1)]
 . obtain ⟨a', ka, h⟩ := ah h; have ha := bV ka (H _ (by simp [Op.operands])); obtain ⟨b, hb, h⟩ := ah h; cases b with
   | true =>
     obtain ⟨n, hn, h⟩ := ah (show ifS none (λ n => some (lG n a')) _ = some f from h); cases h; simp only [lG, ha]
   | false => cases h; simp only [tx, ha]
 . obtain ⟨a', ka, h⟩ := ah h; obtain ⟨x', kx, h⟩ := ah h; have ha := bV ka (H _ (by simp [Op.operands])); have hx := bV kx (H _ (by simp [Op.operands])); obtain ⟨n, hn, h⟩ := ah h; cases h; simp only [tw, ha, hx]
 . obtain ⟨x', kx, h⟩ := ah h; have hx := bV kx (H _ (by simp [Op.operands])); cases h; simp only [kP, hx]
 . obtain ⟨a', ka, h⟩ := ah h; obtain ⟨b', kb, h⟩ := ah h; have ha := bV ka (H _ (by simp [Op.operands])); have hb := bV kb (H _ (by simp [Op.operands])); unfold Fd at h; cases hs : tO P _ with
   | true => rw [hs] at h; cases h; simp only [Gw, ha, hb]
   | false =>
     rw [hs, eA] at h; split at h
     . obtain ⟨g, hg, h⟩ := ah h; cases h; simp only [oEq, ha, hb]
     . obtain ⟨g, hg, h⟩ := ah h; cases h; simp only [oEq, ha, hb]
     . cases h
 . obtain ⟨x', kx, h⟩ := ah h; have hx := bV kx (H _ (by simp [Op.operands])); cases h; simp only [Gr, hx]
 . obtain ⟨x', kx, h⟩ := ah h; have hx := bV kx (H _ (by simp [Op.operands])); cases h; simp only [Gs, hx]
 . obtain ⟨x', kx, h⟩ := ah h; have hx := bV kx (H _ (by simp [Op.operands])); obtain ⟨d1, h1, h⟩ := ah h; obtain ⟨d2, h2, h⟩ := ah h; unfold ub at h; split at h
   . split at h
     . cases h; simp only [kN, hx]
     . cases h
   . unfold AX at h; split at h
     . cases h; simp only [Ao, hx]
     . cases h; simp only [Gt, hx]
     . cases h; simp only [Ak, hx]
     . cases h
 . obtain ⟨x', kx, h⟩ := ah h; have hx := bV kx (H _ (by simp [Op.operands])); obtain ⟨hp, h⟩ := dP h; cases h; simp only [tA, hx]
 . rename_i g a b; obtain ⟨a', ka, h⟩ := ah h; obtain ⟨b', kb, h⟩ := ah h; have ha := tV ka λ x hx => H x (by simp only [Op.operands, Array.mem_append]; exact .inl (Array.mem_toList_iff.1 hx)); have hb := tV kb λ x hx => H x (by simp only [Op.operands, Array.mem_append]; exact .inr (Array.mem_toList_iff.1 hx)); cases h; simp only [Am, ha, hb]
 . cases h; rfl
 . obtain ⟨el, he, h⟩ := ah h; obtain ⟨z, hz, h⟩ := ah h; obtain ⟨l', kl, h⟩ := ah h; obtain ⟨c', kc, h⟩ := ah h; have hl := bV kl (H _ (by simp [Op.operands])); have hc := bV kc (H _ (by simp [Op.operands])); cases h; simp only [jc, hl, hc]
 . obtain ⟨x', kx, h⟩ := ah h; obtain ⟨lo', kl, h⟩ := ah h; obtain ⟨hi', kh, h⟩ := ah h; have hx := bV kx (H _ (by simp [Op.operands])); have hl := λ d => EA (d := d) kl λ y hy => H y (by subst hy; simp [Op.operands]); have hh := λ d => EA (d := d) kh λ y hy => H y (by subst hy; simp [Op.operands]); unfold t8 at h; split at h
   . cases h; simp only [kO, hx, hl, hh]
   . obtain ⟨n, hn, h⟩ := ah h; cases h; simp only [mB, hx, hl, hh]
   . cases h
 . obtain ⟨x', kx, h⟩ := ah h; have hx := bV kx (H _ (by simp [Op.operands])); obtain ⟨fd, hf, h⟩ := ah h; obtain ⟨n, hn, h⟩ := ah h; obtain ⟨h0, h⟩ := gR h; cases h; simp only [je, hx]
 . obtain ⟨x', kx, h⟩ := ah h; have hx := bV kx (H _ (by simp [Op.operands])); obtain ⟨fd, hf, h⟩ := ah h; obtain ⟨b, hb, h⟩ := ah h; cases b with
   | true =>
     obtain ⟨n, hn, h⟩ := ah (show ifS none (λ n => some (jd fd.offset n x')) _ = some f from h); cases h; simp only [jd, hx]
   | false => cases h; simp only [o8, hx]
 . obtain ⟨x', kx, h⟩ := ah h; obtain ⟨i', ki, h⟩ := ah h; have hx := bV kx (H _ (by simp [Op.operands])); have hi := bV ki (H _ (by simp [Op.operands])); unfold ju at h; split at h
   . obtain ⟨z, hz, h⟩ := ah h; cases h; simp only [mD, hx, hi]
   . obtain ⟨z, hz, h⟩ := ah h; cases h; simp only [mC, hx, hi]
   . cases h
 . obtain ⟨x', kx, h⟩ := ah h; obtain ⟨i', ki, h⟩ := ah h; have hx := bV kx (H _ (by simp [Op.operands])); have hi := bV ki (H _ (by simp [Op.operands])); unfold ua at h; split at h
   . obtain ⟨z, hz, h⟩ := ah h; obtain ⟨b, hb, h⟩ := ah h; cases h; simp only [kS, hx, hi]
   . cases h; simp only [kT, hx, hi]
   . cases h
 . obtain ⟨m', km, h⟩ := ah h; obtain ⟨k', kk, h⟩ := ah h; have hm := bV km (H _ (by simp [Op.operands])); have hk := bV kk (H _ (by simp [Op.operands])); obtain ⟨q, hq, h⟩ := ah h; obtain ⟨fk, hf, h⟩ := ah h; obtain ⟨z, hz, h⟩ := ah h; cases h; simp only [oV, hm, hk]
 . obtain ⟨m', km, h⟩ := ah h; obtain ⟨k', kk, h⟩ := ah h; obtain ⟨x', kx, h⟩ := ah h; have hm := bV km (H _ (by simp [Op.operands])); have hk := bV kk (H _ (by simp [Op.operands])); have hx := bV kx (H _ (by simp [Op.operands])); obtain ⟨q, hq, h⟩ := ah h; obtain ⟨fk, hf, h⟩ := ah h; cases h; simp only [fJ, hm, hk, hx]
 . obtain ⟨m', km, h⟩ := ah h; obtain ⟨k', kk, h⟩ := ah h; obtain ⟨x', kx, h⟩ := ah h; have hm := bV km (H _ (by simp [Op.operands])); have hk := bV kk (H _ (by simp [Op.operands])); have hx := bV kx (H _ (by simp [Op.operands])); obtain ⟨q, hq, h⟩ := ah h; obtain ⟨fk, hf, h⟩ := ah h; cases h; simp only [fJ, hm, hk, hx]
 . obtain ⟨m', km, h⟩ := ah h; obtain ⟨k', kk, h⟩ := ah h; have hm := bV km (H _ (by simp [Op.operands])); have hk := bV kk (H _ (by simp [Op.operands])); obtain ⟨q, hq, h⟩ := ah h; obtain ⟨fk, hf, h⟩ := ah h; obtain ⟨z, hz, h⟩ := ah h; cases h; simp only [kR, hm, hk]
 . obtain ⟨m', km, h⟩ := ah h; obtain ⟨s', ks, h⟩ := ah h; obtain ⟨x', kx, h⟩ := ah h; have hm := bV km (H _ (by simp [Op.operands])); have hs := bV ks (H _ (by simp [Op.operands])); have hx := bV kx (H _ (by simp [Op.operands])); cases h; simp only [ia, hm, hs, hx]
 . obtain ⟨x', kx, h⟩ := ah h; have hx := bV kx (H _ (by simp [Op.operands])); cases h; simp only [mF, hx]
 . rename_i c; obtain ⟨l, kl, h⟩ := ah h; obtain ⟨callee, args, ts⟩ := c; have hl := tV kl λ x hx => H x (by simp only [Op.operands, Call.operands, Array.mem_append]; exact .inr (Array.mem_toList_iff.1 hx)); unfold AY at h; split at h
   . rename_i g hc; obtain ⟨g', kg, h⟩ := ah h; cases h; cases hc; have hg := bV kg (H _ (by simp [Op.operands, Call.operands])); simp only [Ap, hg, hl]
   . rename_i b hc; cases hc; exact wU h hl call
   . rename_i x name hc; obtain ⟨x', kx, h⟩ := ah h; cases h; cases hc; have hx := bV kx (H _ (by simp [Op.operands, Call.operands])); simp only [oZ, hx, hl]
 . rename_i t ok; obtain ⟨x', kx, h⟩ := ah h; have hx := bV kx (H _ (by simp [Op.operands])); obtain ⟨hp, h⟩ := dP h; cases ok with
   | true =>
     obtain ⟨z, hz, h⟩ := ah (show ifS none (λ z => some (gv t (some z) x')) (cX P t) = some f from h); cases h; simp only [gv, hx]
   | false =>
     cases h; simp only [gv, hx]
 . cases h
end
end Go.Sx
namespace Go.Sx
open Go.RowKit
section
variable {P : Program} {ops : Array Oper} {call : Ctx} {n : Nat}
theorem yr {o : Oper} {t : Nat} (h : Operand.tmp t ∈ o.op.operands) : t ∈ o.looksAt ops :=
 List.mem_append_left _ (List.mem_filterMap.2 ⟨.tmp t, by simpa using h, rfl⟩)
theorem rk {o o' : Oper} {j t : Nat} {w : Bool} (h1 : o.guard = some (j, w)) (h2 : ops[j]? = some o') (h3 : o'.dst = some t) : t ∈ o.looksAt ops :=
 List.mem_append_right _ (by simp [h1, h2, h3])
theorem AU {o : Oper} {s s' : St} {c c' : Nat} {h h' : H} {l : Log} (e : iJ call s (cIt P n ops o) c h = .ok s' c' h' l) :
  ∃ q f, cIt P n ops o = .val o.dst q f /\ (∀ e e' : Env, (∀ t ∈ o.looksAt ops, e.get t = e'.get t) -> f call e = f call e') /\ ∀ e e' : Env, (∀ t ∈ o.looksAt ops, e.get t = e'.get t) -> gOn q e = gOn q e' := by
 unfold cIt at e ⊢; cases hd : sI n o.dst with
 | false => rw [hd] at e; cases e
 | true =>
   rw [hd, cI] at e; rw [cI]; cases hq : lS o.op with
   | some q =>
     rw [hq, mN] at e; cases hg : o.guard with
     | some g => rw [hg] at e; cases e
     | none => rw [hg] at e; cases e
   | none =>
     rw [hq, j6] at e; rw [j6]; cases hg : lO ops o.guard with
     | none => rw [hg] at e; cases e
     | some g =>
       refine ⟨g, ifS DS (λ f => f) (cOp P o.op), rfl, λ e e' hE => ?_, λ e e' hE => ?_⟩
       . cases hc : cOp P o.op with
         | none => rfl
         | some f => exact JE hc (λ x hx t ht => hE t (yr (ht ▸ hx))) call
       . rcases sm hg with ⟨h1, rfl⟩ | ⟨j, w, o', t, h1, h2, h3, rfl⟩
         . rfl
         . show isB w (e.get t) = isB w (e'.get t); rw [hE t (rk h1 h2 h3)]
theorem Dg {d : Option Nat} {q : Option (Nat × Bool)} {f : Ev} {s : St} : jN d q f call s = ifB (gOn q s.env) (M.map (λ v => putE d v s) (f call s.env)) (M.pure (putE d undefA s)) := by
 cases q <;> rfl
theorem uB {d : Option Nat} {q : Option (Nat × Bool)} {f : Ev} {s s2 s1 : St} {c c1 : Nat} {g g1 : H} {l : Log} (e : jN d q f call s c g = .ok s1 c1 g1 l) (hf : f call s.env = f call s2.env) (hq : gOn q s.env = gOn q s2.env) :
  ∃ v, s1 = putE d v s /\ jN d q f call s2 c g = .ok (putE d v s2) c1 g1 l := by
 rw [Dg] at e ⊢; rw [<- hq, <- hf]; cases hb : gOn q s.env with
 | true =>
   rw [hb, cI] at e; obtain ⟨v, h1, h2⟩ := cS e; refine ⟨v, h2, ?_⟩; rw [cI]; show Rs.rec (motive := λ _ => Rs St) .fail (λ a c h l => .ok (putE d a s2) c h l) (f call s.env c g) = _; rw [h1]
 | false =>
   rw [hb, eA] at e; obtain ⟨h1, rfl, rfl, rfl⟩ := aS e; exact ⟨undefA, h1, rfl⟩
theorem pR {d : Option Nat} {v : AV} {s : St} {t : Nat} : (putE d v s).env.get t = if d = some t then v else s.env.get t := by
 cases d with
 | none => simp [putE, j6]
 | some d =>
   show (Env.put d v s.env).get t = _; rw [tX]; by_cases h : t = d
   . subst h; simp
   . rw [if_neg h, if_neg λ e => h (by cases e; rfl)]
theorem oo {d : Option Nat} {v : AV} {s : St} : (putE d v s).defers = s.defers := by cases d <;> rfl
theorem Ks {ρ : Ren} {x y : List (Nat × List AV)} {l : List Deferred} (h : x = y) (k : DR ρ x l) : DR ρ y l := h ▸ k
theorem StR.of_get {ρ : Ren} {s s' : St} {a : Act} (h : StR ρ n s a) (he : ∀ t, s.env.get t = s'.env.get t) (hd : s.defers = s'.defers) : StR ρ n s' a :=
 ⟨λ t => he t ▸ h.env t, h.room, Ks hd h.defers⟩
theorem Rel.of_get {ρ : Ren} {g h : H} {w : World} (r : Rel ρ g w) (e : ∀ m, g.get m = h.get m) : Rel ρ h w :=
 ⟨λ n o hn => r.lies n o ((e n).trans hn), λ n m o p b s t h1 h2 => r.alone n m o p b s t ((e n).trans h1) ((e m).trans h2)⟩
theorem Post.of_get {ρ ρ' : Ren} {h g h' : H} {w w' : World} {c c' : Nat} (p : Post ρ h w c c' ρ' g w') (e : ∀ m, g.get m = h'.get m) : Post ρ h w c c' ρ' h' w' :=
 ⟨p.rel.of_get e, p.ext, p.os, p.tape, p.output, p.size, p.old, λ n o b s h1 => p.new n o b s ((e n).trans h1)⟩
theorem Post.wide {ρ ρ1 ρ2 : Ren} {h h1 h2 : H} {w w1 w2 : World} {c c' d d' : Nat} (p : Post ρ h w c c' ρ1 h1 w1) (q : Post ρ1 h1 w1 d d' ρ2 h2 w2) (k : c <= d) (m : d' <= c') : Post ρ h w c c' ρ2 h2 w2 where
 rel := q.rel
 ext n hn := by rw [q.ext n zO, p.ext n hn]
 os := q.os.trans p.os
 tape := q.tape.trans p.tape
 output := q.output.trans p.output
 size := Nat.le_trans p.size q.size
 old b hb hn := by
  rw [q.old b (Nat.lt_of_lt_of_le hb p.size) (λ n o s e f => ?_), p.old b hb hn]; obtain ⟨m, o', t, e', f'⟩ := p.new n o b s e f hb; exact hn m o' t e' f'
 new n o b s e f hb := by
  obtain ⟨m, o', t, e', f'⟩ := q.new n o b s e f (Nat.lt_of_lt_of_le hb p.size); exact p.new m o' b t e' f' hb
def uns (l : Array Bool) : Nat -> Nat
 | 0 => 0
 | k + 1 => uns l k + if l.getD k true = true then 0 else 1
theorem zL {l : Array Bool} {j : Nat} (hj : l.getD j true = false) (hs : j < l.size) : ∀ {N : Nat}, (j < N -> uns (l.setIfInBounds j true) N + 1 = uns l N) /\ (N <= j -> uns (l.setIfInBounds j true) N = uns l N)
 | 0 => ⟨λ h => by omega, λ _ => rfl⟩
 | N + 1 => by
   obtain ⟨i1, i2⟩ := zL hj hs (N := N)
   refine ⟨λ h => ?_, λ h => ?_⟩
   . simp only [uns]
     by_cases hN : N = j
     . subst hN
       have h0 : (l.setIfInBounds N true).getD N true = true := (by simp [hs])
       rw [h0, hj, i2 (Nat.le_refl _)]
       simp
     . rw [getD_set_ne true (Ne.symm hN)]
       have := i1 zO
       omega
   . simp only [uns]
     rw [getD_set_ne true zO, i2 zO]
theorem uu {l : Array Bool} : ∀ {N : Nat}, uns l N = 0 -> ∀ j, j < N -> l.getD j true = true
 | 0, _, j, hj => by omega
 | N + 1, h, j, hj => by
   simp only [uns] at h
   rcases Nat.lt_or_ge j N with hlt | hge
   . exact uu zO j hlt
   . rw [show j = N by omega]
     cases hl : l.getD N true with
     | true => rfl
     | false => rw [hl] at h; simp at h
theorem C6 {l : Array Bool} : ∀ {N : Nat}, uns l N <= N
 | 0 => Nat.le_refl _
 | N + 1 => by
   have := C6 (l := l) (N := N)
   simp only [uns]
   split <;> omega
end
section
variable {P : Program}
def zE (P : Program) : Prop := ∀ (call : Ctx), kH P call -> kG call -> ∀ n id ops ps, P.follows .mixedOrders = true -> hU ops = some ps -> di P n call (.region id ops true) (qP ps (jH (cIt P n ops) ops.toList))
theorem ga (hdraw : zE P) {call : Ctx} (hcall : kH P call) (hlo : kG call) {n : Nat} : ∀ (code : Code) (f : df), gd P n code = .mk f -> di P n call code f
 | .skip, f, h => by cases h; exact Cs
 | .region id ops d, f, h => by
   cases d with
   | false => cases h; exact za hcall hlo
   | true =>
     have h : ifB (P.follows .mixedOrders) (ifS (.mk rt) (λ ps => .mk (qP ps (jH (cIt P n ops) ops.toList))) (hU ops)) (.mk rt) = Box.mk f := h
     cases hm : P.follows .mixedOrders with
     | false => rw [hm] at h; cases h; exact iV
     | true =>
       rw [hm, cI] at h
       cases hp : hU ops with
       | none => rw [hp] at h; cases h; exact iV
       | some ps => rw [hp] at h; cases h; exact hdraw call hcall hlo n id ops ps hm hp
 | .seq a b, f, h => by
   cases ha : gd P n a with
   | mk fa =>
     cases hb : gd P n b with
     | mk fb =>
       have h : Box.rn (λ f => Box.rn (λ g => Box.mk (JC f g)) (gd P n b)) (gd P n a) = Box.mk f := h
       rw [ha, hb] at h
       cases h
       exact EL (ga hdraw hcall hlo a fa ha) (ga hdraw hcall hlo b fb hb)
 | .cond o a b, f, h => by
   cases ha : gd P n a with
   | mk fa =>
     cases hb : gd P n b with
     | mk fb =>
       have h : ifS (.mk rt) (λ x => Box.rn (λ f => Box.rn (λ g => Box.mk (Fc x f g)) (gd P n b)) (gd P n a)) (aW o) = Box.mk f := h
       rw [ha, hb] at h
       cases ho : aW o with
       | none => rw [ho] at h; cases h; exact iV
       | some x => rw [ho] at h; cases h; exact Cv ho (ga hdraw hcall hlo a fa ha) (ga hdraw hcall hlo b fb hb)
 | .block id a, f, h => by
   cases ha : gd P n a with
   | mk fa =>
     have h : Box.rn (λ f => Box.mk (zp id f)) (gd P n a) = Box.mk f := h
     rw [ha] at h
     cases h
     exact ze (ga hdraw hcall hlo a fa ha)
 | .loop a, f, h => by
   cases ha : gd P n a with
   | mk fa =>
     have h : Box.rn (λ f => Box.mk (Fb f)) (gd P n a) = Box.mk f := h
     rw [ha] at h
     cases h
     exact Ct (ga hdraw hcall hlo a fa ha)
 | .rangeFunc _ _ _ _, f, h => by cases h; exact iV
 | .exit id, f, h => by cases h; exact Cu
 | .scope a, f, h => y9 (ga hdraw hcall hlo a f h)
 | .label _, f, h => by cases h; exact zb
 | .goto _, f, h => by cases h; exact iV
 | .ret, f, h => by cases h; exact EM
 | .refuse _, f, h => by cases h; exact iV
theorem sx : ∀ (l : List AV) (t : T AV) (i k : Nat), (wm l t i).get k = if i <= k /\ k < i + l.length then l[k - i]? else t.get k
 | [], t, i, k => by
   rw [if_neg (by simp only [List.length_nil]; omega)]
   rfl
 | v :: l, t, i, k => by
   show (wm l (t.set i (some v)) (i + 1)).get k = _
   rw [sx l _ (i + 1) k, T.get_set]
   simp only [List.length_cons]
   by_cases hk : k = i
   . subst hk
     rw [if_neg zO, if_pos rfl, if_pos zO, Nat.sub_self]
     rfl
   . by_cases h2 : i + 1 <= k /\ k < i + 1 + l.length
     . rw [if_pos h2, if_pos zO, show k - i = (k - (i + 1)) + 1 by omega]
       rfl
     . rw [if_neg h2, if_neg hk, if_neg zO]
theorem Cq {ρ : Ren} {args : List AV} {xs : Array Value} (h : VRs ρ args xs.toList) (n : Nat) : StR ρ n ⟨.base (wm args .leaf 0), []⟩ { tmps := xs ++ Array.replicate (n - xs.size) undef, defers := [] } := by
 have hlen := h.length; rw [Array.length_toList] at hlen; refine ⟨λ t => ?_, by simp; omega, rfl⟩; show VR ρ (ifS undefA (λ v => v) ((wm args .leaf 0).get t)) _; rw [sx, T.get_leaf]; by_cases ht : t < args.length
 . rw [if_pos zO, Nat.sub_zero]; have hg : args[t]? = some args[t] := List.getElem?_eq_getElem ht; obtain ⟨v, hv, hV⟩ := h.get hg; rw [hg]; rw [Array.getElem?_toList] at hv; have : (xs ++ Array.replicate (n - xs.size) undef).getD t undef = v := by
    rw [Array.getD_eq_getD_getElem?, Array.getElem?_append_left zO, hv]; rfl
   rw [this]; exact hV
 . rw [if_neg zO]; have : (xs ++ Array.replicate (n - xs.size) undef).getD t undef = undef := by
    rw [Array.getD_eq_getD_getElem?, Array.getElem?_append_right zO]; cases hh : (Array.replicate (n - xs.size) undef)[t - xs.size]? with
    | none => rfl
    | some v =>
      obtain ⟨_, hv⟩ := Array.getElem?_eq_some_iff.1 hh; rw [Array.getElem_replicate] at hv; exact hv.symm
   rw [this]; exact VR.undefA ρ
theorem Post.of_below {ρ : Ren} {h : H} {w w' : World} {c : Nat} (r : Rel ρ h w) (b : Below w.heap.size w w') : Post ρ h w c c ρ h w' := by
 refine ⟨⟨λ n o e => ?_, r.alone⟩, λ _ _ => rfl, b.os, b.tape, b.output, b.size, λ k hk _ => b.block k hk, λ n o k s e f _ => ⟨n, o, s, e, f⟩⟩; obtain ⟨k, s, f, g⟩ := r.lies n o e; exact ⟨k, s, f, OR.mono (Ren.le_refl ρ) (b.block k g.lt) g⟩
theorem fm {c : Nat} : ∀ {l : Log} {q : Nat × Option Nat × Bool}, q ∈ keep c l ↔ q ∈ l /\ q.1 < c
 | [], q => by
   constructor
   . intro h; cases h
   . rintro ⟨h, _⟩; cases h
 | p :: l, q => by
   show q ∈ ifB (Nat.blt p.1 c) (p :: keep c l) (keep c l) ↔ _
   cases hb : Nat.blt p.1 c with
   | true =>
     rw [eD] at hb
     have hb := of_decide_eq_true hb
     rw [cI, List.mem_cons, fm, List.mem_cons]
     constructor
     . rintro (rfl | ⟨h1, h2⟩)
       . exact ⟨.inl rfl, hb⟩
       . exact ⟨.inr h1, h2⟩
     . rintro ⟨rfl | h1, h2⟩
       . exact .inl rfl
       . exact .inr ⟨h1, h2⟩
   | false =>
     rw [eD] at hb
     have hb := of_decide_eq_false hb
     rw [eA, fm, List.mem_cons]
     constructor
     . rintro ⟨h1, h2⟩; exact ⟨.inr h1, h2⟩
     . rintro ⟨rfl | h1, h2⟩
       . exact absurd h2 hb
       . exact ⟨h1, h2⟩
theorem oC {α : Type} {m : M α} {c c' : Nat} {h h' : H} {a : α} {l : Log} (e : dropPriv m c h = .ok a c' h' l) : ∃ l0, m c h = .ok a c' h' l0 /\ l = keep c l0 := by
 have e : Rs.rec (motive := λ _ => Rs α) .fail (λ a c1 h1 l => .ok a c1 h1 (keep c l)) (m c h) = Rs.ok a c' h' l := e; cases q : m c h with
 | fail => rw [q] at e; cases e
 | ok a1 c1 h1 l1 => rw [q] at e; cases e; exact ⟨l1, rfl, rfl⟩
theorem Lo.dropPriv {α : Type} {m : M α} (hm : Lo m) : Lo (dropPriv m) := by
 intro c h a c' h' l e; obtain ⟨l0, e0, rfl⟩ := oC e; obtain ⟨p1, p3, p4, p5⟩ := hm c h a c' h' l0 e0; have hW : ∀ n x, eE (keep c l0) c c' n x ↔ eE l0 c c' n x := λ n x => by
  constructor
  . rintro (h | h | ⟨i, h1, h2⟩)
    . exact .inl h
    . exact .inr (.inl (fm.1 h).1)
    . exact .inr (.inr ⟨i, h1, (fm.1 h2).1⟩)
  . rintro (h | h | ⟨i, h1, h2⟩)
    . exact .inl h
    . rcases Nat.lt_or_ge n c with hh | hh
      . exact .inr (.inl (fm.2 ⟨h, hh⟩))
      . exact .inl ⟨hh, p3 _ h⟩
    . rcases Nat.lt_or_ge n c with hh | hh
      . exact .inr (.inr ⟨i, h1, fm.2 ⟨h2, hh⟩⟩)
      . exact .inl ⟨hh, p3 _ h2⟩
 have hT : ∀ n x, nZ l0 c c' n x -> nZ (keep c l0) c c' n x := λ n x h => by
  rcases h with h | ⟨b, h | ⟨i, h1, h2⟩⟩
  . exact .inl h
  . rcases Nat.lt_or_ge n c with hh | hh
    . exact .inr ⟨b, .inl (fm.2 ⟨h, hh⟩)⟩
    . exact .inl ⟨hh, p3 _ h⟩
  . rcases Nat.lt_or_ge n c with hh | hh
    . exact .inr ⟨b, .inr ⟨i, h1, fm.2 ⟨h2, hh⟩⟩⟩
    . exact .inl ⟨hh, p3 _ h2⟩
 refine ⟨p1, λ q hq => p3 q (fm.1 hq).1, λ n x hn => p4 n x λ h => hn ((hW n x).2 h), λ g hg => ?_⟩; obtain ⟨g', k1, k2, k3⟩ := p5 g λ n x h => hg n x (hT n x h); refine ⟨g', ?_, λ n x h => k2 n x ((hW n x).1 h), λ n x h => k3 n x λ hh => h ((hW n x).2 hh)⟩; show Rs.rec (motive := λ _ => Rs α) .fail (λ a c1 h1 l => .ok a c1 h1 (keep c l)) (m c g) = _; rw [k1]
end
section
variable {P : Program} {ops : Array Oper} {call : Ctx} {n : Nat} {ps : List (Nat × Nat)} {st : Nat -> St} {ct : Nat -> Nat} {hp : Nat -> H} {lg : Nat -> Log}
structure Run (P : Program) (ops : Array Oper) (call : Ctx) (n : Nat) (ps : List (Nat × Nat)) (st : Nat -> St) (ct : Nat -> Nat) (hp : Nat -> H) (lg : Nat -> Log) : Prop where
 calls : kH P call
 lo : kG call
 pairs : hU ops = some ps
 step : ∀ j o, ops[j]? = some o -> iJ call (st j) (cIt P n ops o) (ct j) (hp j) = .ok (st (j + 1)) (ct (j + 1)) (hp (j + 1)) (lg j)
 ok : ∀ p ∈ ps, p.1 < ops.size -> p.2 < ops.size -> jz (ct p.1, ct (p.1 + 1), lg p.1) (ct p.2, ct (p.2 + 1), lg p.2) = true
def Dst (ops : Array Oper) (t j : Nat) : Prop := ∃ o, ops[j]? = some o /\ o.dst = some t
theorem Run.lo_at (R : Run P ops call n ps st ct hp lg) {j : Nat} (hj : j < ops.size) : oQ (og call (st j) (cIt P n ops ops[j])) (ct j) (hp j) (st (j + 1)) (ct (j + 1)) (hp (j + 1)) (lg j) :=
 zo R.lo n ops[j] (st j) _ _ _ _ _ _ (Dh (R.step j _ (Array.getElem?_eq_getElem hj)))
theorem Run.le (R : Run P ops call n ps st ct hp lg) : ∀ j, j < ops.size -> ct j <= ct (j + 1) := λ _ hj => (R.lo_at hj).le
theorem Run.low (R : Run P ops call n ps st ct hp lg) : ∀ j, j < ops.size -> ∀ q ∈ lg j, q.1 < ct (j + 1) := λ _ hj => (R.lo_at hj).low
theorem Run.stay (R : Run P ops call n ps st ct hp lg) : ∀ i, i < ops.size -> ∀ m x, ¬ eE (lg i) (ct i) (ct (i + 1)) m x -> vw (hp (i + 1)) m x = vw (hp i) m x := λ _ hj => (R.lo_at hj).stay
theorem Run.put (R : Run P ops call n ps st ct hp lg) {j : Nat} {o : Oper} (ho : ops[j]? = some o) : ∃ v, st (j + 1) = putE o.dst v (st j) := by
 have e := R.step j o ho; obtain ⟨q, f, h1, h2, h3⟩ := AU e; rw [h1] at e; obtain ⟨v, h4, _⟩ := uB (show jN o.dst q f call (st j) _ _ = _ from e) (s2 := st j) rfl rfl; exact ⟨v, h4⟩
theorem Run.same (R : Run P ops call n ps st ct hp lg) {j t : Nat} (hj : j < ops.size) (hw : ¬ Dst ops t j) : (st (j + 1)).env.get t = (st j).env.get t := by
 obtain ⟨v, h⟩ := R.put (Array.getElem?_eq_getElem hj); rw [h, pR, if_neg λ e => hw ⟨_, Array.getElem?_eq_getElem hj, e⟩]
theorem Run.defers (R : Run P ops call n ps st ct hp lg) : ∀ {j : Nat}, j <= ops.size -> (st j).defers = (st 0).defers
 | 0, _ => rfl
 | j + 1, h => by
   obtain ⟨v, e⟩ := R.put (Array.getElem?_eq_getElem (show j < ops.size from h))
   rw [e, oo]
   exact R.defers zO
structure At (ops : Array Oper) (st : Nat -> St) (ct : Nat -> Nat) (hp : Nat -> H) (lg : Nat -> Log) (ρ0 : Ren) (h0 : H) (w0 : World) (n : Nat) (S : Nat -> Prop) (ρ : Ren) (g : H) (s : St) (a : Act) (w : World) : Prop where
 state : StR ρ n s a
 post : Post ρ0 h0 w0 (ct 0) (ct ops.size) ρ g w
 free : ∀ j, j < ops.size -> ¬ S j -> lV ρ (ct j) (ct (j + 1))
 heap : ∀ m x, vw g m x = atS (λ k => vw (hp k) m x) (λ k => eE (lg k) (ct k) (ct (k + 1)) m x) S ops.size
 env : ∀ t, s.env.get t = atS (λ k => (st k).env.get t) (Dst ops t) S ops.size
 defers : s.defers = (st 0).defers
theorem Ii (R : Run P ops call n ps st ct hp lg) {ρ0 : Ren} {h0 : H} {w0 : World} {S : Nat -> Prop} {ρ : Ren} {g : H} {s : St} {a : Act} {w : World} (A : At ops st ct hp lg ρ0 h0 w0 n S ρ g s a w)
  (hS : jB ops S) {j : Nat} (hj : j < ops.size) (hSj : ¬ S j) (hSj' : jB ops λ k => S k ∨ k = j) {Q : Exit -> Act -> World -> Prop} {K : Act -> World -> Prop}
  (hk : ∀ ρ' g' s' a' w', At ops st ct hp lg ρ0 h0 w0 n (λ k => S k ∨ k = j) ρ' g' s' a' w' -> K a' w') : wpOp P ops Q j K a w := by
 have ho : ops[j]? = some ops[j] := Array.getElem?_eq_getElem hj; generalize hoj : ops[j] = oj at ho; have e := R.step j oj ho; obtain ⟨q, f, k1, k2, k3⟩ := AU e;
 have hbeh : ∀ t, (t ∈ oj.looksAt ops ∨ oj.dst = some t) -> ∀ k, j < k -> k < ops.size -> S k -> ¬ Dst ops t k := λ t ht k h1 h2 h3 ⟨ok, h4, h5⟩ => by
  rcases gu R.pairs h1 h2 with hc | ⟨_, oi', oj', m1, m2, m3⟩
  . exact hSj (hc S hS h3)
  . rw [ho] at m1; rw [h4] at m2; cases m1; cases m2; obtain ⟨p1, p2, p3⟩ := Oper.apart_spec m3; rcases ht with ht | ht
    . exact p3 t h5 ht
    . exact p2 t ht h5
 have hagree : ∀ t ∈ oj.looksAt ops, (st j).env.get t = s.env.get t := λ t ht => by
  rw [A.env t, jx (j := j) (Nat.le_of_lt hj) λ k h1 h2 h3 => ?_, qT (λ i hi hw => R.same zO hw) λ i hi hi2 => ?_]
  . rintro ⟨oi, h4, h5⟩; rcases gu R.pairs hi hj with hc | ⟨_, oi', oj', m1, m2, m3⟩
    . rcases hc _ hSj' (.inr rfl) with h | h
      . exact hi2 h
      . omega
    . rw [h4] at m1; rw [ho] at m2; cases m1; cases m2; exact (Oper.apart_spec m3).1 t h5 ht
  . rcases Nat.lt_or_ge j k with hlt | hge
    . exact hbeh t (.inl ht) k hlt h2 h3
    . exact absurd (show S j by rw [show j = k by omega]; exact h3) hSj
 have L : oQ (og call (st j) (cIt P n ops oj)) (ct j) (hp j) (st (j + 1)) (ct (j + 1)) (hp (j + 1)) (lg j) := by
  have := R.lo_at hj; rw [hoj] at this; exact this
 obtain ⟨g', h1, h2⟩ := Ci hj hSj L R.stay (λ m x ht => vc R.pairs rfl R.le R.low R.ok hS hj hSj hSj' ht) A.heap; rw [k1] at h1; obtain ⟨v, h3, h4⟩ := uB (s2 := s) (show jN oj.dst q f call (st j) _ _ = _ from h1) (k2 _ _ hagree) (k3 _ _ hagree); have e1 : og call s (cIt P n ops oj) (ct j) g = .ok (putE oj.dst v s) (ct (j + 1)) g' (lg j) := (by rw [k1]; exact h4); refine uC ho R.calls e1 A.post.rel A.state (A.free j hj hSj) λ a' w' ρ' hS' hp' => hk ρ' g' _ a' w' ⟨hS', A.post.wide hp' (gC R.le (Nat.zero_le _) (Nat.le_of_lt hj)) (gC R.le hj (Nat.le_refl _)), λ k hk hSk => ?_, h2, λ t => ?_, ?_⟩
 . have hne : k ≠ j := λ e => hSk (.inr e); have hf := A.free k hk λ h => hSk (.inl h); intro m m1 m2; rw [hp'.ext m ?_]
   . exact hf m m1 m2
   . rintro ⟨m3, m4⟩; rcases Nat.lt_or_ge k j with hlt | hge
     . have := gC R.le (show k + 1 <= j from hlt) (Nat.le_of_lt hj); omega
     . have := gC R.le (show j + 1 <= k by omega) (Nat.le_of_lt hk); omega
 . rw [pR]; by_cases hd : oj.dst = some t
   . rw [if_pos hd, sP hj ⟨oj, ho, hd⟩ (hbeh t (.inr hd)), h3, pR, if_pos hd]
   . rw [if_neg hd, ug (W := Dst ops t), A.env t]; rintro ⟨o, h5, h6⟩; rw [ho] at h5; cases h5; exact hd h6
 . rw [oo]; exact A.defers
theorem JG (R : Run P ops call n ps st ct hp lg) {ρ0 : Ren} {h0 : H} {w0 : World} {S : Nat -> Prop} {ρ : Ren} {g : H} {s : St} {a : Act} {w : World} (A : At ops st ct hp lg ρ0 h0 w0 n S ρ g s a w) (hS : ∀ j, j < ops.size -> S j) :
  StR ρ n (st ops.size) a /\ Post ρ0 h0 w0 (ct 0) (ct ops.size) ρ (hp ops.size) w := by
 refine ⟨A.state.of_get (λ t => ?_) (A.defers.trans (R.defers (Nat.le_refl _)).symm), A.post.of_get λ m => xq λ x => ?_⟩
 . rw [A.env t]; exact uh (λ j hj hw => R.same hj hw) hS
 . rw [A.heap m x]; exact uh (val := λ k => vw (hp k) m x) (W := λ k => eE (lg k) (ct k) (ct (k + 1)) m x) (λ j hj hw => R.stay j hj m x hw) hS
theorem EJ (R : Run P ops call n ps st ct hp lg) {ρ0 : Ren} {h0 : H} {w0 : World} {Q : Exit -> Act -> World -> Prop} (hQ : ∀ a w ρ, StR ρ n (st ops.size) a -> Post ρ0 h0 w0 (ct 0) (ct ops.size) ρ (hp ops.size) w -> Q .normal a w) :
  ∀ (fuel : Nat) (listed : Array Bool), listed.size = ops.size -> uns listed ops.size <= fuel -> jB ops (λ k => listed.getD k false = true) -> ∀ ρ g s a w, At ops st ct hp lg ρ0 h0 w0 n (λ k => listed.getD k false = true) ρ g s a w -> wpAny P .any ops Q fuel listed a w := by
 have done : ∀ (listed : Array Bool), listed.size = ops.size -> Region.ready .any ops listed = [] -> ∀ ρ g s a w, At ops st ct hp lg ρ0 h0 w0 n (λ k => listed.getD k false = true) ρ g s a w -> Q .normal a w := λ listed hs hr ρ g s a w A => by
  obtain ⟨h1, h2⟩ := JG R A (BI R.pairs hr hs); exact hQ a w ρ h1 h2
 intro fuel; induction fuel with
 | zero =>
   intro listed hs hu hc ρ g s a w A; have hr : Region.ready .any ops listed = [] := by
    cases h : Region.ready .any ops listed with
    | nil => rfl
    | cons j l =>
      have hj : j ∈ Region.ready .any ops listed := h ▸ List.mem_cons_self; obtain ⟨h0, o, ho, _⟩ := mem_ready.1 hj; have := uu (Nat.le_zero.1 hu) j (Array.getElem?_eq_some_iff.1 ho).1; rw [this] at h0; cases h0
   exact ⟨hr, done listed hs hr ρ g s a w A⟩
 | succ fuel ih =>
   intro listed hs hu hc ρ g s a w A; refine ⟨λ hr => done listed hs hr ρ g s a w A, λ j hj => ?_⟩; obtain ⟨h0, o, ho, hall⟩ := mem_ready.1 hj; have hlt : j < ops.size := (Array.getElem?_eq_some_iff.1 ho).1; have hS : ¬ listed.getD j false = true := λ h => by
    rw [Array.getD_eq_getD_getElem?, Array.getElem?_eq_getElem zO] at h0 h; simp at h0 h; rw [h0] at h; cases h
   have hfun : (λ k => (listed.setIfInBounds j true).getD k false = true) = λ k => listed.getD k false = true ∨ k = j := funext λ k => propext (by
    by_cases hk : k = j
    . subst hk; have : (listed.setIfInBounds k true).getD k false = true := by simp [hs, hlt]
      simp only [this, true_iff]; exact .inr trivial
    . rw [getD_set_ne false (Ne.symm hk)]; exact ⟨.inl, λ h => h.resolve_right hk⟩)
   have hc' : jB ops λ k => listed.getD k false = true ∨ k = j := λ k ok h1 h2 e he hb => by
    rcases h2 with h2 | rfl
    . exact .inl (hc k ok h1 h2 e he hb)
    . rw [ho] at h1; cases h1; exact .inl (hall e (by simpa using he) hb)
   refine Ii R A hc hlt hS hc' λ ρ' g' s' a' w' A' => ih _ (by simpa using hs) ?_ (by rw [hfun]; exact hc') ρ' g' s' a' w' (by rw [hfun]; exact A'); have := (zL h0 zO (N := ops.size)).1 hlt; omega
theorem qv {m k : Nat} : ¬ (Array.replicate m false).getD k false = true := by
 rw [Array.getD_eq_getD_getElem?]; cases hh : (Array.replicate m false)[k]? with
 | none => simp
 | some v =>
   obtain ⟨_, hv⟩ := Array.getElem?_eq_some_iff.1 hh; rw [Array.getElem_replicate] at hv; subst hv; simp
theorem vL {α β : Type} {f : α -> β} : ∀ {l : List α} {j : Nat}, (jH f l)[j]? = (l[j]?).map f
 | [], j => by simp [jH]
 | a :: l, 0 => rfl
 | a :: l, j + 1 => by
   show (f a :: jH f l)[j + 1]? = _
   simpa using vL (l := l) (j := j)
theorem vK {α β : Type} {f : α -> β} : ∀ {l : List α}, (jH f l).length = l.length
 | [] => rfl
 | a :: l => by
   show (f a :: jH f l).length = _
   simp [vK (l := l)]
theorem Ie (hc : kG call) (o : Oper) (s : St) : Lo (iJ call s (cIt P n ops o)) := by
 unfold cIt; cases sI n o.dst with
 | false => exact Lo.fail
 | true =>
   cases lS o.op with
   | some q =>
     cases o.guard with
     | some g => exact Lo.fail
     | none => exact Lo.fail
   | none =>
     cases lO ops o.guard with
     | none => exact Lo.fail
     | some g =>
       refine uA λ e => ?_; cases hq : cOp P o.op with
       | none => exact Lo.fail
       | some f => exact (Fa hq).lo call hc e
def tellM {α : Type} (m : M α) : M ((Nat × Nat × Log) × α) := λ c h => Rs.rec (motive := λ _ => Rs ((Nat × Nat × Log) × α)) .fail (λ a c1 h1 l => .ok ((c, c1, l), a) c1 h1 l) (m c h)
theorem Lo.tellM {α : Type} {m : M α} (hm : Lo m) : Lo (tellM m) := by
 intro c h a c' h' l e; have e : Rs.rec (motive := λ _ => Rs ((Nat × Nat × Log) × α)) .fail (λ a c1 h1 l => .ok ((c, c1, l), a) c1 h1 l) (m c h) = Rs.ok a c' h' l := e; cases q : m c h with
 | fail => rw [q] at e; cases e
 | ok a1 c1 h1 l1 =>
   rw [q] at e; cases e; obtain ⟨p1, p3, p4, p5⟩ := hm c h a1 c' h' l q; refine ⟨p1, p3, p4, λ g hg => ?_⟩; obtain ⟨g', k1, k2, k3⟩ := p5 g hg; refine ⟨g', ?_, k2, k3⟩; show Rs.rec (motive := λ _ => Rs ((Nat × Nat × Log) × α)) .fail (λ a c1 h1 l => .ok ((c, c1, l), a) c1 h1 l) (m c g) = _; rw [k1]
theorem wx (i : It) (is : List It) (s : St) : eX call (i :: is) s = M.bind (tellM (iJ call s i)) λ r => M.map (λ q => (r.1 :: q.1, q.2)) (eX call is r.2) := by
 funext c h
 show Rs.rec (motive := λ _ => Rs (List (Nat × Nat × Log) × St)) .fail (λ s1 c1 h1 f1 => Rs.rec (motive := λ _ => Rs (List (Nat × Nat × Log) × St)) .fail (λ r c2 h2 f2 => .ok ((c, c1, f1) :: r.1, r.2) c2 h2 (List.append f1 f2)) (eX call is s1 c1 h1)) (iJ call s i c h)
  = Rs.andThen (λ r => M.map (λ q => (r.1 :: q.1, q.2)) (eX call is r.2)) (Rs.rec (motive := λ _ => Rs ((Nat × Nat × Log) × St)) .fail (λ a c1 h1 l => .ok ((c, c1, l), a) c1 h1 l) (iJ call s i c h))
 cases iJ call s i c h with
 | fail => rfl
 | ok s1 c1 h1 f1 =>
   show Rs.rec (motive := λ _ => Rs (List (Nat × Nat × Log) × St)) .fail (λ r c2 h2 f2 => .ok ((c, c1, f1) :: r.1, r.2) c2 h2 (List.append f1 f2)) (eX call is s1 c1 h1)
    = Rs.rec (motive := λ _ => Rs (List (Nat × Nat × Log) × St)) .fail (λ b c h l2 => .ok b c h (List.append f1 l2)) (Rs.rec (motive := λ _ => Rs (List (Nat × Nat × Log) × St)) .fail (λ q c2 h2 l2 => .ok ((c, c1, f1) :: q.1, q.2) c2 h2 l2) (eX call is s1 c1 h1))
   cases eX call is s1 c1 h1 <;> rfl
theorem sD (hc : kG call) : ∀ (os : List Oper) (s : St), Lo (eX call (jH (cIt P n ops) os) s)
 | [], s => Lo.pure _
 | o :: os, s => by
   have : eX call (jH (cIt P n ops) (o :: os)) s = _ := wx (cIt P n ops o) (jH (cIt P n ops) os) s
   rw [this]
   exact Lo.bind (Lo.tellM (Ie hc o s)) λ r => Lo.map (sD hc os r.2)
theorem draw_ok : zE P := by
 intro call hcall hlo n id ops ps hm hps; refine ⟨λ s => Lo.bind (sD hlo _ s) λ r => Lo.ifB (Lo.pure _) Lo.fail, λ s x s' c c' h h' l e ρ w a hr hS hf Q hk => ?_⟩; obtain ⟨r, c1, h1, l1, l2, e1, e2, _⟩ := dy (show M.bind (eX call (jH (cIt P n ops) ops.toList) s) (λ r => ifB (oU r.1 ps) (M.pure (X.normal, r.2)) fail) c h = _ from e); obtain ⟨hok, e2⟩ := dO e2; obtain ⟨hx, rfl, rfl, _⟩ := aS e2; cases hx; obtain ⟨st, ct, hp, lg, k1, k2, k3, k4, k5, k6, k7, k8⟩ := qC _ _ _ _ _ _ _ _ e1; rw [vK, Array.length_toList] at k5 k6 k7 k8
 have R : Run P ops call n ps st ct hp lg := ⟨hcall, hlo, hps, λ j o ho => k1 j _ (by rw [vL]; simp [ho]), λ p hp h1 h2 => by
  have := mA hok p hp; rw [k8 _ h1, k8 _ h2] at this; exact this⟩
 have hc : jB ops (λ k => (Array.replicate ops.size false).getD k false = true) := λ k o _ h => absurd h qv; refine wp_region_any hm ?_; refine EJ R (ρ0 := ρ) (h0 := h) (w0 := w) (λ a' w' ρ' h1 h2 => ?_) ops.size _ (by simp) C6 hc ρ h s a _ ⟨hS, ?_, λ j hj _ => ?_, λ m x => ?_, λ t => ?_, ?_⟩
 . rw [k5] at h1; rw [k3, k6, k7] at h2; exact hk a' w' ρ' h1 h2
 . rw [k3, k6]; exact ⟨hr.drew _, λ _ _ => rfl, rfl, rfl, rfl, Nat.le_refl _, λ _ _ _ => rfl, λ n o b s h1 h2 _ => ⟨n, o, s, h1, h2⟩⟩
 . intro m h1 h2; have a1 := gC R.le (Nat.zero_le j) (Nat.le_of_lt hj); have a2 := gC R.le (show j + 1 <= ops.size from hj) (Nat.le_refl _); exact hf m zO zO
 . rw [qU λ j _ h => absurd h qv, k4]
 . rw [qU λ j _ h => absurd h qv, k2]
 . rw [k2]
end
section
variable {P : Program}
def Fv (P : Program) (tmps : Array Value) (g : ResultVar -> Sem Value) : Prop :=
 (∀ t w, (g (.tmp t)).run P w = .ok (tmps.getD t undef) w) /\ ∀ a t ad w, tmps.getD a undef = .pointer (some ad) -> (g (.cell a t)).run P w = (loadVar t ad).run P w
theorem E7 {g : ResultVar -> Sem Value} {rv : ResultVar} {r : RV} (h : zm P rv = some r) {ρ : Ren} {e : Env} {tmps : Array Value} (hg : Fv P tmps g) (hE : ER ρ e tmps) {c c' : Nat} {H0 H1 : H} {l : Log} {x : AV} (he : Gc e r c H0 = .ok x c' H1 l) {w : World} (hr : Rel ρ H0 w) :
  c' = c /\ H1 = H0 /\ ∃ v, (g rv).run P w = .ok v w /\ VR ρ x v := by
 cases rv with
 | tmp t =>
   cases h; obtain ⟨rfl, rfl, rfl, _⟩ := aS (show M.pure (e.get t) c H0 = _ from he); exact ⟨rfl, rfl, _, hg.1 t w, hE t⟩
 | cell a t =>
   obtain ⟨b, hb, h⟩ := ah (show ifS none (λ b => ifB b (ifS none (λ n => some (.many a n)) (cG P t)) (some (.one a))) (kD P t) = some r from h); cases b with
   | true =>
     obtain ⟨n, hn, h⟩ := ah (show ifS none (λ n => some (RV.many a n)) (cG P t) = some r from h); cases h; obtain ⟨rfl, rfl, ad, y, h1, h2, h3⟩ := qf (P := P) hr (show mH n (e.get a) c H0 = _ from he) (hE a); exact ⟨rfl, rfl, .agg y, by rw [hg.2 a t _ w h1]; simp [loadVar, fI hb, cH hn, h2], h3⟩
   | false =>
     cases h; obtain ⟨rfl, rfl, b, i, y, h1, h2, h3⟩ := lK hr (show mI (e.get a) c H0 = _ from he) (hE a); exact ⟨rfl, rfl, y, by rw [hg.2 a t _ w h1]; simp [loadVar, fI hb, h2], h3⟩
theorem Gb (e : Env) (r : RV) : Lo (Gc e r) := by
 cases r with
 | tmp t => exact Lo.pure _
 | one a => exact qh _
 | many a n => exact qg _ _
theorem tk (e : Env) : ∀ l : List RV, Lo (xT e l)
 | [] => Lo.pure _
 | r :: l => Lo.bind (Gb e r) λ _ => Lo.map (tk e l)
theorem uT {g : ResultVar -> Sem Value} {ρ : Ren} {e : Env} {tmps : Array Value} (hg : Fv P tmps g) (hE : ER ρ e tmps) {w : World} : ∀ (rvs : List ResultVar) (rs : List RV) (c c' : Nat) (H0 H1 : H) (l : Log) (xs : List AV), iF (zm P) rvs = some rs -> xT e rs c H0 = .ok xs c' H1 l -> Rel ρ H0 w ->
  c' = c /\ H1 = H0 /\ ∃ vs, (rvs.mapM g).run P w = .ok vs w /\ VRs ρ xs vs
 | [], rs, c, c', H0, H1, l, xs, h, he, hr => by
   cases h
   obtain ⟨rfl, rfl, rfl, _⟩ := aS (show M.pure [] c H0 = _ from he)
   exact ⟨rfl, rfl, [], by simp, VRs.nil ρ⟩
 | rv :: rvs, rs, c, c', H0, H1, l, xs, h, he, hr => by
   obtain ⟨r, h1, h⟩ := ah (show ifS none (λ b => ifS none (λ r => some (b :: r)) (iF (zm P) rvs)) (zm P rv) = some rs from h)
   obtain ⟨rs', h2, h⟩ := ah h
   cases h
   obtain ⟨x, c1, h3, l1, l2, e1, e2, _⟩ := dy (show M.bind (Gc e r) (λ v => M.map (λ vs => v :: vs) (xT e rs')) c H0 = _ from he)
   obtain ⟨ys, e3, rfl⟩ := cS e2
   obtain ⟨rfl, rfl, v, k1, k2⟩ := E7 h1 hg hE e1 hr
   obtain ⟨rfl, rfl, vs, k3, k4⟩ := uT hg hE rvs rs' _ _ _ _ _ ys h2 e3 hr
   refine ⟨rfl, rfl, v :: vs, ?_, VRs.cons k2 k4⟩
   rw [List.mapM_cons]
   simp only [Sem.run_bind, k1, Result.andThen, k3, Sem.run_pure]
theorem I9 {ρ : Ren} {xs : List AV} {vs : List Value} (h : VRs ρ xs vs) : VR ρ (one xs) (if h : vs.toArray.size = 1 then vs.toArray[0] else .tuple vs.toArray) := by
 cases xs with
 | nil =>
   simp only [VRs] at h; subst h; simp only [one, GR]; exact VR.undefA ρ
 | cons x xs =>
   have h0 := h; simp only [VRs] at h; obtain ⟨v, r, rfl, h1, h2⟩ := h; cases xs with
   | nil =>
     simp only [VRs] at h2; subst h2; exact h1
   | cons y ys =>
     have hl := h2.length; rw [dif_neg (by simp only [List.length_cons] at hl; simp only [List.size_toArray, List.length_cons]; omega)]; show VR ρ (.tuple (x :: y :: ys)) _; simp only [VR]; exact ⟨_, rfl, h0⟩
theorem uS {fn : Func} {rs : List RV} (h : iF (zm P) fn.results.toList = some rs) {ρ : Ren} {e : Env} {tmps : Array Value} (hE : ER ρ e tmps) {w : World} {c c' : Nat} {H0 H1 : H} {l : Log} {x : AV} (he : M.map one (xT e rs) c H0 = .ok x c' H1 l) (hr : Rel ρ H0 w) :
  c' = c /\ H1 = H0 /\ ∃ v, (results fn tmps).run P w = .ok v w /\ VR ρ x v := by
 obtain ⟨xs, e2, rfl⟩ := cS he; have key : ∀ (g : ResultVar -> Sem Value) (k : Array Value -> Sem Value), Fv P tmps g -> (∀ vs, VRs ρ xs vs -> ∃ v, (k vs.toArray).run P w = .ok v w /\ VR ρ (one xs) v) -> c' = c /\ H1 = H0 /\ ∃ v, (fn.results.mapM g >>= k).run P w = .ok v w /\ VR ρ (one xs) v := λ g k hg hk => by
  obtain ⟨rfl, rfl, vs, k1, k2⟩ := uT hg hE fn.results.toList rs _ _ _ _ _ xs h e2 hr; obtain ⟨v, k3, k4⟩ := hk vs k2; refine ⟨rfl, rfl, v, ?_, k4⟩; rw [Array.mapM_eq_mapM_toList]; simp only [Sem.run_bind, Sem.run_map, k1, Result.andThen, k3]
 unfold results; exact key _ _ ⟨λ _ _ => rfl, λ a t ad w h => by simp [h, asAddr]⟩ λ vs hv => ⟨_, rfl, I9 hv⟩
def Idle (P : Program) (f : FuncId) : Prop := (∀ (xs : Array Value) (w : World), (callFunc f xs).run P w = .ok (.enter f xs) w) /\ ∀ p w, CallsD P f #[.pointer (some p)] .returning w λ e u w' => (∃ v, e = .returned v) /\ u = .returning /\ Below w.heap.size w w'
def SameStr (P : Program) (f : FuncId) : Prop := (∀ (xs : Array Value) (w : World), (callFunc f xs).run P w = .ok (.enter f xs) w) /\ ∀ b w, b.size <= 1048576 -> Calls P f #[.string b] w λ e w' => e = .returned (.string b) /\ Below w.heap.size w w'
theorem si {fn : Func} {tmps : Array Value} {idle : List Nat} (hid : ∀ f, hasN f idle = true -> Idle P f) {R : Ending -> World -> Prop} {ρ : Ren} : ∀ (ds : List (Nat × List AV)) (dl : List Deferred), jk idle ds = true -> DR ρ ds dl -> ∀ w : World,
  (∀ w', Below w.heap.size w w' -> ∃ v, (results fn tmps).run P w' = .ok v w' /\ R (.returned v) w') -> Leaves P fn tmps R dl .returning w
 | [], dl, _, hd, w, hk => by
   have hd : dl = [] := hd
   subst hd
   exact hk w (Below.refl _ w)
 | q :: ds, dl, hi, ⟨d, r, cap, h1, h2, h3, h4⟩, w, hk => by
   subst h1
   have hi : ifB (ifB (hasN q.1 idle) (tr q.2) false) (jk idle ds) false = true := hi
   have hi2 : hasN q.1 idle = true /\ tr q.2 = true /\ jk idle ds = true := by
    cases a1 : hasN q.1 idle with
    | false => rw [a1] at hi; cases hi
    | true =>
      cases a2 : tr q.2 with
      | false => rw [a1, a2] at hi; cases hi
      | true => rw [a1, a2] at hi; exact ⟨rfl, rfl, hi⟩
   obtain ⟨a1, a2, a3⟩ := hi2; obtain ⟨k1, k2⟩ := hid q.1 a1; have hargs : ∃ p, d.args ++ cap = #[.pointer (some p)] := by
    generalize q.2 = qs at *; cases qs with
    | nil => cases a2
    | cons v t =>
      cases t with
      | cons v2 t2 => cases v <;> cases a2
      | nil =>
        cases v with
        | ptr o =>
          cases o with
          | none => cases a2
          | some o =>
            simp only [VRs, VR] at h3; obtain ⟨v, r', hl, ⟨b, z, _, rfl⟩, rfl⟩ := h3; refine ⟨⟨b, o.2, none⟩, ?_⟩; apply Array.ext'; simpa using hl
        | _ => cases a2
   obtain ⟨p, hp⟩ := hargs; obtain ⟨tgt, dargs⟩ := d; have h2 : tgt = .fn (.func q.1) cap := h2; subst h2; refine leaves_cons (f := q.1) (args := #[.pointer (some p)]) (by simp) ?_ (CallsD.mono (k2 p w) λ e u w' hR => ?_)
   . have hp : dargs ++ cap = #[.pointer (some p)] := hp; show (callFunc q.1 (dargs ++ cap)).run P w = _; rw [hp]; exact k1 _ _
   . obtain ⟨⟨v, rfl⟩, rfl, hb⟩ := hR; exact si hid ds r a3 h4 w' λ w2 hb2 => hk w2 (hb.trans (hb2.mono hb.size))
theorem Ck {args : List AV} {c c' : Nat} {h h' : H} {l : Log} {v : AV} (e : zU args c h = .ok v c' h' l) : ∃ s, args = [.str s] /\ v = .str s /\ c' = c /\ h' = h /\ s.length <= 1048576 := by
 obtain ⟨a, t, rfl, e⟩ := qr e; cases t with
 | cons b t => cases e
 | nil =>
   obtain ⟨s, rfl, e⟩ := iR (show onStr fail (λ s => ifB (Nat.ble (len s) 1048576) (M.pure (AV.str s)) fail) a c h = _ from e); obtain ⟨hb, e⟩ := dO e; obtain ⟨rfl, rfl, rfl, _⟩ := aS e; exact ⟨s, rfl, rfl, rfl, rfl, len_eq s ▸ Nat.le_of_ble_eq_true hb⟩
theorem Dr (args : List AV) : Lo (zU args) := Lo.ifC Lo.fail λ _ _ => Lo.ifC (Lo.onStr Lo.fail λ _ => Lo.ifB (Lo.pure _) Lo.fail) λ _ _ => Lo.fail
theorem Dc {f : Nat} {fn : AF} (h : tab P f = some fn) : ∃ g b, P.funcs[f]? = some g /\ g.body = some b /\ (∀ (xs : Array Value) (w : World), (callFunc f xs).run P w = .ok (.enter f xs) w) /\ iF (zm P) g.results.toList = some fn.results /\ gd P g.ntmps b = .mk fn.body := by
 obtain ⟨g, h1, h⟩ := ah h; obtain ⟨hn, h⟩ := gR h; obtain ⟨rs, h2, h⟩ := ah h; obtain ⟨b, h3, h⟩ := ah h; cases hc : gd P g.ntmps b with
 | mk k =>
   rw [hc] at h; cases h; refine ⟨g, b, h1, h3, λ xs w => ?_, h2, hc⟩; simp only [callFunc, Sem.run_bind, run_program, Result.andThen, h1, hn, Bool.false_eq_true, if_false, h3, Option.isNone_some, Sem.run_pure]
theorem call_ok (hdraw : zE P) {idle same : List Nat} (hid : ∀ f, hasN f idle = true -> Idle P f) (hsame : ∀ f, hasN f same = true -> SameStr P f) : ∀ d, kH P (evCall P idle same d) /\ kG (evCall P idle same d)
 | 0 => ⟨λ _ _ _ _ _ _ _ _ e => (by cases e), λ _ _ => Lo.fail⟩
 | d + 1 => by
   obtain ⟨ih1, ih2⟩ := call_ok hdraw hid hsame d
   have hstep : ∀ f args, evCall P idle same (d + 1) f args = ifB (hasN f same) (zU args) (EE idle (evCall P idle same d) args (tab P f)) := λ f args => rfl
   have hleave : ∀ rs r, Lo (leave idle rs r) := λ rs r => Lo.ifB Lo.fail (Lo.ifB (Lo.map (tk _ _)) Lo.fail)
   have hbody : ∀ {f fn}, tab P f = some fn -> ∀ {g b}, gd P g b = .mk fn.body -> di P g (evCall P idle same d) b fn.body := λ {f fn} _ {g b} hc => ga hdraw ih1 ih2 b fn.body hc
   refine ⟨λ f args c h v c' h' l e => ?_, λ f args => ?_⟩
   . rw [hstep] at e
     cases hs : hasN f same with
     | true =>
       rw [hs, cI] at e
       obtain ⟨s, rfl, rfl, rfl, rfl, hlen⟩ := Ck e
       obtain ⟨k1, k2⟩ := hsame f hs
       refine ⟨k1, λ ρ w xs hr hV _ => ?_⟩
       simp only [VRs, VR] at hV
       obtain ⟨u, r, hl, ⟨b, rfl, hb⟩, rfl⟩ := hV
       have hx : xs = #[.string b] := (by apply Array.ext'; simpa using hl)
       subst hx
       exact Calls.mono (k2 b w (by rw [<- hb, List.length_map, Array.length_toList] at hlen; exact hlen)) λ e w' hR => ⟨_, ρ, hR.1, by simp only [VR]; exact ⟨b, rfl, hb⟩, Post.of_below hr hR.2⟩
     | false =>
       rw [hs, eA] at e
       obtain ⟨fn, hfn, e⟩ := bW (show ifS fail _ (tab P f) c h = _ from e)
       obtain ⟨g, b, h1, h2, h3, h4, h5⟩ := Dc hfn
       refine ⟨h3, λ ρ w xs hr hV hf => ?_⟩
       obtain ⟨l0, e0, rfl⟩ := oC e
       obtain ⟨⟨x, s'⟩, c1, H1, l1, l2, e1, e2, _⟩ := dy e0
       have hC := hbody hfn h5
       obtain ⟨hx, hdl, hres⟩ : tP x = false /\ jk idle s'.defers = true /\ M.map one (xT s'.env fn.results) c1 H1 = .ok v c' h' l2 := by
        have e2 : ifB (tP x) fail (ifB (jk idle s'.defers) (M.map one (xT s'.env fn.results)) fail) c1 H1 = .ok v c' h' l2 := e2; cases q1 : tP x with
        | true => rw [q1] at e2; cases e2
        | false =>
          rw [q1, eA] at e2; cases q2 : jk idle s'.defers with
          | false => rw [q2] at e2; cases e2
          | true => rw [q2, cI] at e2; exact ⟨rfl, rfl, e2⟩
       have hle : c1 <= c' := (Lo.map (tk _ _) c1 H1 v c' h' l2 hres).le; have hle0 : c <= c1 := (hC.1 _ c h _ c1 H1 l1 e1).le; refine calls_of_wp_defers h1 h2 ?_; refine hC.2 _ x s' c c1 h H1 l1 e1 ρ w _ hr (Cq hV g.ntmps) (λ m k1 k2 => hf m k1 (Nat.lt_of_lt_of_le k2 hle)) _ λ a' w' ρ' hS' hp' => ?_; have hL : Leaves P g a'.tmps (λ e w'' => ∃ v' ρ', e = .returned v' /\ VR ρ' v v' /\ Post ρ h w c c' ρ' h' w'') a'.defers .returning w' := si hid s'.defers a'.defers hdl hS'.defers w' λ w2 hb => by
        have hp2 := Post.of_below (c := c1) hp'.rel hb; obtain ⟨rfl, rfl, v', k1, k2⟩ := uS h4 hS'.env hres hp2.rel; exact ⟨v', k1, v', ρ', rfl, k2, hp'.trans hp2 hle0 (Nat.le_refl _)⟩
       cases x with
       | normal => exact hL
       | ret => exact hL
       | exit i => cases hx
   . rw [hstep]; refine Lo.ifB (Dr args) ?_; cases hfn : tab P f with
     | none => exact Lo.fail
     | some fn =>
       obtain ⟨g, b, h1, h2, h3, h4, h5⟩ := Dc hfn; exact Lo.dropPriv (Lo.bind ((hbody hfn h5).1 _) λ r => hleave _ r)
end
end Go.Sx
