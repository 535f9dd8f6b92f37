/-
  Calls: what a symbolic run of a function says of it, for every world.
-/
import Derived.Test.YtmceablhndldiaaGreatDoorSx21
namespace Go.Sx
open Go.RowKit

section
variable {P : Program}
noncomputable def resSem (tmps : Array Value) (rv : ResultVar) : Sem Value := match rv with
  | .tmp t => pure (tmps.getD t undef)
  | .cell a t => do loadVar t (← asAddr (tmps.getD a undef))
theorem results_eq (fn : Func) (tmps : Array Value) : results fn tmps = (do
    let vs ← fn.results.mapM (resSem tmps)
    pure (if h : vs.size = 1 then vs[0] else .tuple vs)) := by
  unfold results
  congr 1
theorem cRes_run {rv : ResultVar} {r : RV} (h : cRes P rv = some r) {ρ : Ren} {e : Env} {tmps : Array Value} (hE : ER ρ e tmps) {c c' : Nat} {H0 H1 : H} {l : Log} {x : AV} (he : res1 e r c H0 = .ok x c' H1 l) {w : World} (hr : Rel ρ H0 w) :
    c' = c ∧ H1 = H0 ∧ ∃ v, (resSem tmps rv).run P w = .ok v w ∧ VR ρ x v := by
  cases rv with
  | tmp t =>
    cases h
    obtain ⟨rfl, rfl, rfl, _⟩ := pure_ok (show M.pure (e.get t) c H0 = _ from he)
    exact ⟨rfl, rfl, _, rfl, hE t⟩
  | cell a t =>
    obtain ⟨b, hb, h⟩ := ifS_eq (show ifS none (fun b => ifB b (ifS none (fun n => some (.many a n)) (sizeO P t)) (some (.one a))) (aggO P t) = some r from h)
    cases b with
    | true =>
      obtain ⟨n, hn, h⟩ := ifS_eq (show ifS none (fun n => some (RV.many a n)) (sizeO P t) = some r from h)
      cases h
      obtain ⟨rfl, rfl, ad, y, h1, h2, h3⟩ := loadNAt_ok (P := P) hr (show loadNAt n (e.get a) c H0 = _ from he) (hE a)
      exact ⟨rfl, rfl, .agg y, by simp [resSem, h1, asAddr, loadVar, run_isAgg hb, run_size hn, h2], h3⟩
    | false =>
      cases h
      obtain ⟨rfl, rfl, b, i, y, h1, h2, h3⟩ := load1At_ok hr (show load1At (e.get a) c H0 = _ from he) (hE a)
      exact ⟨rfl, rfl, y, by simp [resSem, h1, asAddr, loadVar, run_isAgg hb, h2], h3⟩
theorem res1_lo (e : Env) (r : RV) : Lo (res1 e r) := by
  cases r with
  | tmp t => exact Lo.pure _
  | one a => exact load1At_lo _
  | many a n => exact loadNAt_lo _ _
theorem resA_lo (e : Env) : ∀ l : List RV, Lo (resA e l)
  | [] => Lo.pure _
  | r :: l => Lo.bind (res1_lo e r) fun _ => Lo.map (resA_lo e l)
theorem resA_run {ρ : Ren} {e : Env} {tmps : Array Value} (hE : ER ρ e tmps) {w : World} : ∀ (rvs : List ResultVar) (rs : List RV) (c c' : Nat) (H0 H1 : H) (l : Log) (xs : List AV), allO (cRes P) rvs = some rs → resA e rs c H0 = .ok xs c' H1 l → Rel ρ H0 w →
    c' = c ∧ H1 = H0 ∧ ∃ vs, (rvs.mapM (resSem tmps)).run P w = .ok vs w ∧ VRs ρ xs vs
  | [], rs, c, c', H0, H1, l, xs, h, he, hr => by
    cases h
    obtain ⟨rfl, rfl, rfl, _⟩ := pure_ok (show M.pure [] c H0 = _ from he)
    exact ⟨rfl, rfl, [], by simp, VRs.nil ρ⟩
  | rv :: rvs, rs, c, c', H0, H1, l, xs, h, he, hr => by
    obtain ⟨r, h1, h⟩ := ifS_eq (show ifS none (fun b => ifS none (fun r => some (b :: r)) (allO (cRes P) rvs)) (cRes P rv) = some rs from h)
    obtain ⟨rs', h2, h⟩ := ifS_eq h
    cases h
    obtain ⟨x, c1, h3, l1, l2, e1, e2, _⟩ := bind_ok (show M.bind (res1 e r) (fun v => M.map (fun vs => v :: vs) (resA e rs')) c H0 = _ from he)
    obtain ⟨ys, e3, rfl⟩ := map_ok e2
    obtain ⟨rfl, rfl, v, k1, k2⟩ := cRes_run h1 hE e1 hr
    obtain ⟨rfl, rfl, vs, k3, k4⟩ := resA_run hE rvs rs' _ _ _ _ _ ys h2 e3 hr
    refine ⟨rfl, rfl, v :: vs, ?_, VRs.cons k2 k4⟩
    rw [List.mapM_cons]
    simp only [Sem.run_bind, k1, Result.andThen, k3, Sem.run_pure]
theorem one_VR {ρ : Ren} {xs : List AV} {vs : List Value} (h : VRs ρ xs vs) : VR ρ (one xs) (if h : vs.toArray.size = 1 then vs.toArray[0] else .tuple vs.toArray) := by
  cases xs with
  | nil =>
    simp only [VRs] at h
    subst h
    simp only [one, ifC_nil]
    exact VR.undefA ρ
  | cons x xs =>
    have h0 := h
    simp only [VRs] at h
    obtain ⟨v, r, rfl, h1, h2⟩ := h
    cases xs with
    | nil =>
      simp only [VRs] at h2
      subst h2
      exact h1
    | cons y ys =>
      have hl := h2.length
      rw [dif_neg (by simp only [List.length_cons] at hl; simp only [List.size_toArray, List.length_cons]; omega)]
      show VR ρ (.tuple (x :: y :: ys)) _
      simp only [VR]
      exact ⟨_, rfl, h0⟩
theorem results_run {fn : Func} {rs : List RV} (h : allO (cRes P) fn.results.toList = some rs) {ρ : Ren} {e : Env} {tmps : Array Value} (hE : ER ρ e tmps) {w : World} {c c' : Nat} {H0 H1 : H} {l : Log} {x : AV} (he : M.map one (resA e rs) c H0 = .ok x c' H1 l) (hr : Rel ρ H0 w) :
    c' = c ∧ H1 = H0 ∧ ∃ v, (results fn tmps).run P w = .ok v w ∧ VR ρ x v := by
  obtain ⟨xs, e2, rfl⟩ := map_ok he
  obtain ⟨rfl, rfl, vs, k1, k2⟩ := resA_run hE fn.results.toList rs _ _ _ _ _ xs h e2 hr
  refine ⟨rfl, rfl, _, ?_, one_VR k2⟩
  rw [results_eq, Array.mapM_eq_mapM_toList]
  simp only [Sem.run_bind, Sem.run_map, k1, Result.andThen, Sem.run_pure]
/-- what a function that is put off does where no panic came: nothing that was there turns -/
def Idle (P : Program) (f : FuncId) : Prop := (∀ (xs : Array Value) (w : World), (callFunc f xs).run P w = .ok (.enter f xs) w) ∧ ∀ p w, CallsD P f #[.pointer (some p)] .returning w fun e u w' => (∃ v, e = .returned v) ∧ u = .returning ∧ Below w.heap.size w w'
/-- a function that answers its one string -/
def SameStr (P : Program) (f : FuncId) : Prop := (∀ (xs : Array Value) (w : World), (callFunc f xs).run P w = .ok (.enter f xs) w) ∧ ∀ b w, b.size ≤ 1048576 → Calls P f #[.string b] w fun e w' => e = .returned (.string b) ∧ Below w.heap.size w w'
theorem leaves_ok {fn : Func} {tmps : Array Value} {idle : List Nat} (hid : ∀ f, hasN f idle = true → Idle P f) {R : Ending → World → Prop} {ρ : Ren} : ∀ (ds : List (Nat × List AV)) (dl : List Deferred), idleAll idle ds = true → DR ρ ds dl → ∀ w : World,
    (∀ w', Below w.heap.size w w' → ∃ v, (results fn tmps).run P w' = .ok v w' ∧ R (.returned v) w') → Leaves P fn tmps R dl .returning w
  | [], dl, _, hd, w, hk => by
    have hd : dl = [] := hd
    subst hd
    exact hk w (Below.refl _ w)
  | q :: ds, dl, hi, ⟨d, r, cap, h1, h2, h3, h4⟩, w, hk => by
    subst h1
    have hi : ifB (ifB (hasN q.1 idle) (onePtr q.2) false) (idleAll idle ds) false = true := hi
    have hi2 : hasN q.1 idle = true ∧ onePtr q.2 = true ∧ idleAll idle ds = true := by
      cases a1 : hasN q.1 idle with
      | false => rw [a1] at hi; cases hi
      | true =>
        cases a2 : onePtr q.2 with
        | false => rw [a1, a2] at hi; cases hi
        | true => rw [a1, a2] at hi; exact ⟨rfl, rfl, hi⟩
    obtain ⟨a1, a2, a3⟩ := hi2
    obtain ⟨k1, k2⟩ := hid q.1 a1
    have hargs : ∃ p, d.args ++ cap = #[.pointer (some p)] := by
      generalize q.2 = qs at *
      cases qs with
      | nil => cases a2
      | cons v t =>
        cases t with
        | cons v2 t2 => cases v <;> cases a2
        | nil =>
          cases v with
          | ptr o =>
            cases o with
            | none => cases a2
            | some o =>
              simp only [VRs, VR] at h3
              obtain ⟨v, r', hl, ⟨b, z, _, rfl⟩, rfl⟩ := h3
              refine ⟨⟨b, o.2, none⟩, ?_⟩
              apply Array.ext'
              simpa using hl
          | _ => cases a2
    obtain ⟨p, hp⟩ := hargs
    obtain ⟨tgt, dargs⟩ := d
    have h2 : tgt = .fn (.func q.1) cap := h2
    subst h2
    refine leaves_cons (f := q.1) (args := #[.pointer (some p)]) (by simp) ?_ (CallsD.mono (k2 p w) fun e u w' hR => ?_)
    · have hp : dargs ++ cap = #[.pointer (some p)] := hp
      show (callFunc q.1 (dargs ++ cap)).run P w = _
      rw [hp]
      exact k1 _ _
    · obtain ⟨⟨v, rfl⟩, rfl, hb⟩ := hR
      exact leaves_ok hid ds r a3 h4 w' fun w2 hb2 => hk w2 (hb.trans (hb2.mono hb.size))
theorem hasN_same {args : List AV} {c c' : Nat} {h h' : H} {l : Log} {v : AV} (e : same1 args c h = .ok v c' h' l) : ∃ s, args = [.str s] ∧ v = .str s ∧ c' = c ∧ h' = h ∧ s.length ≤ 1048576 := by
  obtain ⟨a, t, rfl, e⟩ := ifC_ok e
  cases t with
  | cons b t => cases e
  | nil =>
    obtain ⟨s, rfl, e⟩ := onStr_ok (show onStr fail (fun s => ifB (Nat.ble (len s) 1048576) (M.pure (AV.str s)) fail) a c h = _ from e)
    obtain ⟨hb, e⟩ := ifB_ok e
    obtain ⟨rfl, rfl, rfl, _⟩ := pure_ok e
    exact ⟨s, rfl, rfl, rfl, rfl, len_eq s ▸ Nat.le_of_ble_eq_true hb⟩
theorem same1_lo (args : List AV) : Lo (same1 args) := Lo.ifC Lo.fail fun _ _ => Lo.ifC (Lo.onStr Lo.fail fun _ => Lo.ifB (Lo.pure _) Lo.fail) fun _ _ => Lo.fail
theorem tab_ok {f : Nat} {fn : AF} (h : tab P f = some fn) : ∃ g b, P.funcs[f]? = some g ∧ g.body = some b ∧ (∀ (xs : Array Value) (w : World), (callFunc f xs).run P w = .ok (.enter f xs) w) ∧ allO (cRes P) g.results.toList = some fn.results ∧ cCode P g.ntmps b = .mk fn.body := by
  obtain ⟨g, h1, h⟩ := ifS_eq h
  obtain ⟨hn, h⟩ := ifN_eq h
  obtain ⟨rs, h2, h⟩ := ifS_eq h
  obtain ⟨b, h3, h⟩ := ifS_eq h
  cases hc : cCode P g.ntmps b with
  | mk k =>
    rw [hc] at h
    cases h
    refine ⟨g, b, h1, h3, fun xs w => ?_, h2, hc⟩
    simp only [callFunc, Sem.run_bind, run_program, Result.andThen, h1, hn, Bool.false_eq_true, if_false, h3, Option.isNone_some, Sem.run_pure]
theorem call_ok (hdraw : DrawOk P) {idle same : List Nat} (hid : ∀ f, hasN f idle = true → Idle P f) (hsame : ∀ f, hasN f same = true → SameStr P f) : ∀ d, CallOk P (evCall P idle same d) ∧ CtxLo (evCall P idle same d)
  | 0 => ⟨fun _ _ _ _ _ _ _ _ e => (by cases e), fun _ _ => Lo.fail⟩
  | d + 1 => by
    obtain ⟨ih1, ih2⟩ := call_ok hdraw hid hsame d
    have hstep : ∀ f args, evCall P idle same (d + 1) f args = ifB (hasN f same) (same1 args) (enterF idle (evCall P idle same d) args (tab P f)) := fun f args => rfl
    have hleave : ∀ rs r, Lo (leave idle rs r) := fun rs r => Lo.ifB Lo.fail (Lo.ifB (Lo.map (resA_lo _ _)) Lo.fail)
    have hbody : ∀ {f fn}, tab P f = some fn → ∀ {g b}, cCode P g b = .mk fn.body → CodeOk P g (evCall P idle same d) b fn.body := fun {f fn} _ {g b} hc => cCode_ok hdraw ih1 ih2 b fn.body hc
    refine ⟨fun f args c h v c' h' l e => ?_, fun f args => ?_⟩
    · rw [hstep] at e
      cases hs : hasN f same with
      | true =>
        rw [hs, ifB_true] at e
        obtain ⟨s, rfl, rfl, rfl, rfl, hlen⟩ := hasN_same e
        obtain ⟨k1, k2⟩ := hsame f hs
        refine ⟨k1, fun ρ w xs hr hV _ => ?_⟩
        simp only [VRs, VR] at hV
        obtain ⟨u, r, hl, ⟨b, rfl, hb⟩, rfl⟩ := hV
        have hx : xs = #[.string b] := by apply Array.ext'; simpa using hl
        subst hx
        exact Calls.mono (k2 b w (by rw [← hb, List.length_map, Array.length_toList] at hlen; exact hlen)) fun e w' hR => ⟨_, ρ, hR.1, by simp only [VR]; exact ⟨b, rfl, hb⟩, Post.of_below hr hR.2⟩
      | false =>
        rw [hs, ifB_false] at e
        obtain ⟨fn, hfn, e⟩ := ifS_ok (show ifS fail _ (tab P f) c h = _ from e)
        obtain ⟨g, b, h1, h2, h3, h4, h5⟩ := tab_ok hfn
        refine ⟨h3, fun ρ w xs hr hV hf => ?_⟩
        obtain ⟨l0, e0, rfl⟩ := dropPriv_ok e
        obtain ⟨⟨x, s'⟩, c1, H1, l1, l2, e1, e2, _⟩ := bind_ok e0
        have hC := hbody hfn h5
        obtain ⟨hx, hdl, hres⟩ : isExit x = false ∧ idleAll idle s'.defers = true ∧ M.map one (resA s'.env fn.results) c1 H1 = .ok v c' h' l2 := by
          have e2 : ifB (isExit x) fail (ifB (idleAll idle s'.defers) (M.map one (resA s'.env fn.results)) fail) c1 H1 = .ok v c' h' l2 := e2
          cases q1 : isExit x with
          | true => rw [q1] at e2; cases e2
          | false =>
            rw [q1, ifB_false] at e2
            cases q2 : idleAll idle s'.defers with
            | false => rw [q2] at e2; cases e2
            | true => rw [q2, ifB_true] at e2; exact ⟨rfl, rfl, e2⟩
        have hle : c1 ≤ c' := (Lo.map (resA_lo _ _) c1 H1 v c' h' l2 hres).le
        have hle0 : c ≤ c1 := (hC.1 _ c h _ c1 H1 l1 e1).le
        refine calls_of_wp_defers h1 h2 ?_
        refine hC.2 _ x s' c c1 h H1 l1 e1 ρ w _ hr (enter_env hV g.ntmps) (fun m k1 k2 => hf m k1 (Nat.lt_of_lt_of_le k2 hle)) _ fun a' w' ρ' hS' hp' => ?_
        have hL : Leaves P g a'.tmps (fun e w'' => ∃ v' ρ', e = .returned v' ∧ VR ρ' v v' ∧ Post ρ h w c c' ρ' h' w'') a'.defers .returning w' := leaves_ok hid s'.defers a'.defers hdl hS'.defers w' fun w2 hb => by
          have hp2 := Post.of_below (c := c1) hp'.rel hb
          obtain ⟨rfl, rfl, v', k1, k2⟩ := results_run h4 hS'.env hres hp2.rel
          exact ⟨v', k1, v', ρ', rfl, k2, hp'.trans hp2 hle0 (Nat.le_refl _)⟩
        cases x with
        | normal => exact hL
        | ret => exact hL
        | exit i => cases hx
    · rw [hstep]
      refine Lo.ifB (same1_lo args) ?_
      cases hfn : tab P f with
      | none => exact Lo.fail
      | some fn =>
        obtain ⟨g, b, h1, h2, h3, h4, h5⟩ := tab_ok hfn
        exact Lo.dropPriv (Lo.bind ((hbody hfn h5).1 _) fun r => hleave _ r)
end
end Go.Sx
