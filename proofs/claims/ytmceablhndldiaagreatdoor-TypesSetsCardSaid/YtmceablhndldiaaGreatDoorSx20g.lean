import Derived.Test.YtmceablhndldiaaGreatDoorSx20f
import Derived.Test.YtmceablhndldiaaGreatDoorSx21
namespace Go.Sx
open Go.RowKit

section
variable {P : Program} {ops : Array Oper} {call : Ctx} {n : Nat} {ps : List (Nat × Nat)} {st : Nat → St} {ct : Nat → Nat} {hp : Nat → H} {lg : Nat → Log}
/-- a region's run in the text's order -/
structure Run (P : Program) (ops : Array Oper) (call : Ctx) (n : Nat) (ps : List (Nat × Nat)) (st : Nat → St) (ct : Nat → Nat) (hp : Nat → H) (lg : Nat → Log) : Prop where
  calls : CallOk P call
  lo : CtxLo call
  pairs : pairsOf ops = some ps
  step : ∀ j o, ops[j]? = some o → step2 call (st j) (cIt P n ops o) (ct j) (hp j) = .ok (st (j + 1)) (ct (j + 1)) (hp (j + 1)) (lg j)
  ok : ∀ p ∈ ps, p.1 < ops.size → p.2 < ops.size → apartR (ct p.1, ct (p.1 + 1), lg p.1) (ct p.2, ct (p.2 + 1), lg p.2) = true
/-- does the operation at j write the temporary? -/
def Dst (ops : Array Oper) (t j : Nat) : Prop := ∃ o, ops[j]? = some o ∧ o.dst = some t
theorem Run.lo_at (R : Run P ops call n ps st ct hp lg) {j : Nat} (hj : j < ops.size) : LoAt (step1 call (st j) (cIt P n ops ops[j])) (ct j) (hp j) (st (j + 1)) (ct (j + 1)) (hp (j + 1)) (lg j) :=
  cIt_lo R.lo n ops[j] (st j) _ _ _ _ _ _ (step2_of (R.step j _ (Array.getElem?_eq_getElem hj)))
theorem Run.le (R : Run P ops call n ps st ct hp lg) : ∀ j, j < ops.size → ct j ≤ ct (j + 1) := fun _ hj => (R.lo_at hj).le
theorem Run.low (R : Run P ops call n ps st ct hp lg) : ∀ j, j < ops.size → ∀ q ∈ lg j, q.1 < ct (j + 1) := fun _ hj => (R.lo_at hj).low
theorem Run.stay (R : Run P ops call n ps st ct hp lg) : ∀ i, i < ops.size → ∀ m x, ¬ WriC (lg i) (ct i) (ct (i + 1)) m x → vw (hp (i + 1)) m x = vw (hp i) m x := fun _ hj => (R.lo_at hj).stay
theorem Run.put (R : Run P ops call n ps st ct hp lg) {j : Nat} {o : Oper} (ho : ops[j]? = some o) : ∃ v, st (j + 1) = putE o.dst v (st j) := by
  have e := R.step j o ho
  obtain ⟨q, f, h1, h2, h3⟩ := cIt_val e
  rw [h1] at e
  obtain ⟨v, h4, _⟩ := stepV_at (show stepV o.dst q f call (st j) _ _ = _ from e) (s2 := st j) rfl rfl
  exact ⟨v, h4⟩
theorem Run.same (R : Run P ops call n ps st ct hp lg) {j t : Nat} (hj : j < ops.size) (hw : ¬ Dst ops t j) : (st (j + 1)).env.get t = (st j).env.get t := by
  obtain ⟨v, h⟩ := R.put (Array.getElem?_eq_getElem hj)
  rw [h, putE_get, if_neg fun e => hw ⟨_, Array.getElem?_eq_getElem hj, e⟩]
theorem Run.defers (R : Run P ops call n ps st ct hp lg) : ∀ {j : Nat}, j ≤ ops.size → (st j).defers = (st 0).defers
  | 0, _ => rfl
  | j + 1, h => by
    obtain ⟨v, e⟩ := R.put (Array.getElem?_eq_getElem (show j < ops.size from h))
    rw [e, putE_defers]
    exact R.defers (by omega)
/-- the state behind a set of listed operations -/
structure At (ops : Array Oper) (st : Nat → St) (ct : Nat → Nat) (hp : Nat → H) (lg : Nat → Log) (ρ0 : Ren) (h0 : H) (w0 : World) (n : Nat) (S : Nat → Prop) (ρ : Ren) (g : H) (s : St) (a : Act) (w : World) : Prop where
  state : StR ρ n s a
  post : Post ρ0 h0 w0 (ct 0) (ct ops.size) ρ g w
  free : ∀ j, j < ops.size → ¬ S j → Free ρ (ct j) (ct (j + 1))
  heap : ∀ m x, vw g m x = atS (fun k => vw (hp k) m x) (fun k => WriC (lg k) (ct k) (ct (k + 1)) m x) S ops.size
  env : ∀ t, s.env.get t = atS (fun k => (st k).env.get t) (Dst ops t) S ops.size
  defers : s.defers = (st 0).defers
theorem at_step (R : Run P ops call n ps st ct hp lg) {ρ0 : Ren} {h0 : H} {w0 : World} {S : Nat → Prop} {ρ : Ren} {g : H} {s : St} {a : Act} {w : World} (A : At ops st ct hp lg ρ0 h0 w0 n S ρ g s a w)
    (hS : Closed ops S) {j : Nat} (hj : j < ops.size) (hSj : ¬ S j) (hSj' : Closed ops fun k => S k ∨ k = j) {Q : Exit → Act → World → Prop} {K : Act → World → Prop}
    (hk : ∀ ρ' g' s' a' w', At ops st ct hp lg ρ0 h0 w0 n (fun k => S k ∨ k = j) ρ' g' s' a' w' → K a' w') : wpOp P ops Q j K a w := by
  have ho : ops[j]? = some ops[j] := Array.getElem?_eq_getElem hj
  generalize hoj : ops[j] = oj at ho
  have e := R.step j oj ho
  obtain ⟨q, f, k1, k2, k3⟩ := cIt_val e
  -- the operands read what they read in the text's order
  have hbeh : ∀ t, (t ∈ oj.looksAt ops ∨ oj.dst = some t) → ∀ k, j < k → k < ops.size → S k → ¬ Dst ops t k := fun t ht k h1 h2 h3 ⟨ok, h4, h5⟩ => by
    rcases pairsOf_spec R.pairs h1 h2 with hc | ⟨_, oi', oj', m1, m2, m3⟩
    · exact hSj (hc S hS h3)
    · rw [ho] at m1
      rw [h4] at m2
      cases m1
      cases m2
      obtain ⟨p1, p2, p3⟩ := Oper.apart_spec m3
      rcases ht with ht | ht
      · exact p3 t h5 ht
      · exact p2 t ht h5
  have hagree : ∀ t ∈ oj.looksAt ops, (st j).env.get t = s.env.get t := fun t ht => by
    rw [A.env t, atS_behind (j := j) (Nat.le_of_lt hj) fun k h1 h2 h3 => ?_, atS_read (fun i hi hw => R.same (by omega) hw) fun i hi hi2 => ?_]
    · rintro ⟨oi, h4, h5⟩
      rcases pairsOf_spec R.pairs hi hj with hc | ⟨_, oi', oj', m1, m2, m3⟩
      · rcases hc _ hSj' (.inr rfl) with h | h
        · exact hi2 h
        · omega
      · rw [h4] at m1
        rw [ho] at m2
        cases m1
        cases m2
        exact (Oper.apart_spec m3).1 t h5 ht
    · rcases Nat.lt_or_ge j k with hlt | hge
      · exact hbeh t (.inl ht) k hlt h2 h3
      · exact absurd (show S j by rw [show j = k by omega]; exact h3) hSj
  -- the heap
  have L : LoAt (step1 call (st j) (cIt P n ops oj)) (ct j) (hp j) (st (j + 1)) (ct (j + 1)) (hp (j + 1)) (lg j) := by
    have := R.lo_at hj
    rw [hoj] at this
    exact this
  obtain ⟨g', h1, h2⟩ := heap_step hj hSj L R.stay (fun m x ht => ready_apart R.pairs rfl R.le R.low R.ok hS hj hSj hSj' ht) A.heap
  rw [k1] at h1
  obtain ⟨v, h3, h4⟩ := stepV_at (s2 := s) (show stepV oj.dst q f call (st j) _ _ = _ from h1) (k2 _ _ hagree) (k3 _ _ hagree)
  have e1 : step1 call s (cIt P n ops oj) (ct j) g = .ok (putE oj.dst v s) (ct (j + 1)) g' (lg j) := by rw [k1]; exact h4
  refine step1_ok ho R.calls e1 A.post.rel A.state (A.free j hj hSj) fun a' w' ρ' hS' hp' => hk ρ' g' _ a' w' ⟨hS', A.post.wide hp' (ct_mono R.le (Nat.zero_le _) (Nat.le_of_lt hj)) (ct_mono R.le hj (Nat.le_refl _)), fun k hk hSk => ?_, h2, fun t => ?_, ?_⟩
  · have hne : k ≠ j := fun e => hSk (.inr e)
    have hf := A.free k hk fun h => hSk (.inl h)
    intro m m1 m2
    rw [hp'.ext m ?_]
    · exact hf m m1 m2
    · rintro ⟨m3, m4⟩
      rcases Nat.lt_or_ge k j with hlt | hge
      · have := ct_mono R.le (show k + 1 ≤ j from hlt) (Nat.le_of_lt hj)
        omega
      · have := ct_mono R.le (show j + 1 ≤ k by omega) (Nat.le_of_lt hk)
        omega
  · rw [putE_get]
    by_cases hd : oj.dst = some t
    · rw [if_pos hd, atS_wrote hj ⟨oj, ho, hd⟩ (hbeh t (.inr hd)), h3, putE_get, if_pos hd]
    · rw [if_neg hd, atS_put (W := Dst ops t), A.env t]
      rintro ⟨o, h5, h6⟩
      rw [ho] at h5
      cases h5
      exact hd h6
  · rw [putE_defers]
    exact A.defers
theorem at_end (R : Run P ops call n ps st ct hp lg) {ρ0 : Ren} {h0 : H} {w0 : World} {S : Nat → Prop} {ρ : Ren} {g : H} {s : St} {a : Act} {w : World} (A : At ops st ct hp lg ρ0 h0 w0 n S ρ g s a w) (hS : ∀ j, j < ops.size → S j) :
    StR ρ n (st ops.size) a ∧ Post ρ0 h0 w0 (ct 0) (ct ops.size) ρ (hp ops.size) w := by
  refine ⟨A.state.of_get (fun t => ?_) (A.defers.trans (R.defers (Nat.le_refl _)).symm), A.post.of_get fun m => vw_ext fun x => ?_⟩
  · rw [A.env t]
    exact atS_all (fun j hj hw => R.same hj hw) hS
  · rw [A.heap m x]
    exact atS_all (val := fun k => vw (hp k) m x) (W := fun k => WriC (lg k) (ct k) (ct (k + 1)) m x) (fun j hj hw => R.stay j hj m x hw) hS
theorem draw_key (R : Run P ops call n ps st ct hp lg) {ρ0 : Ren} {h0 : H} {w0 : World} {Q : Exit → Act → World → Prop} (hQ : ∀ a w ρ, StR ρ n (st ops.size) a → Post ρ0 h0 w0 (ct 0) (ct ops.size) ρ (hp ops.size) w → Q .normal a w) :
    ∀ (fuel : Nat) (listed : Array Bool), listed.size = ops.size → uns listed ops.size ≤ fuel → Closed ops (fun k => listed.getD k false = true) → ∀ ρ g s a w, At ops st ct hp lg ρ0 h0 w0 n (fun k => listed.getD k false = true) ρ g s a w → wpAny P .any ops Q fuel listed a w := by
  have done : ∀ (listed : Array Bool), listed.size = ops.size → Region.ready .any ops listed = [] → ∀ ρ g s a w, At ops st ct hp lg ρ0 h0 w0 n (fun k => listed.getD k false = true) ρ g s a w → Q .normal a w := fun listed hs hr ρ g s a w A => by
    obtain ⟨h1, h2⟩ := at_end R A (ready_nil R.pairs hr hs)
    exact hQ a w ρ h1 h2
  intro fuel
  induction fuel with
  | zero =>
    intro listed hs hu hc ρ g s a w A
    have hr : Region.ready .any ops listed = [] := by
      cases h : Region.ready .any ops listed with
      | nil => rfl
      | cons j l =>
        have hj : j ∈ Region.ready .any ops listed := h ▸ List.mem_cons_self
        obtain ⟨h0, o, ho, _⟩ := mem_ready.1 hj
        have := uns_zero (Nat.le_zero.1 hu) j (Array.getElem?_eq_some_iff.1 ho).1
        rw [this] at h0
        cases h0
    exact ⟨hr, done listed hs hr ρ g s a w A⟩
  | succ fuel ih =>
    intro listed hs hu hc ρ g s a w A
    refine ⟨fun hr => done listed hs hr ρ g s a w A, fun j hj => ?_⟩
    obtain ⟨h0, o, ho, hall⟩ := mem_ready.1 hj
    have hlt : j < ops.size := (Array.getElem?_eq_some_iff.1 ho).1
    have hS : ¬ listed.getD j false = true := fun h => by
      rw [Array.getD_eq_getD_getElem?, Array.getElem?_eq_getElem (by omega)] at h0 h
      simp at h0 h
      rw [h0] at h
      cases h
    have hfun : (fun k => (listed.setIfInBounds j true).getD k false = true) = fun k => listed.getD k false = true ∨ k = j := funext fun k => propext (by
      by_cases hk : k = j
      · subst hk
        have : (listed.setIfInBounds k true).getD k false = true := by simp [hs, hlt]
        simp only [this, true_iff]
        exact .inr trivial
      · rw [getD_set_ne false (Ne.symm hk)]
        exact ⟨.inl, fun h => h.resolve_right hk⟩)
    have hc' : Closed ops fun k => listed.getD k false = true ∨ k = j := fun k ok h1 h2 e he hb => by
      rcases h2 with h2 | rfl
      · exact .inl (hc k ok h1 h2 e he hb)
      · rw [ho] at h1
        cases h1
        exact .inl (hall e (by simpa using he) hb)
    refine at_step R A hc hlt hS hc' fun ρ' g' s' a' w' A' => ih _ (by simpa using hs) ?_ (by rw [hfun]; exact hc') ρ' g' s' a' w' (by rw [hfun]; exact A')
    have := (uns_set h0 (by omega) (N := ops.size)).1 hlt
    omega
theorem getD_rep {m k : Nat} : ¬ (Array.replicate m false).getD k false = true := by
  rw [Array.getD_eq_getD_getElem?]
  cases hh : (Array.replicate m false)[k]? with
  | none => simp
  | some v =>
    obtain ⟨_, hv⟩ := Array.getElem?_eq_some_iff.1 hh
    rw [Array.getElem_replicate] at hv
    subst hv
    simp
theorem mapL_get {α β : Type} {f : α → β} : ∀ {l : List α} {j : Nat}, (mapL f l)[j]? = (l[j]?).map f
  | [], j => by simp [mapL]
  | a :: l, 0 => rfl
  | a :: l, j + 1 => by
    show (f a :: mapL f l)[j + 1]? = _
    simpa using mapL_get (l := l) (j := j)
theorem mapL_len {α β : Type} {f : α → β} : ∀ {l : List α}, (mapL f l).length = l.length
  | [] => rfl
  | a :: l => by
    show (f a :: mapL f l).length = _
    simp [mapL_len (l := l)]
theorem cIt_lo2 (hc : CtxLo call) (o : Oper) (s : St) : Lo (step2 call s (cIt P n ops o)) := by
  unfold cIt
  cases dstOk n o.dst with
  | false => exact Lo.fail
  | true =>
    cases cDefer o.op with
    | some q =>
      cases o.guard with
      | some g => exact Lo.fail
      | none => exact Lo.fail
    | none =>
      cases guardO ops o.guard with
      | none => exact Lo.fail
      | some g =>
        refine stepV_lo fun e => ?_
        cases hq : cOp P o.op with
        | none => exact Lo.fail
        | some f => exact (cOp_lo hq).lo call hc e
/-- a run, with its log told -/
noncomputable def tellM {α : Type} (m : M α) : M ((Nat × Nat × Log) × α) := fun c h => Rs.rec (motive := fun _ => Rs ((Nat × Nat × Log) × α)) .fail (fun a c1 h1 l => .ok ((c, c1, l), a) c1 h1 l) (m c h)
theorem Lo.tellM {α : Type} {m : M α} (hm : Lo m) : Lo (tellM m) := by
  intro c h a c' h' l e
  have e : Rs.rec (motive := fun _ => Rs ((Nat × Nat × Log) × α)) .fail (fun a c1 h1 l => .ok ((c, c1, l), a) c1 h1 l) (m c h) = Rs.ok a c' h' l := e
  cases q : m c h with
  | fail => rw [q] at e; cases e
  | ok a1 c1 h1 l1 =>
    rw [q] at e
    cases e
    obtain ⟨p1, p3, p4, p5⟩ := hm c h a1 c' h' l q
    refine ⟨p1, p3, p4, fun g hg => ?_⟩
    obtain ⟨g', k1, k2, k3⟩ := p5 g hg
    refine ⟨g', ?_, k2, k3⟩
    show Rs.rec (motive := fun _ => Rs ((Nat × Nat × Log) × α)) .fail (fun a c1 h1 l => .ok ((c, c1, l), a) c1 h1 l) (m c g) = _
    rw [k1]
theorem evOpsD_cons (i : It) (is : List It) (s : St) : evOpsD call (i :: is) s = M.bind (tellM (step2 call s i)) fun r => M.map (fun q => (r.1 :: q.1, q.2)) (evOpsD call is r.2) := by
  funext c h
  show Rs.rec (motive := fun _ => Rs (List (Nat × Nat × Log) × St)) .fail (fun s1 c1 h1 f1 => Rs.rec (motive := fun _ => Rs (List (Nat × Nat × Log) × St)) .fail (fun r c2 h2 f2 => .ok ((c, c1, f1) :: r.1, r.2) c2 h2 (List.append f1 f2)) (evOpsD call is s1 c1 h1)) (step2 call s i c h)
    = Rs.andThen (fun r => M.map (fun q => (r.1 :: q.1, q.2)) (evOpsD call is r.2)) (Rs.rec (motive := fun _ => Rs ((Nat × Nat × Log) × St)) .fail (fun a c1 h1 l => .ok ((c, c1, l), a) c1 h1 l) (step2 call s i c h))
  cases step2 call s i c h with
  | fail => rfl
  | ok s1 c1 h1 f1 =>
    show Rs.rec (motive := fun _ => Rs (List (Nat × Nat × Log) × St)) .fail (fun r c2 h2 f2 => .ok ((c, c1, f1) :: r.1, r.2) c2 h2 (List.append f1 f2)) (evOpsD call is s1 c1 h1)
      = Rs.rec (motive := fun _ => Rs (List (Nat × Nat × Log) × St)) .fail (fun b c h l2 => .ok b c h (List.append f1 l2)) (Rs.rec (motive := fun _ => Rs (List (Nat × Nat × Log) × St)) .fail (fun q c2 h2 l2 => .ok ((c, c1, f1) :: q.1, q.2) c2 h2 l2) (evOpsD call is s1 c1 h1))
    cases evOpsD call is s1 c1 h1 <;> rfl
theorem evOpsD_lo (hc : CtxLo call) : ∀ (os : List Oper) (s : St), Lo (evOpsD call (mapL (cIt P n ops) os) s)
  | [], s => Lo.pure _
  | o :: os, s => by
    have : evOpsD call (mapL (cIt P n ops) (o :: os)) s = _ := evOpsD_cons (cIt P n ops o) (mapL (cIt P n ops) os) s
    rw [this]
    exact Lo.bind (Lo.tellM (cIt_lo2 hc o s)) fun r => Lo.map (evOpsD_lo hc os r.2)
theorem draw_ok : DrawOk P := by
  intro call hcall hlo n id ops ps hm hps
  refine ⟨fun s => Lo.bind (evOpsD_lo hlo _ s) fun r => Lo.ifB (Lo.pure _) Lo.fail, fun s x s' c c' h h' l e ρ w a hr hS hf Q hk => ?_⟩
  obtain ⟨r, c1, h1, l1, l2, e1, e2, _⟩ := bind_ok (show M.bind (evOpsD call (mapL (cIt P n ops) ops.toList) s) (fun r => ifB (okPairs r.1 ps) (M.pure (X.normal, r.2)) fail) c h = _ from e)
  obtain ⟨hok, e2⟩ := ifB_ok e2
  obtain ⟨hx, rfl, rfl, _⟩ := pure_ok e2
  cases hx
  obtain ⟨st, ct, hp, lg, k1, k2, k3, k4, k5, k6, k7, k8⟩ := evOpsD_run _ _ _ _ _ _ _ _ e1
  rw [mapL_len, Array.length_toList] at k5 k6 k7 k8
  have R : Run P ops call n ps st ct hp lg := ⟨hcall, hlo, hps, fun j o ho => k1 j _ (by rw [mapL_get]; simp [ho]), fun p hp h1 h2 => by
    have := okPairs_spec hok p hp
    rw [k8 _ h1, k8 _ h2] at this
    exact this⟩
  have hc : Closed ops (fun k => (Array.replicate ops.size false).getD k false = true) := fun k o _ h => absurd h getD_rep
  refine wp_region_any hm ?_
  refine draw_key R (ρ0 := ρ) (h0 := h) (w0 := w) (fun a' w' ρ' h1 h2 => ?_) ops.size _ (by simp) uns_le hc ρ h s a _ ⟨hS, ?_, fun j hj _ => ?_, fun m x => ?_, fun t => ?_, ?_⟩
  · rw [k5] at h1
    rw [k3, k6, k7] at h2
    exact hk a' w' ρ' h1 h2
  · rw [k3, k6]
    exact ⟨hr.drew _, fun _ _ => rfl, rfl, rfl, rfl, Nat.le_refl _, fun _ _ _ => rfl, fun n o b s h1 h2 _ => ⟨n, o, s, h1, h2⟩⟩
  · intro m h1 h2
    have a1 := ct_mono R.le (Nat.zero_le j) (Nat.le_of_lt hj)
    have a2 := ct_mono R.le (show j + 1 ≤ ops.size from hj) (Nat.le_refl _)
    exact hf m (by omega) (by omega)
  · rw [atS_none fun j _ h => absurd h getD_rep, k4]
  · rw [atS_none fun j _ h => absurd h getD_rep, k2]
  · rw [k2]
end
end Go.Sx
