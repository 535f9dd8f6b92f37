/-
  Texts joined, what is not needed here left out: ParseBackZ ParseErr.
-/
import Derived.Test.YtoajfnfhphoaeaaGreatDoorKc02
import Derived.Test.YtoajfnfhphoaeaaGreatDoorKc03
namespace Go.Proofs.YtoajfnfhphoaeaaGreatDoor
/-- parts one behind the other, told by what each is -/
theorem rep_ok {X : Type} {B : List Tok → Bool} {E : List Tok → Pr X} {T : X → List Tx} {Q : Tok → Prop} {t : Tok} {r : List Tok} (hB : B (t :: r) = false) (hQt : Q t) : ∀ (l : List X) (g : Nat) (acc : List X) (ps : List Tok),
    (∀ x ∈ l, ∀ ps t r, Begs (T x) ps (t :: r) → ∃ v q, ps = v :: q ∧ Q v ∧ B ps = true) →
    (∀ x ∈ l, ∀ ps t r, Q t → Begs (T x) ps (t :: r) → E ps = some (.ok x (t :: r))) → l.length < g → Begs (l.flatMap T) ps (t :: r) → repeatP B E g acc ps = some (.ok (acc ++ l) (t :: r))
  | [], g, acc, ps, _, _, hg, h => by
    obtain ⟨g, rfl⟩ : ∃ k, g = k + 1 := ⟨g - 1, by simp at hg; omega⟩
    rw [List.flatMap_nil, Begs] at h
    subst h
    rw [repeatP, if_neg (by simp), if_neg (by rw [hB]; decide), List.append_nil]
  | y :: m, g, acc, ps, hh, hE, hg, h => by
    obtain ⟨g, rfl⟩ : ∃ k, g = k + 1 := ⟨g - 1, by simp at hg; omega⟩
    rw [List.flatMap_cons] at h
    obtain ⟨q2, h1, h2⟩ := begs_app h
    have hq2 : ∃ t2 r2, q2 = t2 :: r2 ∧ Q t2 := by
      cases m with
      | nil => rw [List.flatMap_nil, Begs] at h2; exact ⟨t, r, h2, hQt⟩
      | cons z m =>
        rw [List.flatMap_cons] at h2; obtain ⟨q3, h3, h4⟩ := begs_app h2; have hq3 : ∃ t3 r3, q3 = t3 :: r3 := by
          have := begs_ne h4 (by simp); exact List.exists_cons_of_ne_nil this
        obtain ⟨t3, r3, rfl⟩ := hq3; obtain ⟨v, q, e, hv, _⟩ := hh z (by simp) q2 t3 r3 h3; exact ⟨v, q, e, hv⟩
    obtain ⟨t2, r2, rfl, hQ2⟩ := hq2; obtain ⟨v, q, e, _, hb⟩ := hh y (by simp) ps t2 r2 h1; rw [repeatP, if_neg (by rw [e]; simp), if_pos hb, hE y (by simp) ps t2 r2 hQ2 h1, bindP_ok, rep_ok hB hQt m g (acc ++ [y]) _ (fun x hx => hh x (by simp [hx])) (fun x hx => hE x (by simp [hx])) (by simp at hg; omega) h2]; simp
theorem repeated_ok {X : Type} {B : List Tok → Bool} {E : List Tok → Pr X} {T : X → List Tx} {Q : Tok → Prop} {t : Tok} {r : List Tok} (hB : B (t :: r) = false) (hQt : Q t) {l : List X} {ps : List Tok}
    (hh : ∀ x ∈ l, ∀ ps t r, Begs (T x) ps (t :: r) → ∃ v q, ps = v :: q ∧ Q v ∧ B ps = true) (hT : ∀ x ∈ l, T x ≠ [])
    (hE : ∀ x ∈ l, ∀ ps t r, Q t → Begs (T x) ps (t :: r) → E ps = some (.ok x (t :: r))) (h : Begs (l.flatMap T) ps (t :: r)) : repeatedP B E ps = some (.ok l (t :: r)) := by
  have hlen := begs_len h; have hm : l.length ≤ (l.flatMap T).length := by
    clear h hE hh hlen; induction l with
    | nil => simp
    | cons z m ih =>
      have := List.length_pos_iff.2 (hT z (by simp)); have := ih fun x hx => hT x (by simp [hx]); simp only [List.flatMap_cons, List.length_append, List.length_cons]; omega
  rw [repeatedP, rep_ok hB hQt l _ [] ps hh hE (by omega) h]; rfl
/- What may be, but for how many parts. -/
def GoodE (x : Ex) : Prop := Good x ∧ dN x ≤ 50
structure GoodEq (q : QEq) : Prop where
  ne : q.names ≠ []
  nm : ∀ x ∈ q.names, nameM false x = true
  e : GoodE q.e
structure GoodWay (y : QWay) : Prop where
  e : GoodE y.cond
  to : conM false y.to = true
structure GoodState (s : QState) : Prop where
  nm : conM false s.name = true
  eqs : ∀ q ∈ s.eqs, GoodEq q
  ways : ∀ y ∈ s.ways, GoodWay y
def GoodItem (i : QItem) : Prop := (i.states = [] ∧ GoodEq i.eq) ∨ (i.states ≠ [] ∧ i.eq = ⟨[], .mk 0 [] 0 [] []⟩ ∧ ∀ s ∈ i.states, GoodState s)
structure GoodNode (n : QNode) : Prop where
  nm : nameM false n.name = true
  funs : ∀ x ∈ n.funs, nameM false x = true
  ine : n.ins ≠ []
  ins : ∀ x ∈ n.ins, nameM false x = true
  one : n.outs ≠ []
  outs : ∀ x ∈ n.outs, nameM false x = true
  items : ∀ i ∈ n.items, GoodItem i
structure GoodEnum (e : QEnum) : Prop where
  nm : nameM false e.name = true
  ne : e.cons ≠ []
  cons : ∀ c ∈ e.cons, conM false c = true
structure GoodP (p : QProg) : Prop where
  enums : ∀ e ∈ p.enums, GoodEnum e
  nodes : ∀ n ∈ p.nodes, GoodNode n
/-- enough fuel for these expressions -/
def Enough (f : Nat) (x : Ex) : Prop := dN x ≤ 50 ∧ OpG f x
theorem enough {f : Nat} {x : Ex} (h : Enough f x) {ps : List Tok} {t : Tok} {r : List Tok} (ht : Stop t) (hb : Begs (toksX x) ps (t :: r)) : opX f 1 ps 0 = some (.ok x (t :: r)) :=
  h.2 1 0 ps t r (Nat.le_refl _) (by omega) (by have := h.1; omega) ht.calm (ht.weak (Nat.le_refl _)) hb
def stXs (s : QState) : List Ex := s.eqs.map QEq.e ++ s.ways.map QWay.cond
def itXs (i : QItem) : List Ex := if i.states = [] then [i.eq.e] else i.states.flatMap stXs
def ndXs (n : QNode) : List Ex := n.items.flatMap itXs
def pgXs (p : QProg) : List Ex := p.nodes.flatMap ndXs
section
variable {f : Nat}
theorem eqT_def (q : QEq) : (∃ x, q.names = [x] ∧ eqT q = x :: eqSign :: (toksX q.e ++ [semiT])) ∨ eqT q = openT :: (namesT commaT q.names ++ [shutT]) ++ eqSign :: (toksX q.e ++ [semiT]) := by
  unfold eqT; split
  · rename_i x hx; exact .inl ⟨x, hx, rfl⟩
  · exact .inr rfl
theorem eq_begin {q : QEq} (h : GoodEq q) {ps r : List Tok} (hb : Begs (eqT q) ps r) : ∃ v k, ps = v :: k ∧ atEqP ps = true := by
  rcases eqT_def _ with ⟨x, hx, e⟩ | e
  · rw [e] at hb; obtain ⟨v, k, rfl, hv, _⟩ := hb; exact ⟨v, k, rfl, by simp [atEqP, hv.2.1, psort_name (h.nm x (by rw [hx]; simp))]⟩
  · rw [e] at hb; obtain ⟨v, k, rfl, hv, _⟩ := hb; exact ⟨v, k, rfl, by simp [atEqP, hv.1]⟩
theorem equation_ok {q : QEq} (h : GoodEq q) (hf : Enough f q.e) {ps : List Tok} {t : Tok} {r : List Tok} (hb : Begs (eqT q) ps (t :: r)) : equationP (fun ts => opX f 1 ts 0) ps = some (.ok q (t :: r)) := by
  have hD : ∃ m, definedP ps = some (.ok q.names m) ∧ Begs (eqSign :: (toksX q.e ++ [semiT])) m (t :: r) := by
    rcases eqT_def _ with ⟨x, hx, e⟩ | e
    · rw [e] at hb; have hn := h.nm x (by rw [hx]; simp); have hno : x ≠ openT := by
        rintro rfl; have := psort_name hn; have h4 : tokSort openT = 4 := (by decide +kernel); omega
      obtain ⟨m, e1, h1⟩ := name_ok hn hb (by simp); exact ⟨m, by rw [definedP, at_ok hb, if_neg (by simpa using hno), e1, bindP_ok, hx], h1⟩
    · rw [e] at hb; obtain ⟨m, h1, h2⟩ := begs_app hb; have hm := begs_ne h2 (by simp); refine ⟨m, ?_, h2⟩; rw [definedP, at_ok (s := openT) h1, if_pos (by decide)]; exact enclosed_ok (fun q' c hc hb => names_ok rfl h.ne h.nm (by rw [hc.1]; decide) hb) h1 hm
  obtain ⟨m, e1, h1⟩ := hD; obtain ⟨m2, e2, h2⟩ := want_ok h1 (by simp); obtain ⟨m3, h3, h4⟩ := begs_app h2; obtain ⟨m4, e4, h5⟩ := want_ok h4 (by simp); obtain ⟨c, rfl, hc⟩ := begs_one h4; rw [Begs] at h5; rw [equationP, e1, bindP_ok, e2, bindP_ok, enough hf (stop_of (by decide) hc.1) h3, bindP_ok, e4, bindP_ok, h5]
theorem way_okP {y : QWay} (h : GoodWay y) (hf : Enough f y.cond) {ps : List Tok} {t : Tok} {r : List Tok} (hb : Begs (wayT y) ps (t :: r)) : wayP (fun ts => opX f 1 ts 0) ps = some (.ok y (t :: r)) := by
  rw [show wayT y = untilT :: (toksX y.cond ++ [thenT, y.to, semiT]) from rfl] at hb; obtain ⟨m1, e1, h1⟩ := want_ok hb (by simp); obtain ⟨m2, h2, h3⟩ := begs_app h1; obtain ⟨m3, e3, h4⟩ := want_ok h3 (by simp); obtain ⟨c, m2, rfl, hc, _⟩ := h3; obtain ⟨m4, e4, h5⟩ := con_ok h.to h4 (by simp); obtain ⟨m5, e5, h6⟩ := want_ok h5 (by simp); rw [Begs] at h6; rw [wayP, e1, bindP_ok, enough hf (stop_of (by decide) hc.1) h2, bindP_ok, e3, bindP_ok, e4, bindP_ok, e5, bindP_ok, h6]
theorem eqT_ne (q : QEq) : eqT q ≠ [] := by
  unfold eqT; split <;> simp
/-- behind a state -/
def AftS (t : Tok) : Prop := atEqP [t] = false ∧ t.text ≠ untilT
theorem atEq_head (t : Tok) (r : List Tok) : atEqP (t :: r) = atEqP [t] := rfl
theorem word_noEq {s : Tx} (h : tokSort s ≠ 1 ∧ s ≠ openT) {t : Tok} (ht : IsT s t) : atEqP [t] = false := by simp [atEqP, ht.1, ht.2.1, h.1, h.2]
theorem state_okP {s : QState} (h : GoodState s) (hf : ∀ x ∈ stXs s, Enough f x) {ps : List Tok} {t : Tok} {r : List Tok} (hQ : AftS t) (hb : Begs (stateT s) ps (t :: r)) : stateP (fun ts => opX f 1 ts 0) ps = some (.ok s (t :: r)) := by
  rw [show stateT s = stateW :: s.name :: colonT :: (s.eqs.flatMap eqT ++ s.ways.flatMap wayT) from rfl] at hb; obtain ⟨m1, e1, h1⟩ := want_ok hb (by simp); obtain ⟨m2, e2, h2⟩ := con_ok h.nm h1 (by simp); obtain ⟨m3, e3, h3⟩ := want_ok h2 (by simp); obtain ⟨m4, h4, h5⟩ := begs_app h3; have hw : ∃ v q, m4 = v :: q ∧ atEqP [v] = false := by
    cases hwl : s.ways with
    | nil => rw [hwl, List.flatMap_nil, Begs] at h5; exact ⟨t, r, h5, hQ.1⟩
    | cons y l =>
      rw [hwl, List.flatMap_cons] at h5; obtain ⟨q3, h6, _⟩ := begs_app h5; obtain ⟨v, q, e, hv, _⟩ := h6; exact ⟨v, q, e, word_noEq (by decide +kernel) hv⟩
  obtain ⟨v, q, rfl, hv⟩ := hw; have R1 : repeatedP atEqP (equationP (fun ts => opX f 1 ts 0)) m3 = some (.ok s.eqs (v :: q)) :=
    repeated_ok (Q := fun _ => True) (T := eqT) (by rw [atEq_head, hv]) trivial (fun x hx ps t r hb => by obtain ⟨v, k, e, ha⟩ := eq_begin (h.eqs x hx) hb; exact ⟨v, k, e, trivial, ha⟩) (fun x _ => eqT_ne x)
      (fun x hx ps t r _ hb => equation_ok (h.eqs x hx) (hf x.e (by unfold stXs; exact List.mem_append.2 (.inl (List.mem_map_of_mem hx)))) hb) h4
  have R2 : repeatedP (atP untilT) (wayP (fun ts => opX f 1 ts 0)) (v :: q) = some (.ok s.ways (t :: r)) :=
    repeated_ok (Q := fun _ => True) (T := wayT) (by simpa [atP] using hQ.2) trivial (fun x hx ps t r hb => by
        obtain ⟨v, k, e, hv, _⟩ := hb; exact ⟨v, k, e, trivial, by rw [e, atP, hv.1]; decide⟩) (fun x _ => by simp [wayT])
      (fun x hx ps t r _ hb => way_okP (h.ways x hx) (hf x.cond (by unfold stXs; exact List.mem_append.2 (.inr (List.mem_map_of_mem hx)))) hb) h5
  rw [stateP, e1, bindP_ok, e2, bindP_ok, e3, bindP_ok, R1, bindP_ok, R2, bindP_ok]
theorem state_head {s : QState} {ps r : List Tok} (hb : Begs (stateT s) ps r) : ∃ v q, ps = v :: q ∧ IsT stateW v := by
  obtain ⟨v, q, e, hv, _⟩ := hb; exact ⟨v, q, e, hv⟩
theorem automaton_ok {l : List QState} (h0 : l ≠ []) (h : ∀ s ∈ l, GoodState s) (hf : ∀ x ∈ l.flatMap stXs, Enough f x) {ps : List Tok} {t : Tok} {r : List Tok} (hb : Begs (autoT :: (l.flatMap stateT ++ [endW, semiT])) ps (t :: r)) : automatonP (fun ts => opX f 1 ts 0) ps = some (.ok l (t :: r)) := by
  obtain ⟨s, m, rfl⟩ := List.exists_cons_of_ne_nil h0; have hS : ∀ u : Tok, IsT stateW u → AftS u := fun u hu => ⟨word_noEq (by decide +kernel) hu, by rw [hu.1]; decide⟩; have hE : ∀ u : Tok, IsT endW u → AftS u := fun u hu => ⟨word_noEq (by decide +kernel) hu, by rw [hu.1]; decide⟩; obtain ⟨m1, e1, h1⟩ := want_ok hb (by simp); rw [List.flatMap_cons, List.append_assoc] at h1; obtain ⟨m2, h2, h3⟩ := begs_app h1; obtain ⟨m3, h4, h5⟩ := begs_app h3; obtain ⟨m4, e5, h6⟩ := want_ok h5 (by simp); obtain ⟨c, m3, rfl, hc, _⟩ := h5; have hq2 : ∃ v q, m2 = v :: q ∧ AftS v := by
    cases m with
    | nil => rw [List.flatMap_nil, Begs] at h4; exact ⟨c, m3, h4, hE c hc⟩
    | cons z m =>
      rw [List.flatMap_cons] at h4; obtain ⟨q3, h6, _⟩ := begs_app h4; obtain ⟨v, q, e, hv⟩ := state_head h6; exact ⟨v, q, e, hS v hv⟩
  obtain ⟨v, q, rfl, hv⟩ := hq2; have R : repeatedP (atP stateW) (stateP (fun ts => opX f 1 ts 0)) (v :: q) = some (.ok m (c :: m3)) :=
    repeated_ok (Q := AftS) (T := stateT) (by rw [atP, hc.1]; decide) (hE c hc) (fun x hx ps t r hb => by
        obtain ⟨v, k, e, hv⟩ := state_head hb; exact ⟨v, k, e, hS v hv, by rw [e, atP, hv.1]; decide⟩) (fun x _ => by simp [stateT])
      (fun x hx ps t r hQ hb => state_okP (h x (by simp [hx])) (fun y hy => hf y (by rw [List.flatMap_cons]; exact List.mem_append.2 (.inr (List.mem_flatMap.2 ⟨x, hx, hy⟩)))) hQ hb) h4
  obtain ⟨m5, e6, h7⟩ := want_ok h6 (by simp); rw [Begs] at h7; rw [automatonP, e1, bindP_ok, state_okP (h s (by simp)) (fun y hy => hf y (by rw [List.flatMap_cons]; exact List.mem_append.2 (.inl hy))) hv h2, bindP_ok, R, bindP_ok, e5, bindP_ok, e6, bindP_ok, h7]
theorem item_begin {i : QItem} (h : GoodItem i) {ps : List Tok} {t : Tok} {r : List Tok} (hb : Begs (itemT i) ps (t :: r)) : ∃ v q, ps = v :: q ∧ atItemP ps = true := by
  unfold itemT at hb; rcases h with ⟨h0, h⟩ | ⟨h0, _, h⟩
  · rw [if_pos h0] at hb; obtain ⟨v, k, e, ha⟩ := eq_begin h hb; exact ⟨v, k, e, by rw [atItemP, ha, Bool.or_true]⟩
  · rw [if_neg h0] at hb; obtain ⟨v, k, e, hv, _⟩ := hb; exact ⟨v, k, e, by rw [atItemP, e, atP, hv.1]; simp [autoT]⟩
theorem item_okP {i : QItem} (h : GoodItem i) (hf : ∀ x ∈ itXs i, Enough f x) {ps : List Tok} {t : Tok} {r : List Tok} (hb : Begs (itemT i) ps (t :: r)) : itemP (fun ts => opX f 1 ts 0) ps = some (.ok i (t :: r)) := by
  obtain ⟨q, ss⟩ := i; unfold itemT at hb; unfold itXs at hf; rcases h with ⟨h0, h⟩ | ⟨h0, hq, h⟩
  · simp only at h0 h hb hf; rw [if_pos h0] at hb hf; have hat : atP autoT ps = false := by
      rcases eqT_def _ with ⟨x, hx, e⟩ | e
      · rw [e] at hb; obtain ⟨v, k, rfl, hv, _⟩ := hb; have hn := psort_name (h.nm x (by rw [hx]; simp)); have h5 : tokSort autoT = 5 := (by decide +kernel); simp only [atP, hv.1, decide_eq_false_iff_not]; rintro rfl; omega
      · rw [e] at hb; obtain ⟨v, k, rfl, hv, _⟩ := hb; simp [atP, hv.1, autoT, openT]
    rw [itemP, hat, if_neg (by decide), equation_ok h (hf _ (by simp)) hb, bindP_ok, h0]
  · simp only at h0 hq h hb hf; rw [if_neg h0] at hb hf; rw [itemP, at_ok (s := autoT) hb, if_pos (by decide), automaton_ok h0 h hf hb, bindP_ok, hq]
theorem itemT_ne (i : QItem) : itemT i ≠ [] := by
  unfold itemT; split
  · exact eqT_ne _
  · simp
theorem node_okP {n : QNode} (h : GoodNode n) (hf : ∀ x ∈ ndXs n, Enough f x) {ps : List Tok} {t : Tok} {r : List Tok} (hb : Begs (nodeT n) ps (t :: r)) : nodeP (fun ts => opX f 1 ts 0) ps = some (.ok n (t :: r)) := by
  rw [show nodeT n = nodeW :: n.name :: (staticsT n.funs ++ openT :: (namesT commaT n.ins ++ shutT :: eqSign :: openT :: (namesT commaT n.outs ++ shutT :: whereT :: (n.items.flatMap itemT ++ [endW])))) from rfl] at hb; obtain ⟨m1, e1, h1⟩ := want_ok hb (by simp); obtain ⟨m2, e2, h2⟩ := name_ok h.nm h1 (by simp); obtain ⟨m3, e3, h3⟩ := statics_ok h.funs (by decide) h2 (by simp); rw [show openT :: (namesT commaT n.ins ++ shutT :: eqSign :: openT :: (namesT commaT n.outs ++ shutT :: whereT :: (n.items.flatMap itemT ++ [endW]))) = (openT :: (namesT commaT n.ins ++ [shutT])) ++ eqSign :: ((openT :: (namesT commaT n.outs ++ [shutT])) ++ whereT :: (n.items.flatMap itemT ++ [endW])) by simp] at h3; obtain ⟨m4, h4, h5⟩ := begs_app h3; have e4 : enclosedP openT namesP shutT m3 = some (.ok n.ins m4) := enclosed_ok (fun q' c hc hb => names_ok rfl h.ine h.ins (by rw [hc.1]; decide) hb) h4 (begs_ne h5 (by simp)); obtain ⟨m5, e5, h6⟩ := want_ok h5 (by simp); obtain ⟨m6, h7, h8⟩ := begs_app h6; have e6 : enclosedP openT namesP shutT m5 = some (.ok n.outs m6) := enclosed_ok (fun q' c hc hb => names_ok rfl h.one h.outs (by rw [hc.1]; decide) hb) h7 (begs_ne h8 (by simp)); obtain ⟨m7, e7, h9⟩ := want_ok h8 (by simp); obtain ⟨m8, h10, h11⟩ := begs_app h9; obtain ⟨m9, e9, h12⟩ := want_ok h11 (by simp); obtain ⟨c, rfl, hc⟩ := begs_one h11; rw [Begs] at h12; have R : repeatedP atItemP (itemP (fun ts => opX f 1 ts 0)) m7 = some (.ok n.items (c :: t :: r)) :=
    repeated_ok (Q := fun _ => True) (T := itemT) (by rw [atItemP, atEq_head, word_noEq (by decide +kernel) hc, atP, hc.1]; decide) trivial (fun x hx ps t r hb => by
        obtain ⟨v, k, e, ha⟩ := item_begin (h.items x hx) hb; exact ⟨v, k, e, trivial, ha⟩) (fun x _ => itemT_ne x)
      (fun x hx ps t r _ hb => item_okP (h.items x hx) (fun y hy => hf y (by unfold ndXs; exact List.mem_flatMap.2 ⟨x, hx, hy⟩)) hb) h10
  rw [nodeP, e1, bindP_ok, e2, bindP_ok, e3, bindP_ok, e4, bindP_ok, e5, bindP_ok, e6, bindP_ok, e7, bindP_ok, R, bindP_ok, e9, bindP_ok, h12]
theorem enum_okP {e : QEnum} (h : GoodEnum e) {ps : List Tok} {t : Tok} {r : List Tok} (hb : Begs (enumT e) ps (t :: r)) : enumP ps = some (.ok e (t :: r)) := by
  rw [show enumT e = typeW :: e.name :: eqSign :: (namesT barT e.cons ++ [semiT]) from rfl] at hb; obtain ⟨m1, e1, h1⟩ := want_ok hb (by simp); obtain ⟨m2, e2, h2⟩ := name_ok h.nm h1 (by simp); obtain ⟨m3, e3, h3⟩ := want_ok h2 (by simp); obtain ⟨m4, h4, h5⟩ := begs_app h3; obtain ⟨m5, e5, h6⟩ := want_ok h5 (by simp); obtain ⟨c, rfl, hc⟩ := begs_one h5; rw [Begs] at h6; have R : separatedP barT conP m3 = some (.ok e.cons (c :: t :: r)) := by
    refine separated_ok (Q := fun _ => True) (T := fun x => [x]) (fun _ _ => trivial) (by rw [hc.1]; decide) trivial h.ne (fun x hx ps t r _ h' => ?_) h4; obtain ⟨q, h1, h2⟩ := con_ok (h.cons x hx) h' (by simp); rw [Begs] at h2; rw [h1, h2]
  rw [enumP, e1, bindP_ok, e2, bindP_ok, e3, bindP_ok, R, bindP_ok, e5, bindP_ok, h6]
theorem nodes_okP {t : Tok} {r : List Tok} (h1 : t.text ≠ typeW) (h2 : t.text ≠ nodeW) (es : List QEnum) : ∀ (l : List QNode) (g : Nat) (acc : List QNode) (ps : List Tok), (∀ n ∈ l, GoodNode n) → (∀ x ∈ l.flatMap ndXs, Enough f x) → l.length < g → Begs (l.flatMap nodeT) ps (t :: r) → programF (fun ts => opX f 1 ts 0) g es acc ps = some (.ok ⟨es, acc ++ l⟩ (t :: r))
  | [], g, acc, ps, _, _, hg, h => by
    obtain ⟨g, rfl⟩ : ∃ k, g = k + 1 := ⟨g - 1, by simp at hg; omega⟩
    rw [List.flatMap_nil, Begs] at h
    subst h
    rw [programF, if_neg (by simp), if_neg (by simpa [atP] using h1), if_neg (by simpa [atP] using h2), List.append_nil]
  | n :: l, g, acc, ps, hn, hf, hg, h => by
    obtain ⟨g, rfl⟩ : ∃ k, g = k + 1 := ⟨g - 1, by simp at hg; omega⟩
    rw [List.flatMap_cons] at h hf
    obtain ⟨m, h3, h4⟩ := begs_app h
    have hm := begs_ne h4 (by simp)
    obtain ⟨v, q, rfl⟩ := List.exists_cons_of_ne_nil hm
    have h3' := h3
    obtain ⟨u, k, rfl, hu, _⟩ := h3'
    rw [programF, if_neg (by simp), if_neg (by rw [atP, hu.1]; decide), if_pos (by rw [atP, hu.1]; decide), node_okP (hn n (by simp)) (fun x hx => hf x (List.mem_append.2 (.inl hx))) h3, bindP_ok,
      nodes_okP h1 h2 es l g (acc ++ [n]) (v :: q) (fun y hy => hn y (by simp [hy])) (fun x hx => hf x (List.mem_append.2 (.inr hx))) (by simp at hg; omega) h4]
    simp
theorem enums_okP {t : Tok} {r : List Tok} (h1 : t.text ≠ typeW) (h2 : t.text ≠ nodeW) {ns : List QNode} (hns : ∀ n ∈ ns, GoodNode n) (hf : ∀ x ∈ ns.flatMap ndXs, Enough f x) : ∀ (l : List QEnum) (g : Nat) (acc : List QEnum) (ps : List Tok), (∀ n ∈ l, GoodEnum n) → l.length + ns.length < g → Begs (l.flatMap enumT ++ ns.flatMap nodeT) ps (t :: r) → programF (fun ts => opX f 1 ts 0) g acc [] ps = some (.ok ⟨acc ++ l, ns⟩ (t :: r))
  | [], g, acc, ps, _, hg, h => by
    rw [List.flatMap_nil, List.nil_append] at h
    rw [nodes_okP h1 h2 acc ns g [] ps hns hf (by simp at hg; omega) h]
    simp
  | n :: l, g, acc, ps, hn, hg, h => by
    obtain ⟨g, rfl⟩ : ∃ k, g = k + 1 := ⟨g - 1, by simp at hg; omega⟩
    rw [List.flatMap_cons, List.append_assoc] at h
    obtain ⟨m, h3, h4⟩ := begs_app h
    have hm := begs_ne h4 (by simp)
    obtain ⟨v, q, rfl⟩ := List.exists_cons_of_ne_nil hm
    have h3' := h3
    obtain ⟨u, k, rfl, hu, _⟩ := h3'
    rw [programF, if_neg (by simp), if_pos (by rw [atP, hu.1]; decide), enum_okP (hn n (by simp)) h3, bindP_ok,
      enums_okP h1 h2 hns hf l g (acc ++ [n]) (v :: q) (fun y hy => hn y (by simp [hy])) (by simp at hg; omega) h4]
    simp
end
/-- all expressions of a list, at once -/
theorem enough_ev {l : List Ex} (h : ∀ x ∈ l, GoodE x) : Ev fun f => ∀ x ∈ l, Enough f x :=
  Ev.all fun x hx => (op_ev (h x hx).1).mono fun _ g => ⟨(h x hx).2, g⟩
theorem GoodState.all {s : QState} (h : GoodState s) : ∀ x ∈ stXs s, GoodE x := fun x hx => by
  rcases List.mem_append.1 hx with hx | hx
  · obtain ⟨q, hq, rfl⟩ := List.mem_map.1 hx; exact (h.eqs q hq).e
  · obtain ⟨y, hy, rfl⟩ := List.mem_map.1 hx; exact (h.ways y hy).e
theorem GoodItem.all {i : QItem} (h : GoodItem i) : ∀ x ∈ itXs i, GoodE x := fun x hx => by
  unfold itXs at hx
  rcases h with ⟨h0, h⟩ | ⟨h0, _, h⟩
  · rw [if_pos h0] at hx
    obtain rfl := List.mem_singleton.1 hx
    exact h.e
  · rw [if_neg h0] at hx
    obtain ⟨s, hs, hx⟩ := List.mem_flatMap.1 hx
    exact (h s hs).all x hx
theorem GoodP.all {p : QProg} (h : GoodP p) : ∀ x ∈ pgXs p, GoodE x := fun x hx => by
  obtain ⟨n, hn, hx⟩ := List.mem_flatMap.1 hx
  obtain ⟨i, hi, hx⟩ := List.mem_flatMap.1 hx
  exact ((h.nodes n hn).items i hi).all x hx
/-- the end of all tokens -/
def IsEnd (t : Tok) : Prop := t.text = [] ∧ t.sort = 6
theorem flat_len {X : Type} {T : X → List Tx} (hT : ∀ x, T x ≠ []) : ∀ l : List X, l.length ≤ (l.flatMap T).length
  | [] => by simp
  | x :: l => by
    have := List.length_pos_iff.2 (hT x)
    have := flat_len hT l
    simp only [List.flatMap_cons, List.length_append, List.length_cons]
    omega
/-- a program's tokens are parsed as it -/
theorem back_prog {p : QProg} (h : GoodP p) {ps : List Tok} {e : Tok} (he : IsEnd e) (hb : Begs (progT p) ps [e]) : ∃ f, wholeP (programP fun ts => opX f 1 ts 0) ps = some (.ok p [e]) := by
  obtain ⟨F, hF⟩ := enough_ev h.all; refine ⟨F, ?_⟩; have hlen := begs_len hb; have l1 := flat_len (T := enumT) (fun x => by simp [enumT]) p.enums; have l2 := flat_len (T := nodeT) (fun x => by simp [nodeT]) p.nodes; have hpl : (progT p).length = (p.enums.flatMap enumT).length + (p.nodes.flatMap nodeT).length := (by rw [progT, List.length_append]); rw [wholeP, programP, enums_okP (f := F) (by rw [he.1]; decide) (by rw [he.1]; decide) h.nodes (hF F (Nat.le_refl _)) p.enums _ [] ps h.enums (by omega) hb, bindP_ok]; simp only [he.2, if_true]; rfl
/- What may be is good. -/
theorem right_goodEq {q : QEq} (h : rightEq false q = true) (hb : bndX q.e) (hd : dN q.e ≤ 50) : GoodEq q := by
  simp only [rightEq, Bool.and_eq_true] at h; exact ⟨by intro e; rw [e] at h; simp [allM] at h, allM_mem h.1, right_good _ h.2 hb, hd⟩
theorem right_goodWay {y : QWay} (h : rightWay false y = true) (hb : bndX y.cond) (hd : dN y.cond ≤ 50) : GoodWay y := by
  simp only [rightWay, Bool.and_eq_true] at h; exact ⟨⟨right_good _ h.2 hb, hd⟩, h.1⟩
theorem right_goodState {s : QState} (h : rightState false s = true) (hb : bndState s) (hd : ∀ x ∈ stXs s, dN x ≤ 50) : GoodState s := by
  simp only [rightState, Bool.and_eq_true] at h; exact ⟨h.1, fun q hq => right_goodEq (allM_mem h.2.1 q hq) (hb.1 q hq) (hd _ (List.mem_append.2 (.inl (List.mem_map_of_mem hq)))), fun y hy => right_goodWay (allM_mem h.2.2 y hy) (hb.2 y hy) (hd _ (List.mem_append.2 (.inr (List.mem_map_of_mem hy))))⟩
theorem right_goodItem {i : QItem} (h : rightItem false i = true) (hb : bndItem i) (hd : ∀ x ∈ itXs i, dN x ≤ 50) : GoodItem i := by
  unfold rightItem at h; unfold itXs at hd; by_cases h0 : i.states = []
  · rw [if_pos h0] at h hd; exact .inl ⟨h0, right_goodEq h hb.1 (hd _ (by simp))⟩
  · rw [if_neg h0] at h hd; simp only [Bool.and_eq_true] at h; obtain ⟨h1, h2, h3⟩ := h; refine .inr ⟨h0, ?_, fun s hs => right_goodState (allM_mem h3 s hs) (hb.2 s hs) fun x hx => hd x (List.mem_flatMap.2 ⟨s, hs, hx⟩)⟩; have e1 : i.eq.names = [] := (by simpa using h1); have e2 : i.eq.e = noneX := (sameX_iff _ _).1 h2; obtain ⟨⟨l, x⟩, ss⟩ := i; simp only at e1 e2; rw [e1, e2]; rfl
theorem right_goodP {p : QProg} (h : rightP false p = true) (hb : bndP p) (hd : ∀ x ∈ pgXs p, dN x ≤ 50) : GoodP p := by
  simp only [rightP, Bool.and_eq_true] at h; refine ⟨fun e he => ?_, fun n hn => ?_⟩
  · have := allM_mem h.1 e he; simp only [rightEnum, Bool.and_eq_true] at this; exact ⟨this.1, by intro e0; rw [e0] at this; simp [allM] at this, allM_mem this.2⟩
  · have g := allM_mem h.2 n hn; simp only [rightNode, Bool.and_eq_true] at g; obtain ⟨g0, g1, g2, g3, g4⟩ := g; exact ⟨g0, allM_mem g1, by intro e0; rw [e0] at g2; simp [allM] at g2, allM_mem g2, by intro e0; rw [e0] at g3; simp [allM] at g3, allM_mem g3, fun i hi => right_goodItem (allM_mem g4 i hi) (hb n hn i hi) fun x hx => hd x (List.mem_flatMap.2 ⟨n, hn, List.mem_flatMap.2 ⟨i, hi, hx⟩⟩)⟩
end Go.Proofs.YtoajfnfhphoaeaaGreatDoor

namespace Go.Proofs.YtoajfnfhphoaeaaGreatDoor
def ErrP {X : Type} (P : List Tok → Pr X) : Prop := ∀ ts f, P ts = some (.bad f) → f.1 ≠ 0
section
variable {X Y : Type} {P : List Tok → Pr X}
theorem ErrP.ok {x : X} : ErrP fun ts => some (.ok x ts) := fun _ _ h => by cases h
theorem ErrP.bind {K : X → List Tok → Pr Y} (h : ErrP P) (hk : ∀ x, ErrP (K x)) : ErrP fun ts => bindP (P ts) K := fun ts f e => by
  rcases bindP_some e with ⟨g, e1, e2⟩ | ⟨x, r, _, e2⟩
  · cases e2; exact h ts _ e1
  · exact hk x r f e2
theorem ErrP.guard {c : List Tok → Prop} [∀ ts, Decidable (c ts)] (h : ErrP P) : ErrP fun ts => if c ts then none else P ts := fun ts f e => by
  replace e : (if c ts then none else P ts) = _ := e
  split at e
  · cases e
  · exact h ts f e
theorem ErrP.ite {c : List Tok → Prop} [∀ ts, Decidable (c ts)] {Q : List Tok → Pr X} (h : ErrP P) (hq : ErrP Q) : ErrP fun ts => if c ts then P ts else Q ts := fun ts f e => by
  replace e : (if c ts then P ts else Q ts) = _ := e
  split at e
  · exact h ts f e
  · exact hq ts f e
end
theorem want_err (s : Tx) : ErrP (wantP s) := fun ts f h => by
  cases ts with
  | nil => cases h
  | cons t r =>
    rw [wantP] at h
    split at h
    · split at h <;> cases h
    · cases h; simp [faultT]
theorem text_err (k : Int) : ErrP (textP k) := fun ts f h => by
  cases ts with
  | nil => cases h
  | cons t r =>
    rw [textP] at h
    split at h
    · split at h <;> cases h
    · cases h; simp [faultT]
section
variable {X : Type} {E : List Tok → Pr X} (hE : ErrP E)
include hE
theorem sepP_err (s : Tx) : ∀ g acc, ErrP (sepP s E g acc) := by
  intro g; induction g with
  | zero => intro acc ts f h; cases h
  | succ g ih =>
    intro acc ts f h; cases ts with
    | nil => rw [sepP] at h; cases h
    | cons t r =>
      rw [sepP] at h; split at h
      · split at h
        · cases h
        · exact (hE.bind fun x => ih (acc ++ [x])) r f h
      · cases h
theorem separated_err (s : Tx) : ErrP (separatedP s E) := fun ts f h => (hE.bind fun x => sepP_err hE s (ts.length + 1) [x]) ts f h
theorem repeatP_err (B : List Tok → Bool) : ∀ g acc, ErrP (repeatP B E g acc) := by
  intro g; induction g with
  | zero => intro acc ts f h; cases h
  | succ g ih =>
    intro acc ts f h; rw [repeatP] at h; split at h
    · cases h
    · split at h
      · exact (hE.bind fun x => ih (acc ++ [x])) ts f h
      · cases h
theorem repeated_err (B : List Tok → Bool) : ErrP (repeatedP B E) := fun ts f h => repeatP_err hE B _ _ ts f h
theorem enclosed_err (l r : Tx) : ErrP (enclosedP l E r) := (want_err l).bind fun _ => hE.bind fun _ => (want_err r).bind fun _ => .ok
end
theorem names_err : ErrP namesP := separated_err (text_err 1) commaT
theorem statics_err : ErrP staticsP := ErrP.guard (ErrP.ite (enclosed_err names_err openB shutB) .ok)
section
variable {E : PrX} (hE : ∀ o, ErrP fun ts => E ts o)
include hE
theorem named_err (o : Nat) : ErrP (namedP E o) := (text_err 1).bind fun _ => ErrP.guard (ErrP.ite .ok (statics_err.bind fun _ => (enclosed_err (separated_err (hE o) commaT) openT shutT).bind fun _ => .ok))
theorem arm_err (o : Nat) : ErrP (armP E o) := (text_err 2).bind fun _ => (want_err arrowT).bind fun _ => (hE o).bind fun _ => .ok
theorem choices_err (op : Int) (o : Nat) : ErrP (choicesP E op o) := (text_err 1).bind fun _ => (enclosed_err (separated_err (arm_err hE o) barT) openT shutT).bind fun _ => .ok
theorem atom_err (o : Nat) : ErrP (atomP E o) := fun ts f h => by
  cases ts with
  | nil => cases h
  | cons t r =>
    unfold atomP at h
    dsimp only at h
    split at h
    · split at h <;> cases h
    split at h
    · exact ((text_err 2).bind fun _ => .ok) _ f h
    split at h
    · exact named_err hE o _ f h
    split at h
    · split at h <;> cases h
    split at h
    · split at h <;> cases h
    split at h
    · split at h
      · cases h
      · exact choices_err hE 12 o _ f h
    split at h
    · split at h
      · cases h
      · exact choices_err hE 13 o _ f h
    split at h
    · exact enclosed_err (hE o) openT shutT _ f h
    · cases h; simp [faultT]
theorem choice_err (o : Nat) : ErrP (choiceP E o) := (want_err ifT).bind fun _ => (hE o).bind fun _ => (want_err thenT).bind fun _ => (hE o).bind fun _ => (want_err elseT).bind fun _ => (hE o).bind fun _ => .ok
end
theorem when_err : ∀ g e, ErrP (whenP g e) := by
  intro g; induction g with
  | zero => intro e ts f h; cases h
  | succ g ih =>
    intro e ts f h; cases ts with
    | nil => rw [whenP] at h; cases h
    | cons t r =>
      rw [whenP] at h; split at h
      · split at h
        · cases h
        · exact ((text_err 2).bind fun c => (enclosed_err (text_err 1) openT shutT).bind fun x => ih (.mk 11 x 0 [c] [e])) r f h
      · cases h
section
variable {U E : PrX} (hU : ∀ o, ErrP fun ts => U ts o) (hE : ∀ o, ErrP fun ts => E ts o)
include hU hE
theorem sampled_err (o : Nat) : ErrP (sampledP U E o) := (atom_err hE o).bind fun e ts f h => by
  split at h
  · split at h
    · cases h
    · exact ((hU o).bind fun k ts f h => when_err _ _ ts f h) _ f h
  · exact when_err _ _ ts f h
theorem prefixed_err (o : Nat) : ErrP (prefixedP U E o) := fun ts f h => by
  cases ts with
  | nil => cases h
  | cons t r =>
    unfold prefixedP at h
    dsimp only at h
    split at h
    · split at h
      · cases h
      · exact ((hU o).bind fun k => .ok) _ f h
    split at h
    · split at h
      · cases h
      · exact ((hU o).bind fun k => .ok) _ f h
    split at h
    · split at h
      · cases h
      · exact ((hU o).bind fun k => .ok) _ f h
    split at h
    · exact choice_err hE o _ f h
    · exact sampled_err hU hE o _ f h
end
theorem all_err : ∀ f : Nat, (∀ s o, ErrP fun ts => opX f s ts o) ∧ (∀ s e o, ErrP fun ts => loopX f s e ts o) ∧ ∀ o, ErrP fun ts => unX f ts o := by
  intro n; induction n with
  | zero =>
    refine ⟨fun s o ts f h => ?_, fun s e o ts f h => ?_, fun o ts f h => ?_⟩
    · replace h : opX 0 s ts o = _ := h; rw [opX] at h; cases h
    · replace h : loopX 0 s e ts o = _ := h; rw [loopX] at h; cases h
    · replace h : unX 0 ts o = _ := h; rw [unX] at h; cases h
  | succ n ih =>
    obtain ⟨i1, i2, i3⟩ := ih; refine ⟨fun s o ts f h => ?_, fun s e o ts f h => ?_, fun o ts f h => ?_⟩
    · replace h : opX (n + 1) s ts o = _ := h; rw [opX] at h; split at h
      · exact i3 o ts f h
      · exact ((i1 (s + 1) o).bind fun e => i2 s e o) ts f h
    · replace h : loopX (n + 1) s e ts o = _ := h; cases ts with
      | nil => rw [loopX] at h; cases h
      | cons t r =>
        rw [loopX] at h; split at h
        · split at h
          · cases h
          · split at h
            · exact ((i1 s o).bind fun e => .ok) r f h
            · split at h
              · exact ((i1 (s + 1) o).bind fun e => .ok) r f h
              · exact ((i1 (s + 1) o).bind fun x => i2 s _ o) r f h
        · cases h
    · replace h : unX (n + 1) ts o = _ := h; cases ts with
      | nil => rw [unX] at h; cases h
      | cons t r =>
        rw [unX] at h; split at h
        · cases h; simp [faultT]
        · exact prefixed_err i3 (i1 1) (o + 1) _ f h
theorem enum_err : ErrP enumP := (want_err typeW).bind fun _ => (text_err 1).bind fun _ => (want_err eqSign).bind fun _ => (separated_err (text_err 2) barT).bind fun _ => (want_err semiT).bind fun _ => .ok
section
variable {E : List Tok → Pr Ex} (hE : ErrP E)
include hE
theorem equation_err : ErrP (equationP E) := (ErrP.ite (enclosed_err names_err openT shutT) ((text_err 1).bind fun _ => .ok) : ErrP definedP).bind fun _ => (want_err eqSign).bind fun _ => hE.bind fun _ => (want_err semiT).bind fun _ => .ok
theorem way_err : ErrP (wayP E) := (want_err untilT).bind fun _ => hE.bind fun _ => (want_err thenT).bind fun _ => (text_err 2).bind fun _ => (want_err semiT).bind fun _ => .ok
theorem state_err : ErrP (stateP E) := (want_err stateW).bind fun _ => (text_err 2).bind fun _ => (want_err colonT).bind fun _ => (repeated_err (equation_err hE) _).bind fun _ => (repeated_err (way_err hE) _).bind fun _ => .ok
theorem automaton_err : ErrP (automatonP E) := (want_err autoT).bind fun _ => (state_err hE).bind fun _ => (repeated_err (state_err hE) _).bind fun _ => (want_err endW).bind fun _ => (want_err semiT).bind fun _ => .ok
theorem item_err : ErrP (itemP E) := ErrP.ite ((automaton_err hE).bind fun _ => .ok) ((equation_err hE).bind fun _ => .ok)
theorem node_err : ErrP (nodeP E) := (want_err nodeW).bind fun _ => (text_err 1).bind fun _ => statics_err.bind fun _ => (enclosed_err names_err openT shutT).bind fun _ => (want_err eqSign).bind fun _ => (enclosed_err names_err openT shutT).bind fun _ => (want_err whereT).bind fun _ => (repeated_err (item_err hE) _).bind fun _ => (want_err endW).bind fun _ => .ok
theorem programF_err : ∀ g es ns, ErrP (programF E g es ns) := by
  intro g; induction g with
  | zero => intro es ns ts f h; cases h
  | succ g ih =>
    intro es ns ts f h; rw [programF] at h; split at h
    · cases h
    · split at h
      · exact (enum_err.bind fun e => ih (es ++ [e]) ns) ts f h
      · split at h
        · exact ((node_err hE).bind fun n => ih es (ns ++ [n])) ts f h
        · cases h
end
theorem wholeP_err {X : Type} {E : List Tok → Pr X} (hE : ErrP E) : ErrP (wholeP E) := hE.bind fun x ts f h => by
  cases ts with
  | nil => cases h
  | cons t r =>
    replace h : (if t.sort = 6 then some (Out.ok x (t :: r)) else some (.bad (faultT 3 t))) = some (.bad f) := h
    split at h
    · cases h
    · cases h; simp [faultT]
theorem progO_err {ts : List Tok} {f : Flt} (he : Ended ts) (h : progO ts = .bad f) : f.1 ≠ 0 := by
  obtain ⟨n, hn⟩ := progO_some he; rw [h] at hn; exact wholeP_err (fun ts f h => programF_err ((all_err n).1 1 0) _ _ _ ts f h) ts f hn
theorem exprO_err {ts : List Tok} {f : Flt} (he : Ended ts) (h : exprO ts = .bad f) : f.1 ≠ 0 := by
  obtain ⟨n, hn⟩ := exprO_some he; rw [h] at hn; exact wholeP_err ((all_err n).1 1 0) ts f hn
end Go.Proofs.YtoajfnfhphoaeaaGreatDoor
