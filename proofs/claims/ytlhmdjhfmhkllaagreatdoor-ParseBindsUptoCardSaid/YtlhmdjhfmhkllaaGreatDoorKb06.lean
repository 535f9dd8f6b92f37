/-
  Texts joined.
-/
import Derived.Test.YtlhmdjhfmhkllaaGreatDoorKb05
namespace Go.Proofs.YtlhmdjhfmhkllaaGreatDoor
/-- at least a token is passed -/
def Eats {X : Type} (P : List Tok → Pr X) : Prop := ∀ ts x q, ts ≠ [] → GoodL ts → P ts = some (.ok x q) → q.length < ts.length
section
variable {X Y : Type} {b b1 b2 : Bool} {w w1 : X → Nat} {G G1 : X → Prop} {P : List Tok → Pr X} {E : List Tok → Pr X}
theorem LocP.eats {w2 : Y → Nat} {G2 : Y → Prop} {K : X → List Tok → Pr Y} (h : LocP true w1 G1 P) (hk : ∀ x, G1 x → LocP b2 (fun y => w2 y - w1 x) G2 (K x)) : Eats fun ts => bindP (P ts) K := by
  intro ts y q hne hg hp; rcases bindP_some hp with ⟨f, _, e⟩ | ⟨x, ts1, e1, e2⟩
  · cases e
  obtain ⟨u1, rfl, n1, c1, l1, g1, m1⟩ := h ts x ts1 hne hg e1; obtain ⟨u2, rfl, n2, c2, l2, g2, m2⟩ := hk x g1 ts1 y q n1 hg.right e2; have := List.length_pos_iff.2 (c1 rfl); simp only [List.length_append]; omega
theorem rep_loc2 {B : List Tok → Bool} (hB : ∀ q q', HeadL q q' → B q' = B q) (hE : LocP false w G E) (hx : Eats E) : ∀ g acc ts l q, ts ≠ [] → GoodL ts → repeatP B E g acc ts = some (.ok l q) →
    ∃ u xs, l = acc ++ xs ∧ ts = u ++ q ∧ q ≠ [] ∧ (xs.map w).sum ≤ 3 * u.length ∧ (∀ x ∈ xs, G x) ∧ ∀ g' u' q', u.length < g' → AlikeL u u' → q' ≠ [] → HeadL q q' → repeatP B E g' acc (u' ++ q') = some (.ok l q') := by
  intro g; induction g with
  | zero => intro acc ts l q _ _ h; cases h
  | succ g ih =>
    intro acc ts l q hne hg h; rw [repeatP, if_neg hne] at h; split at h
    · rename_i hb; rcases bindP_some h with ⟨_, _, e⟩ | ⟨x, r1, e1, e2⟩
      · cases e
      have hp := hx ts x r1 hne hg e1; obtain ⟨u1, rfl, n1, c1, l1, g1, m1⟩ := hE ts x r1 hne hg e1; obtain ⟨u2, xs, rfl, rfl, n2, l2, g2, m2⟩ := ih (acc ++ [x]) r1 l q n1 hg.right e2; have hp1 : 0 < u1.length := (by simp only [List.length_append] at hp; omega); have hu1 : u1 ≠ [] := List.length_pos_iff.1 hp1; refine ⟨u1 ++ u2, x :: xs, by simp, by simp, n2, by simp only [List.map_cons, List.sum_cons, List.length_append]; omega, fun y hy => ?_, fun g' u' q' hf ha hq hh => ?_⟩
      · rcases List.mem_cons.1 hy with rfl | hy
        · exact g1
        · exact g2 y hy
      · have hd := head_app ha (fun e => absurd (List.append_eq_nil_iff.1 e).1 hu1) (q := q) (q' := q'); obtain ⟨v1, v2, rfl, a1, a2⟩ := alike_app ha; obtain ⟨g', rfl⟩ : ∃ k, g' = k + 1 := ⟨g' - 1, by omega⟩; rw [List.append_assoc u1] at hd; rw [repeatP, if_neg (by simp [hq]), if_pos (by rw [hB _ _ hd]; exact hb), List.append_assoc, m1 v1 (v2 ++ q') a1 (by simp [hq]) (fun _ => head_app a2 fun _ => hh), bindP_ok]; exact m2 g' v2 q' (by simp only [List.length_append] at hf; omega) a2 hq hh
    · rename_i hb; cases h; refine ⟨[], [], by simp, rfl, hne, by simp, fun _ h => (by cases h), fun g' u' q' hf ha hq hh => ?_⟩; rw [alike_nil ha]; obtain ⟨g', rfl⟩ : ∃ k, g' = k + 1 := ⟨g' - 1, by simp at hf; omega⟩; rw [List.nil_append, repeatP, if_neg hq, if_neg (by rw [hB _ _ hh]; exact hb)]
theorem repeated_loc2 {B : List Tok → Bool} (hB : ∀ q q', HeadL q q' → B q' = B q) (hE : LocP false w G E) (hx : Eats E) : LocP false (fun l => (l.map w).sum) (fun l => ∀ x ∈ l, G x) (repeatedP B E) := by
  intro ts l q hne hg h; obtain ⟨u, xs, e, h1, h2, h3, h4, h5⟩ := rep_loc2 hB hE hx _ [] ts l q hne hg h; rw [List.nil_append] at e; subst e; exact ⟨u, h1, h2, fun e => by (cases e), h3, h4, fun u' q' ha hq hh => h5 _ u' q' (by have := alike_len ha; simp only [List.length_append]; omega) ha hq (hh rfl)⟩
end
theorem fm_len {X : Type} (T : X → List Tx) (l : List X) : (l.flatMap T).length = (l.map fun x => (T x).length).sum := by rw [List.length_flatMap]
/- what comes of tokens -/
def GEq (q : QEq) : Prop := NamesG q.names ∧ GX q.e
def GWay (y : QWay) : Prop := ConG y.to ∧ GX y.cond
def GState (s : QState) : Prop := ConG s.name ∧ (∀ q ∈ s.eqs, GEq q) ∧ ∀ y ∈ s.ways, GWay y
def GItem (i : QItem) : Prop := (i.states = [] ∧ GEq i.eq) ∨ (i.states ≠ [] ∧ i.eq = ⟨[], .mk 0 [] 0 [] []⟩ ∧ ∀ s ∈ i.states, GState s)
def GNode (n : QNode) : Prop := NameG n.name ∧ (∀ x ∈ n.funs, NameG x) ∧ NamesG n.ins ∧ NamesG n.outs ∧ ∀ i ∈ n.items, GItem i
def GEnum (e : QEnum) : Prop := NameG e.name ∧ e.cons ≠ [] ∧ ∀ c ∈ e.cons, ConG c
def GProg (p : QProg) : Prop := (∀ e ∈ p.enums, GEnum e) ∧ ∀ n ∈ p.nodes, GNode n
def definedW (l : List Tx) : Nat := if l.length = 1 then 1 else namesW l + 2
theorem definedP_loc : LocP true definedW NamesG definedP :=
  LocP.ite (at_head openT) ((enclosed_loc names_loc).mono fun l h => ⟨by unfold definedW; split <;> omega, h⟩) (name_loc.map fun x hx => ⟨by simp [definedW, oneW], by simp, fun y hy => by simp at hy; subst hy; exact hx⟩)
theorem eq_len (l : List Tx) (e : Ex) : (eqT ⟨l, e⟩).length = definedW l + lenX e + 2 := by
  rcases l with _ | ⟨x, _ | ⟨y, r⟩⟩
  · simp [eqT, definedW, namesW, lenX, namesT, sepT]; omega
  · simp [eqT, definedW, lenX]; omega
  · simp only [eqT, definedW, lenX, List.length_append, List.length_cons, names_len, List.length_nil]; rw [if_neg (by omega)]; omega
section
variable {E : List Tok → Pr Ex} (hE : LocP false lenX GX E)
include hE
theorem equation_loc : LocP true (fun q => (eqT q).length) GEq (equationP E) :=
  definedP_loc.bind fun l hl => (want_loc eqSign).bind fun _ _ => hE.bind fun e he => (want_loc semiT).map fun _ _ => ⟨by have := eq_len l e; simp only [oneW]; omega, hl, he⟩
theorem way_loc : LocP true (fun y => (wayT y).length) GWay (wayP E) :=
  (want_loc untilT).bind fun _ _ => hE.bind fun e he => (want_loc thenT).bind fun _ _ => con_loc.bind fun c hc => (want_loc semiT).map fun _ _ => ⟨by simp only [wayT, oneW, List.length_cons, List.length_append, List.length_nil, lenX]; omega, hc, he⟩
theorem state_rest : LocP false (fun s => (stateT s).length - oneW ()) GState (fun ts => bindP (conP ts) fun c ts => bindP (wantP colonT ts) fun _ ts => bindP (repeatedP atEqP (equationP E) ts) fun l ts => bindP (repeatedP (atP untilT) (wayP E) ts) fun y ts => some (.ok ⟨c, l, y⟩ ts)) :=
  con_loc.bind fun c hc => (want_loc colonT).bind fun _ _ => (repeated_loc atEq_head' (equation_loc hE)).bind fun l hl => (repeated_loc (at_head untilT) (way_loc hE)).map fun y hy => ⟨by
    simp only [stateT, oneW, List.length_cons, List.length_append, fm_len]; omega, hc, hl, hy⟩
theorem state_loc : LocP false (fun s => (stateT s).length) GState (stateP E) := (want_loc stateW).bind fun _ _ => state_rest hE
theorem state_eats : Eats (stateP E) := (want_loc stateW).eats fun _ _ => state_rest hE
theorem automaton_loc : LocP true (fun l => (l.flatMap stateT).length + 3) (fun l => l ≠ [] ∧ ∀ s ∈ l, GState s) (automatonP E) :=
  (want_loc autoT).bind fun _ _ => (state_loc hE).bind fun s hs => (repeated_loc2 (at_head stateW) (state_loc hE) (state_eats hE)).bind fun l hl => (want_loc endW).bind fun _ _ => (want_loc semiT).map fun _ _ => ⟨by
    simp only [oneW, List.flatMap_cons, List.length_append, fm_len]; omega, by simp, fun x hx => by
      rcases List.mem_cons.1 hx with rfl | hx
      · exact hs
      · exact hl x hx⟩
theorem item_loc : LocP true (fun i => (itemT i).length) GItem (itemP E) :=
  LocP.ite (at_head autoT) ((automaton_loc hE).map fun l hl => ⟨by
    simp only [itemT]; rw [if_neg hl.1]; simp only [List.length_cons, List.length_append, List.length_nil]; omega, .inr ⟨hl.1, rfl, hl.2⟩⟩) ((equation_loc hE).map fun q hq => ⟨by simp [itemT], .inl ⟨rfl, hq⟩⟩)
theorem node_loc : LocP true (fun n => (nodeT n).length) GNode (nodeP E) :=
  (want_loc nodeW).bind fun _ _ => name_loc.bind fun n hn => statics_loc.bind fun fs hfs => (enclosed_loc names_loc).bind fun is his => (want_loc eqSign).bind fun _ _ => (enclosed_loc names_loc).bind fun os hos => (want_loc whereT).bind fun _ _ =>
    (repeated_loc (fun q q' h => by unfold atItemP; rw [at_head autoT q q' h, atEq_head' q q' h]) (item_loc hE)).bind fun l hl => (want_loc endW).map fun _ _ => ⟨by
      simp only [nodeT, oneW, staticsW, List.length_cons, List.length_append, List.length_nil, names_len, fm_len]; omega, hn, hfs, his, hos, hl⟩
end
theorem enum_loc : LocP true (fun e => (enumT e).length) GEnum enumP :=
  (want_loc typeW).bind fun _ _ => name_loc.bind fun n hn => (want_loc eqSign).bind fun _ _ => (separated_loc con_loc.weak).bind fun l hl => (want_loc semiT).map fun _ _ => ⟨by
    have := sumW_one l
    simp only [enumT, oneW, List.length_cons, List.length_append, List.length_nil, names_len, namesW]; omega, hn, hl.1, hl.2⟩
theorem programF_loc {E : List Tok → Pr Ex} (hE : LocP false lenX GX E) : ∀ g es ns ts p q, ts ≠ [] → GoodL ts → programF E g es ns ts = some (.ok p q) →
    ∃ u es' ns', p = ⟨es ++ es', ns ++ ns'⟩ ∧ ts = u ++ q ∧ q ≠ [] ∧ (progT ⟨es', ns'⟩).length ≤ 3 * u.length ∧ GProg ⟨es', ns'⟩ ∧ atP typeW q = false ∧ atP nodeW q = false ∧
      ∀ es0 ns0 u' q' g', AlikeL u u' → q' ≠ [] → u.length ≤ g' → ∃ g2, g' ≤ g2 + u.length ∧ programF E g' es0 ns0 (u' ++ q') = programF E g2 (es0 ++ es') (ns0 ++ ns') q' := by
  intro g; induction g with
  | zero => intro es ns ts p q _ _ h; cases h
  | succ g ih =>
    intro es ns ts p q hne hg h; rw [programF, if_neg hne] at h; split at h
    · rename_i hb; rcases bindP_some h with ⟨_, _, e⟩ | ⟨x, r1, e1, e2⟩
      · cases e
      obtain ⟨u1, rfl, n1, c1, l1, g1, m1⟩ := enum_loc ts x r1 hne hg e1; obtain ⟨u2, es', ns', rfl, rfl, n2, l2, g2, t1, t2, m2⟩ := ih (es ++ [x]) ns r1 p q n1 hg.right e2; have hu1 := c1 rfl; have hp1 := List.length_pos_iff.2 hu1; replace l1 : (enumT x).length ≤ 3 * u1.length := l1; refine ⟨u1 ++ u2, x :: es', ns', by simp, by simp, n2, by simp only [progT, List.flatMap_cons, List.length_append] at l2 ⊢; omega, ⟨fun y hy => ?_, g2.2⟩, t1, t2, fun es0 ns0 u' q' g' ha hq hl => ?_⟩
      · rcases List.mem_cons.1 hy with rfl | hy
        · exact g1
        · exact g2.1 y hy
      · have hd := head_app ha (fun e => absurd (List.append_eq_nil_iff.1 e).1 hu1) (q := q) (q' := q'); obtain ⟨v1, v2, rfl, a1, a2⟩ := alike_app ha; simp only [List.length_append] at hl; obtain ⟨g', rfl⟩ : ∃ k, g' = k + 1 := ⟨g' - 1, by omega⟩; rw [List.append_assoc u1] at hd; obtain ⟨g2, h1, h2⟩ := m2 (es0 ++ [x]) ns0 v2 q' g' a2 hq (by omega); refine ⟨g2, by simp only [List.length_append]; omega, ?_⟩; rw [programF, if_neg (by simp [hq]), if_pos (by rw [at_head typeW _ _ hd]; exact hb), List.append_assoc, m1 v1 (v2 ++ q') a1 (by simp [hq]) (fun e => by cases e), bindP_ok, h2]; simp
    · rename_i hb; split at h
      · rename_i hb2; rcases bindP_some h with ⟨_, _, e⟩ | ⟨x, r1, e1, e2⟩
        · cases e
        obtain ⟨u1, rfl, n1, c1, l1, g1, m1⟩ := node_loc hE ts x r1 hne hg e1; obtain ⟨u2, es', ns', rfl, rfl, n2, l2, g2, t1, t2, m2⟩ := ih es (ns ++ [x]) r1 p q n1 hg.right e2; have hu1 := c1 rfl; have hp1 := List.length_pos_iff.2 hu1; replace l1 : (nodeT x).length ≤ 3 * u1.length := l1; refine ⟨u1 ++ u2, es', x :: ns', by simp, by simp, n2, by simp only [progT, List.flatMap_cons, List.length_append] at l2 ⊢; omega, ⟨g2.1, fun y hy => ?_⟩, t1, t2, fun es0 ns0 u' q' g' ha hq hl => ?_⟩
        · rcases List.mem_cons.1 hy with rfl | hy
          · exact g1
          · exact g2.2 y hy
        · have hd := head_app ha (fun e => absurd (List.append_eq_nil_iff.1 e).1 hu1) (q := q) (q' := q'); obtain ⟨v1, v2, rfl, a1, a2⟩ := alike_app ha; simp only [List.length_append] at hl; obtain ⟨g', rfl⟩ : ∃ k, g' = k + 1 := ⟨g' - 1, by omega⟩; rw [List.append_assoc u1] at hd; obtain ⟨g2, h1, h2⟩ := m2 es0 (ns0 ++ [x]) v2 q' g' a2 hq (by omega); refine ⟨g2, by simp only [List.length_append]; omega, ?_⟩; rw [programF, if_neg (by simp [hq]), if_neg (by rw [at_head typeW _ _ hd]; exact hb), if_pos (by rw [at_head nodeW _ _ hd]; exact hb2), List.append_assoc, m1 v1 (v2 ++ q') a1 (by simp [hq]) (fun e => by cases e), bindP_ok, h2]; simp
      · rename_i hb2; cases h; refine ⟨[], [], [], by simp, rfl, hne, by simp [progT], ⟨fun _ h => (by cases h), fun _ h => by cases h⟩, by simpa using hb, by simpa using hb2, fun es0 ns0 u' q' g' ha hq hl => ⟨g', by omega, ?_⟩⟩; rw [alike_nil ha]; simp
/-- the end stands at the end alone -/
def OneEnd : List Tok → Prop
  | [] => False
  | [t] => t.sort = 6 ∧ t.text = []
  | t :: u :: r => t.sort ≠ 6 ∧ OneEnd (u :: r)
theorem OneEnd.rest {t : Tok} {r : List Tok} : ∀ {u : List Tok}, OneEnd (u ++ t :: r) → OneEnd (t :: r)
  | [], h => h
  | [_], h => h.2
  | _ :: y :: u, h => OneEnd.rest (u := y :: u) h.2
theorem OneEnd.last {u : List Tok} {t : Tok} {r : List Tok} (h : OneEnd (u ++ t :: r)) (ht : t.sort = 6) : r = [] := by
  have h := h.rest; cases r with
  | nil => rfl
  | cons x r => exact absurd ht h.1
theorem OneEnd.text {u : List Tok} {t : Tok} (h : OneEnd (u ++ [t])) : t.sort = 6 ∧ t.text = [] := h.rest
theorem oneEnd_scanF : ∀ (f : Nat) (l : Tx) (p : Int × Int), (scanF f l p).2 = none → OneEnd (scanF f l p).1 := by
  intro f; induction f with
  | zero => intro l p h; simp [scanF] at h
  | succ f ih =>
    intro l p h; by_cases h0 : tokSort (l.drop (gapL l)) = 0
    · rw [scanF_none h0] at h; cases h
    · by_cases h6 : l.drop (gapL l) = []
      · rw [scanF_end (by rw [h6]; exact tokSort_end), h6]; exact ⟨tokSort_end, tokText_nil⟩
      · have h6' := tokSort_ne6 h6; rw [scanF_tok h0 h6'] at h ⊢; have := ih _ _ h; cases e : (scanF f ((l.drop (gapL l)).drop (tokText (l.drop (gapL l))).length) (posL ((l.drop (gapL l)).take (tokText (l.drop (gapL l))).length) (posL (l.take (gapL l)) p))).1 with
        | nil => rw [e] at this; exact absurd this (by simp [OneEnd])
        | cons u r => rw [e] at this; exact ⟨h6', this⟩
theorem oneEnd_scan {s : Tx} {ts : List Tok} (h : scanAll s = (ts, none)) : OneEnd ts := by
  have := oneEnd_scanF (s.length + 1) s (1, 1); rw [show scanF (s.length + 1) s (1, 1) = scanAll s from rfl, h] at this; exact this rfl
/-- tokens as layer 1 makes them -/
theorem sort_1 {l : Tx} (h : sortL l = 1) : nameB l = true := by
  unfold sortL at h; split at h
  · omega
  · split at h
    · assumption
    · split at h
      · omega
      · split at h <;> omega
theorem sort_2 {l : Tx} (h : sortL l = 2) : conB l = true := by
  unfold sortL at h; split at h
  · omega
  · split at h
    · omega
    · split at h
      · assumption
      · split at h <;> omega
theorem litN_bnd {l : Tx} (hl : l ≠ []) (hr : ∀ c ∈ l, moreB c = true) : 0 ≤ litN l ∧ litN l ≤ 9223372036854775807 := by
  unfold litN; by_cases h : AllDig l
  · rw [litL_dig hl h]; split
    · simp
    · split
      · simp only [Option.getD_some]; omega
      · simp
  · rw [litL_not hr h]; simp
theorem num_bnd {m : Tx} (h : runL m ≠ 0) : 0 ≤ numL (m.take (runL m)) ∧ numL (m.take (runL m)) ≤ 9223372036854775807 := by
  have h1 := litN_bnd (l := m.take (runL m)) (fun e => h (by have := congrArg List.length e; have := runL_le m; simp only [List.length_take, List.length_nil] at *; omega)) (run_take m); unfold numL; repeat' split
  all_goals first | exact h1 | exact ⟨by omega, by omega⟩
theorem good_at {l : Tx} (hl : l.length ≤ 65536) (p : Int × Int) : GoodTok (tokAt l p) := by
  refine ⟨fun h => ?_, fun h => ?_, fun h => ?_, Nat.le_trans (tokText_le l) hl⟩
  · show nameM false (tokText l) = true; replace h : tokSort l = 1 := h; unfold tokSort at h; split at h
    · omega
    · split at h
      · split at h <;> omega
      · rename_i hr; unfold tokText; rw [if_neg hr]; simpa [nameM, ungenL] using sort_1 h
  · show conM false (tokText l) = true; replace h : tokSort l = 2 := h; unfold tokSort at h; split at h
    · omega
    · split at h
      · split at h <;> omega
      · rename_i hr; unfold tokText; rw [if_neg hr]; simpa [conM, ungenL] using sort_2 h
  · show 0 ≤ tokNum l ∧ tokNum l ≤ _; unfold tokNum; split
    · exact ⟨by omega, by omega⟩
    · exact num_bnd ‹_›
theorem good_scanF : ∀ (f : Nat) (l : Tx) (p : Int × Int), l.length ≤ 65536 → GoodL (scanF f l p).1 := by
  intro f; induction f with
  | zero => intro l p _ t ht; simp [scanF] at ht
  | succ f ih =>
    intro l p hl; have hd : (l.drop (gapL l)).length ≤ 65536 := (by rw [List.length_drop]; omega); by_cases h0 : tokSort (l.drop (gapL l)) = 0
    · rw [scanF_none h0]; exact fun t ht => by cases ht
    · by_cases h6 : tokSort (l.drop (gapL l)) = 6
      · rw [scanF_end h6]; intro t ht; rw [List.mem_singleton.1 ht]; exact good_at hd _
      · rw [scanF_tok h0 h6]; intro t ht; rcases List.mem_cons.1 ht with rfl | ht
        · exact good_at hd _
        · exact ih _ _ (by rw [List.length_drop]; omega) t ht
theorem good_scan {s : Tx} {ts : List Tok} (hl : s.length ≤ 65536) (h : scanAll s = (ts, none)) : GoodL ts := by
  have := good_scanF (s.length + 1) s (1, 1) hl; rwa [show scanF (s.length + 1) s (1, 1) = scanAll s from rfl, h] at this
/-- what came of tokens as a program -/
theorem progF_loc {f : Nat} {ts : List Tok} {p : QProg} {q : List Tok} (ho : OneEnd ts) (hg : GoodL ts) (h : progF f ts = some (.ok p q)) :
    ∃ u e, ts = u ++ [e] ∧ q = [e] ∧ e.sort = 6 ∧ e.text = [] ∧ (progT p).length ≤ 3 * u.length ∧ GProg p ∧
      ∀ es0 ns0 u' q' g', AlikeL u u' → q' ≠ [] → u.length ≤ g' → ∃ g2, g' ≤ g2 + u.length ∧ programF (fun ts => opX f 1 ts 0) g' es0 ns0 (u' ++ q') = programF (fun ts => opX f 1 ts 0) g2 (es0 ++ p.enums) (ns0 ++ p.nodes) q' := by
  have hne : ts ≠ [] := (by intro e; subst e; exact ho); rcases bindP_some h with ⟨_, _, e⟩ | ⟨x, r1, e1, e2⟩
  · cases e
  obtain ⟨u, es', ns', h1, rfl, n2, l2, g2, t1, t2, m2⟩ := programF_loc ((all_loc f).1 1 (Nat.le_refl _) 0) _ [] [] ts x r1 hne hg e1; cases r1 with
  | nil => cases e2
  | cons t r =>
    replace e2 : (if t.sort = 6 then some (Out.ok x (t :: r)) else some (.bad (faultT 3 t))) = some (.ok p q) := e2; split at e2
    · rename_i ht; cases e2; obtain rfl := ho.last ht; subst h1; exact ⟨u, t, rfl, rfl, ht, ho.text.2, l2, g2, m2⟩
    · cases e2
end Go.Proofs.YtlhmdjhfmhkllaaGreatDoor
