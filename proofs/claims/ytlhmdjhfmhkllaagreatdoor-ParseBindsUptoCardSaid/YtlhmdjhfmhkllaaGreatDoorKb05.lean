/-
  Texts joined.
-/
import Derived.Test.YtlhmdjhfmhkllaaGreatDoorKb03
import Derived.Test.YtlhmdjhfmhkllaaGreatDoorKb04
namespace Go.Proofs.YtlhmdjhfmhkllaaGreatDoor
def AlikeL (u u' : List Tok) : Prop := u'.map Tok.key = u.map Tok.key
def HeadL (q q' : List Tok) : Prop := q'.head?.map Tok.key = q.head?.map Tok.key
theorem key_parts {t t' : Tok} (h : t'.key = t.key) : t'.sort = t.sort ∧ t'.text = t.text ∧ t'.num = t.num := by
  simp only [Tok.key, Key.mk.injEq] at h; exact h
theorem alike_app {a b u' : List Tok} (h : AlikeL (a ++ b) u') : ∃ v w, u' = v ++ w ∧ AlikeL a v ∧ AlikeL b w := by
  unfold AlikeL at h; rw [List.map_append] at h; obtain ⟨v, w, rfl, h1, h2⟩ := List.map_eq_append_iff.1 h; exact ⟨v, w, rfl, h1, h2⟩
theorem alike_cons {t : Tok} {b u' : List Tok} (h : AlikeL (t :: b) u') : ∃ t' w, u' = t' :: w ∧ t'.key = t.key ∧ AlikeL b w := by
  unfold AlikeL at h; obtain ⟨t', w, rfl, h1, h2⟩ := List.map_eq_cons_iff.1 h; exact ⟨t', w, rfl, h1, h2⟩
theorem alike_nil {u' : List Tok} (h : AlikeL [] u') : u' = [] := by
  unfold AlikeL at h; simpa using h
theorem alike_len {u u' : List Tok} (h : AlikeL u u') : u'.length = u.length := by
  have := congrArg List.length h; simpa using this
theorem head_cons {t : Tok} {r q' : List Tok} (h : HeadL (t :: r) q') : ∃ t' r', q' = t' :: r' ∧ t'.key = t.key := by
  unfold HeadL at h; cases q' with
  | nil => simp at h
  | cons t' r' => exact ⟨t', r', rfl, by simpa using h⟩
theorem head_app {u u' q q' : List Tok} (h : AlikeL u u') (hh : u = [] → HeadL q q') : HeadL (u ++ q) (u' ++ q') := by
  cases u with
  | nil => rw [alike_nil h]; exact hh rfl
  | cons t r => obtain ⟨t', w, rfl, h1, _⟩ := alike_cons h; simpa [HeadL] using h1
/-- a token as layer 1 makes it -/
def GoodTok (t : Tok) : Prop := (t.sort = 1 → nameM false t.text = true) ∧ (t.sort = 2 → conM false t.text = true) ∧ (t.sort = 3 → 0 ≤ t.num ∧ t.num ≤ 9223372036854775807) ∧ t.text.length ≤ 65536
def GoodL (ts : List Tok) : Prop := ∀ t ∈ ts, GoodTok t
theorem GoodL.right {a b : List Tok} (h : GoodL (a ++ b)) : GoodL b := fun t ht => h t (List.mem_append.2 (.inr ht))
theorem GoodL.tail {t : Tok} {b : List Tok} (h : GoodL (t :: b)) : GoodL b := fun x hx => h x (List.mem_cons_of_mem _ hx)
/-- what a part does with tokens: u is passed, q is left; w weighs what comes; b: the next token plays no part -/
def Locs {X : Type} (b : Bool) (w : X → Nat) (G : X → Prop) (P : List Tok → Pr X) (ts : List Tok) (x : X) (q : List Tok) : Prop :=
  ∃ u, ts = u ++ q ∧ q ≠ [] ∧ (b = true → u ≠ []) ∧ w x ≤ 3 * u.length ∧ G x ∧ ∀ u' q', AlikeL u u' → q' ≠ [] → (b = false → HeadL q q') → P (u' ++ q') = some (.ok x q')
def LocP {X : Type} (b : Bool) (w : X → Nat) (G : X → Prop) (P : List Tok → Pr X) : Prop := ∀ ts x q, ts ≠ [] → GoodL ts → P ts = some (.ok x q) → Locs b w G P ts x q
section
variable {X Y : Type} {b b1 b2 : Bool} {w w1 : X → Nat} {G G1 : X → Prop} {P : List Tok → Pr X}
theorem LocP.mono (h : LocP b w1 G1 P) (hw : ∀ x, G1 x → w x ≤ w1 x ∧ G x) : LocP b w G P := fun ts x q hne hg hp => by
  obtain ⟨u, h1, h2, h3, h4, h5, h6⟩ := h ts x q hne hg hp
  exact ⟨u, h1, h2, h3, Nat.le_trans (hw x h5).1 h4, (hw x h5).2, h6⟩
theorem LocP.weak (h : LocP b w G P) : LocP false w G P := fun ts x q hne hg hp => by
  obtain ⟨u, h1, h2, h3, h4, h5, h6⟩ := h ts x q hne hg hp
  refine ⟨u, h1, h2, fun e => (by cases e), h4, h5, fun u' q' ha hq hh => h6 u' q' ha hq fun e => hh rfl⟩
theorem LocP.bind {w2 : Y → Nat} {G2 : Y → Prop} {K : X → List Tok → Pr Y} (h : LocP b1 w1 G1 P) (hk : ∀ x, G1 x → LocP b2 (fun y => w2 y - w1 x) G2 (K x)) : LocP b2 w2 G2 fun ts => bindP (P ts) K := by
  intro ts y q hne hg hp; rcases bindP_some hp with ⟨f, _, e⟩ | ⟨x, ts1, e1, e2⟩
  · cases e
  obtain ⟨u1, rfl, n1, c1, l1, g1, m1⟩ := h ts x ts1 hne hg e1; obtain ⟨u2, rfl, n2, c2, l2, g2, m2⟩ := hk x g1 ts1 y q n1 hg.right e2; refine ⟨u1 ++ u2, (List.append_assoc _ _ _).symm, n2, fun e => by simp [c2 e], by simp only [List.length_append] at l2 ⊢; omega, g2, fun u' q' ha hq hh => ?_⟩; obtain ⟨v1, v2, rfl, a1, a2⟩ := alike_app ha; show bindP (P (v1 ++ v2 ++ q')) K = _
  rw [List.append_assoc, m1 v1 (v2 ++ q') a1 (by simp [hq]) (fun _ => head_app a2 fun e => hh (by
    cases hb : b2 with
    | false => rfl
    | true => exact absurd e (c2 hb)))]
  exact m2 v2 q' a2 hq hh
theorem LocP.map {w2 : Y → Nat} {G2 : Y → Prop} {f : X → Y} (h : LocP b w1 G1 P) (hf : ∀ x, G1 x → w2 (f x) ≤ w1 x ∧ G2 (f x)) : LocP b w2 G2 fun ts => bindP (P ts) fun x ts => some (.ok (f x) ts) := by
  intro ts y q hne hg hp; rcases bindP_some hp with ⟨_, _, e⟩ | ⟨x, ts1, e1, e2⟩
  · cases e
  cases e2; obtain ⟨u1, h1, n1, c1, l1, g1, m1⟩ := h ts x q hne hg e1; refine ⟨u1, h1, n1, c1, Nat.le_trans (hf x g1).1 l1, (hf x g1).2, fun u' q' ha hq hh => ?_⟩; show bindP (P (u' ++ q')) _ = _; rw [m1 u' q' ha hq hh]; rfl
theorem LocP.ret {x : X} (hw : w x = 0) (hG : G x) : LocP false w G fun ts => some (.ok x ts) := by
  intro ts y q hne _ hp; cases hp; refine ⟨[], rfl, hne, fun e => (by cases e), by omega, hG, fun u' q' ha _ _ => ?_⟩; rw [alike_nil ha]; rfl
theorem LocP.ite {c : List Tok → Bool} {Q : List Tok → Pr X} (hc : ∀ q q', HeadL q q' → c q' = c q) (h1 : LocP b w G P) (h2 : LocP b w G Q) : LocP b w G fun ts => if c ts = true then P ts else Q ts := by
  intro ts x q hne hg hp; by_cases hb : c ts = true
  · replace hp : (if c ts = true then P ts else Q ts) = _ := hp; rw [if_pos hb] at hp; obtain ⟨u, e, n1, c1, l1, g1, m1⟩ := h1 ts x q hne hg hp; subst e; refine ⟨u, rfl, n1, c1, l1, g1, fun u' q' ha hq hh => ?_⟩
    have := hc _ _ (head_app ha fun e => hh (by
      cases hb : b with
      | false => rfl
      | true => exact absurd e (c1 hb)))
    show (if c (u' ++ q') = true then P (u' ++ q') else Q (u' ++ q')) = _; rw [if_pos (this.trans hb)]; exact m1 u' q' ha hq hh
  · replace hp : (if c ts = true then P ts else Q ts) = _ := hp; rw [if_neg hb] at hp; obtain ⟨u, e, n1, c1, l1, g1, m1⟩ := h2 ts x q hne hg hp; subst e; refine ⟨u, rfl, n1, c1, l1, g1, fun u' q' ha hq hh => ?_⟩
    have := hc _ _ (head_app ha fun e => hh (by
      cases hb : b with
      | false => rfl
      | true => exact absurd e (c1 hb)))
    show (if c (u' ++ q') = true then P (u' ++ q') else Q (u' ++ q')) = _; rw [if_neg (by rw [this]; exact hb)]; exact m1 u' q' ha hq hh
theorem LocP.guard (h : LocP b w G P) : LocP b w G fun ts => if ts = [] then none else P ts := by
  intro ts x q hne hg hp; replace hp : (if ts = [] then none else P ts) = _ := hp; rw [if_neg hne] at hp; obtain ⟨u, e, n1, c1, l1, g1, m1⟩ := h ts x q hne hg hp; refine ⟨u, e, n1, c1, l1, g1, fun u' q' ha hq hh => ?_⟩; show (if u' ++ q' = [] then none else P (u' ++ q')) = _; rw [if_neg (by simp [hq])]; exact m1 u' q' ha hq hh
theorem at_head (s : Tx) : ∀ q q', HeadL q q' → atP s q' = atP s q := by
  intro q q' h; cases q with
  | nil =>
    cases q' with
    | nil => rfl
    | cons t r => simp [HeadL] at h
  | cons t r =>
    obtain ⟨t', r', rfl, hk⟩ := head_cons h; rw [atP, atP, (key_parts hk).2.1]
theorem atEq_head' : ∀ q q', HeadL q q' → atEqP q' = atEqP q := by
  intro q q' h; cases q with
  | nil =>
    cases q' with
    | nil => rfl
    | cons t r => simp [HeadL] at h
  | cons t r =>
    obtain ⟨t', r', rfl, hk⟩ := head_cons h; rw [atEqP, atEqP, (key_parts hk).2.1, (key_parts hk).1]
/-- behind the next token -/
def tailP (K : List Tok → Pr X) (ts : List Tok) : Pr X := if ts.tail = [] then none else K ts.tail
theorem LocP.tail (h : LocP b w1 G1 P) (hw : ∀ x, G1 x → w x ≤ w1 x + 3 ∧ G x) : LocP b w G (tailP P) := by
  intro ts x q hne hg hp; obtain ⟨t, r, rfl⟩ := List.exists_cons_of_ne_nil hne; unfold tailP at hp; rw [List.tail_cons] at hp; split at hp
  · cases hp
  rename_i hr; obtain ⟨u, rfl, n1, c1, l1, g1, m1⟩ := h r x q hr hg.tail hp; refine ⟨t :: u, rfl, n1, fun _ => by simp, ?_, (hw x g1).2, fun u' q' ha hq hh => ?_⟩
  · have := (hw x g1).1; simp only [List.length_cons]; omega
  obtain ⟨t', v, rfl, _, a2⟩ := alike_cons ha; unfold tailP; rw [List.cons_append, List.tail_cons, if_neg (by simp [hq])]; exact m1 v q' a2 hq hh
/-- a part that looks at the next token first -/
theorem LocP.head {F : Key → List Tok → Pr X} (hF : ∀ t, GoodTok t → LocP b w G (F t.key)) : LocP b w G fun ts => match ts with | [] => none | t :: r => F t.key (t :: r) := by
  intro ts x q hne hg hp; obtain ⟨t, r, rfl⟩ := List.exists_cons_of_ne_nil hne; obtain ⟨u, e, n1, c1, l1, g1, m1⟩ := hF t (hg t (by simp)) (t :: r) x q (by simp) hg hp; refine ⟨u, e, n1, c1, l1, g1, fun u' q' ha hq hh => ?_⟩
  have hd : HeadL (u ++ q) (u' ++ q') := head_app ha fun e0 => hh (by
      cases hb : b with
      | false => rfl
      | true => exact absurd e0 (c1 hb))
  rw [← e] at hd; obtain ⟨t', r', e', hk⟩ := head_cons hd; have := m1 u' q' ha hq hh; rw [e'] at this ⊢; show F t'.key (t' :: r') = _; rw [hk]; exact this
end
def oneW {X : Type} (_ : X) : Nat := 1
theorem want_loc (s : Tx) : LocP true oneW (fun _ => True) (wantP s) := by
  intro ts x q hne hg hp; obtain ⟨t, r, rfl⟩ := List.exists_cons_of_ne_nil hne; rw [wantP] at hp; split at hp
  · rename_i ht; split at hp
    · cases hp
    rename_i hr; cases hp; refine ⟨[t], rfl, hr, fun _ => by simp, by simp [oneW], trivial, fun u' q' ha hq hh => ?_⟩; obtain ⟨t', v, rfl, hk, a2⟩ := alike_cons ha; rw [alike_nil a2]; rw [List.cons_append, List.nil_append, wantP, if_pos (by rw [(key_parts hk).2.1]; exact ht), if_neg hq]
  · cases hp
def threeW {X : Type} (_ : X) : Nat := 3
theorem want_loc3 (s : Tx) : LocP true threeW (fun _ => True) (wantP s) := by
  intro ts x q hne hg hp; obtain ⟨t, r, rfl⟩ := List.exists_cons_of_ne_nil hne; rw [wantP] at hp; split at hp
  · rename_i ht; split at hp
    · cases hp
    rename_i hr; cases hp; refine ⟨[t], rfl, hr, fun _ => by simp, by simp [threeW], trivial, fun u' q' ha hq hh => ?_⟩; obtain ⟨t', v, rfl, hk, a2⟩ := alike_cons ha; rw [alike_nil a2]; rw [List.cons_append, List.nil_append, wantP, if_pos (by rw [(key_parts hk).2.1]; exact ht), if_neg hq]
  · cases hp
theorem text_loc (k : Int) : LocP true oneW (fun x => ∃ t, GoodTok t ∧ t.sort = k ∧ t.text = x) (textP k) := by
  intro ts x q hne hg hp; obtain ⟨t, r, rfl⟩ := List.exists_cons_of_ne_nil hne; rw [textP] at hp; split at hp
  · rename_i ht; split at hp
    · cases hp
    rename_i hr; cases hp; refine ⟨[t], rfl, hr, fun _ => by simp, by simp [oneW], ⟨t, hg t (by simp), ht, rfl⟩, fun u' q' ha hq hh => ?_⟩; obtain ⟨t', v, rfl, hk, a2⟩ := alike_cons ha; rw [alike_nil a2]; rw [List.cons_append, List.nil_append, textP, if_pos (by rw [(key_parts hk).1]; exact ht), if_neg hq, (key_parts hk).2.1]
  · cases hp
/-- no longer than a text may be -/
def Brief (x : Tx) : Prop := x.length ≤ 65536
def Briefs (l : List Tx) : Prop := ∀ x ∈ l, Brief x
theorem Briefs.nil : Briefs [] := fun _ h => by cases h
theorem Briefs.cons {t : Tx} {r : List Tx} (h : Brief t) (hr : Briefs r) : Briefs (t :: r) := fun x hx => by
  rcases List.mem_cons.1 hx with rfl | hx
  · exact h
  · exact hr x hx
theorem Briefs.app {a b : List Tx} (ha : Briefs a) (hb : Briefs b) : Briefs (a ++ b) := fun x hx => (List.mem_append.1 hx).elim (ha x) (hb x)
theorem Briefs.flat {X : Type} {f : X → List Tx} {l : List X} (h : ∀ x ∈ l, Briefs (f x)) : Briefs (l.flatMap f) := fun t ht => by
  obtain ⟨x, hx, ht⟩ := List.mem_flatMap.1 ht
  exact h x hx t ht
theorem Briefs.sep {s : Tx} (hs : Brief s) {l : List (List Tx)} (h : ∀ x ∈ l, Briefs x) : Briefs (sepT s l) := by
  cases l with
  | nil => exact .nil
  | cons x r => exact .app (h x (by simp)) (.flat fun y hy => .cons hs (h y (by simp [hy])))
instance : DecidablePred Brief := fun x => inferInstanceAs (Decidable (x.length ≤ 65536))
def NameG (x : Tx) : Prop := nameM false x = true ∧ Brief x
def ConG (x : Tx) : Prop := conM false x = true ∧ Brief x
theorem name_loc : LocP true oneW NameG nameP := (text_loc 1).mono fun x ⟨t, h1, h2, h3⟩ => ⟨Nat.le_refl _, by subst h3; exact ⟨h1.1 h2, h1.2.2.2⟩⟩
theorem con_loc : LocP true oneW ConG conP := (text_loc 2).mono fun x ⟨t, h1, h2, h3⟩ => ⟨Nat.le_refl _, by subst h3; exact ⟨h1.2.1 h2, h1.2.2.2⟩⟩
def sumW {X : Type} (w : X → Nat) (l : List X) : Nat := (l.map fun x => w x + 1).sum
theorem sumW_cons {X : Type} (w : X → Nat) (x : X) (l : List X) : sumW w (x :: l) = w x + 1 + sumW w l := by simp [sumW]
theorem sumW_sep {X : Type} {s : Tx} (T : X → List Tx) (l : List X) : (sepT s (l.map T)).length = sumW (fun x => (T x).length) l - 1 := by
  cases l with
  | nil => rfl
  | cons x l =>
    rw [List.map_cons, sepT, List.length_append, sumW_cons]; have : ((l.map T).flatMap fun y => s :: y).length = sumW (fun x => (T x).length) l := by
      induction l with
      | nil => rfl
      | cons y l ih => rw [List.map_cons, List.flatMap_cons, List.length_append, ih, sumW_cons, List.length_cons]
    omega
section
variable {X : Type} {w : X → Nat} {G : X → Prop} {E : List Tok → Pr X}
theorem sep_loc {s : Tx} (hE : LocP false w G E) : ∀ g acc ts l q, ts ≠ [] → GoodL ts → sepP s E g acc ts = some (.ok l q) →
    ∃ u xs, l = acc ++ xs ∧ ts = u ++ q ∧ q ≠ [] ∧ sumW w xs ≤ 3 * u.length ∧ (∀ x ∈ xs, G x) ∧ ∀ g' u' q', u.length < g' → AlikeL u u' → q' ≠ [] → HeadL q q' → sepP s E g' acc (u' ++ q') = some (.ok l q') := by
  intro g; induction g with
  | zero => intro acc ts l q _ _ h; cases h
  | succ g ih =>
    intro acc ts l q hne hg h; obtain ⟨t, r, rfl⟩ := List.exists_cons_of_ne_nil hne; rw [sepP] at h; split at h
    · rename_i ht; split at h
      · cases h
      rename_i hr; rcases bindP_some h with ⟨_, _, e⟩ | ⟨x, r1, e1, e2⟩
      · cases e
      obtain ⟨u1, rfl, n1, _, l1, g1, m1⟩ := hE r x r1 hr hg.tail e1; obtain ⟨u2, xs, rfl, rfl, n2, l2, g2, m2⟩ := ih (acc ++ [x]) r1 l q n1 hg.tail.right e2; refine ⟨t :: (u1 ++ u2), x :: xs, by simp, by simp, n2, by rw [sumW_cons]; simp only [List.length_cons, List.length_append]; omega, fun y hy => ?_, fun g' u' q' hf ha hq hh => ?_⟩
      · rcases List.mem_cons.1 hy with rfl | hy
        · exact g1
        · exact g2 y hy
      · obtain ⟨t', v, rfl, hk, a⟩ := alike_cons ha; obtain ⟨v1, v2, rfl, a1, a2⟩ := alike_app a; obtain ⟨g', rfl⟩ : ∃ k, g' = k + 1 := ⟨g' - 1, by omega⟩; rw [List.cons_append, sepP, if_pos (by rw [(key_parts hk).2.1]; exact ht), if_neg (by simp [hq]), List.append_assoc, m1 v1 (v2 ++ q') a1 (by simp [hq]) (fun _ => head_app a2 fun _ => hh), bindP_ok]; exact m2 g' v2 q' (by simp only [List.length_cons, List.length_append] at hf; omega) a2 hq hh
    · rename_i ht; cases h; refine ⟨[], [], by simp, rfl, by simp, by simp [sumW], fun _ h => (by cases h), fun g' u' q' hf ha hq hh => ?_⟩; rw [alike_nil ha]; obtain ⟨t', r', rfl, hk⟩ := head_cons hh; obtain ⟨g', rfl⟩ : ∃ k, g' = k + 1 := ⟨g' - 1, by simp at hf; omega⟩; rw [List.nil_append, sepP, if_neg (by rw [(key_parts hk).2.1]; exact ht)]
theorem separated_loc {s : Tx} (hE : LocP false w G E) : LocP false (fun l => sumW w l - 1) (fun l => l ≠ [] ∧ ∀ x ∈ l, G x) (separatedP s E) := by
  intro ts l q hne hg h; rcases bindP_some h with ⟨_, _, e⟩ | ⟨x, r1, e1, e2⟩
  · cases e
  obtain ⟨u1, rfl, n1, _, l1, g1, m1⟩ := hE ts x r1 hne hg e1; obtain ⟨u2, xs, rfl, rfl, n2, l2, g2, m2⟩ := sep_loc hE _ [x] r1 l q n1 hg.right e2
  refine ⟨u1 ++ u2, by simp, n2, fun e => by (cases e), by
    show sumW w ([x] ++ xs) - 1 ≤ _; rw [List.singleton_append, sumW_cons]; simp only [List.length_append]; omega, ⟨by simp, fun y hy => ?_⟩, fun u' q' ha hq hh => ?_⟩
  · rw [List.singleton_append] at hy; rcases List.mem_cons.1 hy with rfl | hy
    · exact g1
    · exact g2 y hy
  · obtain ⟨v1, v2, rfl, a1, a2⟩ := alike_app ha; rw [separatedP, List.append_assoc, m1 v1 (v2 ++ q') a1 (by simp [hq]) (fun _ => head_app a2 fun _ => hh rfl), bindP_ok]; exact m2 _ v2 q' (by have := alike_len a2; simp only [List.length_append]; omega) a2 hq (hh rfl)
theorem rep_loc {B : List Tok → Bool} (hB : ∀ q q', HeadL q q' → B q' = B q) (hE : LocP true w G E) : ∀ g acc ts l q, ts ≠ [] → GoodL ts → repeatP B E g acc ts = some (.ok l q) →
    ∃ u xs, l = acc ++ xs ∧ ts = u ++ q ∧ q ≠ [] ∧ (xs.map w).sum ≤ 3 * u.length ∧ (∀ x ∈ xs, G x) ∧ ∀ g' u' q', u.length < g' → AlikeL u u' → q' ≠ [] → HeadL q q' → repeatP B E g' acc (u' ++ q') = some (.ok l q') := by
  intro g; induction g with
  | zero => intro acc ts l q _ _ h; cases h
  | succ g ih =>
    intro acc ts l q hne hg h; rw [repeatP, if_neg hne] at h; split at h
    · rename_i hb; rcases bindP_some h with ⟨_, _, e⟩ | ⟨x, r1, e1, e2⟩
      · cases e
      obtain ⟨u1, rfl, n1, c1, l1, g1, m1⟩ := hE ts x r1 hne hg e1; obtain ⟨u2, xs, rfl, rfl, n2, l2, g2, m2⟩ := ih (acc ++ [x]) r1 l q n1 hg.right e2; have hp := List.length_pos_iff.2 (c1 rfl); refine ⟨u1 ++ u2, x :: xs, by simp, by simp, n2, by simp only [List.map_cons, List.sum_cons, List.length_append]; omega, fun y hy => ?_, fun g' u' q' hf ha hq hh => ?_⟩
      · rcases List.mem_cons.1 hy with rfl | hy
        · exact g1
        · exact g2 y hy
      · have hd := head_app ha (fun e => absurd (List.append_eq_nil_iff.1 e).1 (c1 rfl)) (q := q) (q' := q'); obtain ⟨v1, v2, rfl, a1, a2⟩ := alike_app ha; obtain ⟨g', rfl⟩ : ∃ k, g' = k + 1 := ⟨g' - 1, by omega⟩; rw [List.append_assoc u1] at hd; rw [repeatP, if_neg (by simp [hq]), if_pos (by rw [hB _ _ hd]; exact hb), List.append_assoc, m1 v1 (v2 ++ q') a1 (by simp [hq]) (fun e => by cases e), bindP_ok]; exact m2 g' v2 q' (by simp only [List.length_append] at hf; omega) a2 hq hh
    · rename_i hb; cases h; refine ⟨[], [], by simp, rfl, hne, by simp, fun _ h => (by cases h), fun g' u' q' hf ha hq hh => ?_⟩; rw [alike_nil ha]; obtain ⟨g', rfl⟩ : ∃ k, g' = k + 1 := ⟨g' - 1, by simp at hf; omega⟩; rw [List.nil_append, repeatP, if_neg hq, if_neg (by rw [hB _ _ hh]; exact hb)]
theorem repeated_loc {B : List Tok → Bool} (hB : ∀ q q', HeadL q q' → B q' = B q) (hE : LocP true w G E) : LocP false (fun l => (l.map w).sum) (fun l => ∀ x ∈ l, G x) (repeatedP B E) := by
  intro ts l q hne hg h; obtain ⟨u, xs, e, h1, h2, h3, h4, h5⟩ := rep_loc hB hE _ [] ts l q hne hg h; rw [List.nil_append] at e; subst e; exact ⟨u, h1, h2, fun e => by (cases e), h3, h4, fun u' q' ha hq hh => h5 _ u' q' (by have := alike_len ha; simp only [List.length_append]; omega) ha hq (hh rfl)⟩
theorem enclosed_loc {l r : Tx} (hE : LocP false w G E) : LocP true (fun x => w x + 2) G (enclosedP l E r) :=
  (want_loc l).bind fun _ _ => hE.bind fun x hx => (want_loc r).map fun _ _ => ⟨by simp only [oneW]; omega, hx⟩
end
def NamesG (l : List Tx) : Prop := l ≠ [] ∧ ∀ x ∈ l, NameG x
def namesW (l : List Tx) : Nat := 2 * l.length - 1
theorem sumW_one (l : List Tx) : sumW oneW l = 2 * l.length := by
  induction l with
  | nil => rfl
  | cons x l ih => rw [sumW_cons, ih, oneW, List.length_cons]; omega
theorem names_loc : LocP false namesW NamesG namesP := (separated_loc name_loc.weak).mono fun l h => ⟨by rw [sumW_one]; exact Nat.le_refl _, h⟩
def staticsW (l : List Tx) : Nat := (staticsT l).length
theorem names_len (s : Tx) (l : List Tx) : (namesT s l).length = namesW l := by
  rw [namesT, sumW_sep]; exact congrArg (· - 1) (sumW_one l)
theorem statics_loc : LocP false staticsW (fun l => ∀ x ∈ l, NameG x) staticsP := by
  refine LocP.guard (LocP.ite (at_head openB) ((enclosed_loc names_loc).weak.mono fun l h => ⟨?_, h.2⟩) (LocP.ret rfl fun _ h => by cases h)); rw [staticsW, staticsT, if_neg h.1, List.length_cons, List.length_append, names_len]; simp
/-- what an expression is that came of tokens -/
def GX (x : Ex) : Prop := Good x ∧ Briefs (toksX x)
def lenX (x : Ex) : Nat := (toksX x).length
/-- what parses an expression, where some unary are open -/
def LocX (E : PrX) : Prop := ∀ o, LocP false lenX GX fun ts => E ts o
section
variable {E U : PrX}
theorem brief_lit {t : Tx} (h : t.length ≤ 65536 := by decide) : Brief t := h
theorem statics_briefs {l : List Tx} (h : ∀ x ∈ l, NameG x) : Briefs (staticsT l) := by
  unfold staticsT; split
  · exact .nil
  · refine .cons brief_lit (.app (.sep brief_lit fun x hx => ?_) (.cons brief_lit .nil)); obtain ⟨y, hy, rfl⟩ := List.mem_map.1 hx; exact .cons (h y hy).2 .nil
theorem sum_lenX (l : List Ex) : sumW lenX l - 1 = (sepT commaT (l.map toksX)).length := (sumW_sep toksX l).symm
theorem named_loc (hE : LocX E) (o : Nat) : LocP false lenX GX (namedP E o) := by
  refine name_loc.bind fun n hn => LocP.guard ?_; have hv : LocP false (fun y => lenX y - oneW n) GX fun ts => some (.ok (.mk 4 n 0 [] []) ts) :=
    LocP.ret (by simp [lenX, toksX, toksOf, oneW]) ⟨.var n hn.1, by simp only [toksX, toksOf]; exact .cons hn.2 .nil⟩
  have hc : LocP false (fun y => lenX y - oneW n) GX fun ts => bindP (staticsP ts) fun cs ts => bindP (enclosedP openT (separatedP commaT fun ts => E ts o) shutT ts) fun ks ts => some (.ok (.mk 14 n 0 cs ks) ts) := by
    refine statics_loc.bind fun cs hcs => ((enclosed_loc (separated_loc (hE o))).weak.map fun ks hks => ⟨?_, .call n cs ks hn.1 hks.1 (fun c h => (hcs c h).1) fun k h => (hks.2 k h).1, ?_⟩)
    · have e : lenX (.mk 14 n 0 cs ks) = 3 + staticsW cs + (sepT commaT (ks.map toksX)).length := by
        rw [lenX, toksX_mk, show toksOf 14 n 0 cs (ks.map toksX) = callT n cs (ks.map toksX) by simp [toksOf], callT]; simp only [List.length_cons, List.length_append, List.length_nil, staticsW, commaT]; omega
      rw [e, ← sum_lenX, oneW]; omega
    · rw [toksX_mk, show toksOf 14 n 0 cs (ks.map toksX) = callT n cs (ks.map toksX) by simp [toksOf], callT]
      exact .cons hn.2 (.app (statics_briefs hcs) (.cons brief_lit (.app (.sep brief_lit fun x hx => by
        obtain ⟨k, hk, rfl⟩ := List.mem_map.1 hx; exact (hks.2 k hk).2) (.cons brief_lit .nil))))
  have := LocP.ite (c := fun ts => !(atP openB ts) && !(atP openT ts)) (fun q q' h => by simp only [at_head _ q q' h]) hv hc; refine fun ts x q hne hg hp => ?_; have ee : ∀ ts : List Tok, ((if atP openB ts = false ∧ atP openT ts = false then some (Out.ok (Ex.mk 4 n 0 [] []) ts) else bindP (staticsP ts) fun cs ts => bindP (enclosedP openT (separatedP commaT fun ts => E ts o) shutT ts) fun ks ts => some (Out.ok (Ex.mk 14 n 0 cs ks) ts)) : Pr Ex) = (if (!(atP openB ts) && !(atP openT ts)) = true then some (Out.ok (Ex.mk 4 n 0 [] []) ts) else bindP (staticsP ts) fun cs ts => bindP (enclosedP openT (separatedP commaT fun ts => E ts o) shutT ts) fun ks ts => some (Out.ok (Ex.mk 14 n 0 cs ks) ts)) := by
    intro ts; cases atP openB ts <;> cases atP openT ts <;> rfl
  obtain ⟨u, h1, h2, h3, h4, h5, h6⟩ := this ts x q hne hg ((ee ts).symm.trans hp); exact ⟨u, h1, h2, h3, h4, h5, fun u' q' ha hq hh => (ee _).trans (h6 u' q' ha hq hh)⟩
def armW (y : Tx × Ex) : Nat := lenX y.2 + 2
theorem arm_loc (hE : LocX E) (o : Nat) : LocP false armW (fun y => ConG y.1 ∧ GX y.2) (armP E o) :=
  con_loc.bind fun _ hc => (want_loc arrowT).bind fun _ _ => (hE o).map fun _ he => ⟨by simp only [armW, oneW]; omega, hc, he⟩
theorem zip_parts {X Y : Type} : ∀ l : List (X × Y), (l.map Prod.fst).zip (l.map Prod.snd) = l
  | [] => rfl
  | y :: l => by rw [List.map_cons, List.map_cons, List.zip_cons_cons, zip_parts l]
theorem arms_long (l : List (Tx × Ex)) : (sepT barT (armsT (l.map Prod.fst) ((l.map Prod.snd).map toksX))).length = sumW armW l - 1 := by
  rw [arms_zip, zip_parts, sumW_sep]; rfl
theorem choices_loc (hE : LocX E) (o : Nat) {op : Int} {word : Tx} (hop : op = 12 ∧ word = mergeT ∨ op = 13 ∧ word = matchT) : LocP false (fun x => lenX x - 3) GX (choicesP E op o) := by
  refine name_loc.bind fun n hn => ((enclosed_loc (separated_loc (arm_loc hE o))).weak.map fun l hl => ⟨?_, ?_, ?_⟩)
  · have e : lenX (.mk op n 0 (l.map Prod.fst) (l.map Prod.snd)) = 4 + (sumW armW l - 1) := by
      rw [lenX, toksX_mk, show toksOf op n 0 (l.map Prod.fst) ((l.map Prod.snd).map toksX) = armT word n (l.map Prod.fst) ((l.map Prod.snd).map toksX) by rcases hop with ⟨rfl, rfl⟩ | ⟨rfl, rfl⟩ <;> simp [toksOf], armT, ← arms_long]
      simp only [List.length_cons, List.length_append, List.length_nil, barT]; omega
    rw [e, oneW]; omega
  · have h0 : l.map Prod.snd ≠ [] := by simpa using hl.1
    have h1 : ∀ c ∈ l.map Prod.fst, conM false c = true := fun c hc => by
      obtain ⟨y, hy, rfl⟩ := List.mem_map.1 hc; exact (hl.2 y hy).1.1
    have h2 : ∀ k, k ∈ l.map Prod.snd → Good k := fun c hc => by
      obtain ⟨y, hy, rfl⟩ := List.mem_map.1 hc; exact (hl.2 y hy).2.1
    rcases hop with ⟨rfl, _⟩ | ⟨rfl, _⟩
    · exact .merge n _ _ hn.1 h0 h1 (by simp) h2
    · exact .mtch n _ _ hn.1 h0 h1 (by simp) h2
  · rw [toksX_mk, show toksOf op n 0 (l.map Prod.fst) ((l.map Prod.snd).map toksX) = armT word n (l.map Prod.fst) ((l.map Prod.snd).map toksX) by rcases hop with ⟨rfl, rfl⟩ | ⟨rfl, rfl⟩ <;> simp [toksOf], armT, arms_zip, zip_parts]
    refine .cons (by rcases hop with ⟨_, rfl⟩ | ⟨_, rfl⟩ <;> exact brief_lit) (.cons hn.2 (.cons brief_lit (.app (.sep brief_lit fun x hx => ?_) (.cons brief_lit .nil))))
    obtain ⟨y, hy, rfl⟩ := List.mem_map.1 hx; exact .cons (hl.2 y hy).1.2 (.cons brief_lit (hl.2 y hy).2.2)
/-- what atomP does, by the next token -/
def atomK (E : PrX) (o : Nat) (k : Key) : List Tok → Pr Ex :=
  if k.sort = 3 then tailP fun ts => some (.ok (.mk 1 [] k.num [] []) ts)
  else if k.sort = 2 then fun ts => bindP (conP ts) fun c ts => some (.ok (.mk 3 c 0 [] []) ts)
  else if k.sort = 1 then namedP E o
  else if k.text = trueT then tailP fun ts => some (.ok (.mk 2 [] 1 [] []) ts)
  else if k.text = falseT then tailP fun ts => some (.ok (.mk 2 [] 0 [] []) ts)
  else if k.text = mergeT then tailP (choicesP E 12 o)
  else if k.text = matchT then tailP (choicesP E 13 o)
  else if k.text = openT then enclosedP openT (fun ts => E ts o) shutT
  else fun ts => match ts with | [] => none | t :: _ => some (.bad (faultT 3 t))
theorem atom_eq (E : PrX) (o : Nat) (ts : List Tok) : atomP E o ts = match ts with | [] => none | t :: r => atomK E o t.key (t :: r) := by
  cases ts with
  | nil => rfl
  | cons t r =>
    obtain ⟨so, tx, nu, li, co⟩ := t; show atomP E o (⟨so, tx, nu, li, co⟩ :: r) = atomK E o ⟨so, tx, nu⟩ (⟨so, tx, nu, li, co⟩ :: r); unfold atomP atomK; dsimp only
    by_cases h0 : so = 3
    · rw [if_pos h0, if_pos h0]; try rfl
    rw [if_neg h0, if_neg h0]; by_cases h1 : so = 2
    · rw [if_pos h1, if_pos h1]; try rfl
    rw [if_neg h1, if_neg h1]; by_cases h2 : so = 1
    · rw [if_pos h2, if_pos h2]; try rfl
    rw [if_neg h2, if_neg h2]; by_cases h3 : tx = trueT
    · rw [if_pos h3, if_pos h3]; try rfl
    rw [if_neg h3, if_neg h3]; by_cases h4 : tx = falseT
    · rw [if_pos h4, if_pos h4]; try rfl
    rw [if_neg h4, if_neg h4]; by_cases h5 : tx = mergeT
    · rw [if_pos h5, if_pos h5]; try rfl
    rw [if_neg h5, if_neg h5]; by_cases h6 : tx = matchT
    · rw [if_pos h6, if_pos h6]; try rfl
    rw [if_neg h6, if_neg h6]; by_cases h7 : tx = openT
    · rw [if_pos h7, if_pos h7]; try rfl
    rw [if_neg h7, if_neg h7]
theorem itoa_brief {n : Int} (h0 : 0 ≤ n) (h1 : n ≤ 9223372036854775807) : Brief (Lib.itoa n) := by
  obtain ⟨h2, h3, h4, h5⟩ := dec_dig n.toNat; rw [Lib.itoa, if_neg (by omega)]; unfold Brief; by_cases h : 19 < (Lib.decDigits n.toNat).length
  · have := dig_long h2 h (h5 (by omega)); omega
  · omega
theorem LocP.bad {X : Type} {b : Bool} {w : X → Nat} {G : X → Prop} {P : List Tok → Pr X} (h : ∀ ts x q, P ts ≠ some (.ok x q)) : LocP b w G P := fun ts x q _ _ hp => absurd hp (h ts x q)
theorem atom_loc (hE : LocX E) : LocX (fun ts o => atomP E o ts) := by
  intro o; have : (fun ts => atomP E o ts) = fun ts => match ts with | [] => none | t :: r => atomK E o t.key (t :: r) := funext fun ts => atom_eq E o ts; rw [this]; refine LocP.head fun t ht => ?_; have T : ∀ {x : Ex}, lenX x ≤ 3 → GX x → LocP false lenX GX (tailP fun ts => some (.ok x ts)) := fun {x} h1 h2 => LocP.tail (w1 := fun y => lenX y - 3) (LocP.ret (G := GX) (by omega) h2) fun y hy => ⟨by omega, hy⟩; unfold atomK; split
  · rename_i hs; obtain ⟨n0, n1⟩ := ht.2.2.1 hs; exact T (by simp [lenX, toksX, toksOf]) ⟨.int _ n0 n1, by simp only [toksX, toksOf]; exact .cons (itoa_brief n0 n1) .nil⟩
  split
  · exact con_loc.weak.map fun c hc => ⟨by simp [lenX, toksX, toksOf, oneW], .con c hc.1, by simp only [toksX, toksOf]; exact .cons hc.2 .nil⟩
  split
  · exact named_loc hE o
  split
  · exact T (by simp [lenX, toksX, toksOf]) ⟨.bool _ (.inr rfl), by simp only [toksX, toksOf]; exact .cons brief_lit .nil⟩
  split
  · exact T (by simp [lenX, toksX, toksOf]) ⟨.bool _ (.inl rfl), by simp only [toksX, toksOf]; exact .cons brief_lit .nil⟩
  split
  · exact (choices_loc hE o (.inl ⟨rfl, rfl⟩)).tail fun x hx => ⟨by omega, hx⟩
  split
  · exact (choices_loc hE o (.inr ⟨rfl, rfl⟩)).tail fun x hx => ⟨by omega, hx⟩
  split
  · exact (enclosed_loc (hE o)).weak.mono fun x hx => ⟨by omega, hx⟩
  · exact LocP.bad fun ts x q h => by
      cases ts with
      | nil => cases h
      | cons t r => cases h
theorem when_len (x c : Tx) (k : Ex) : toksX (.mk 11 x 0 [c] [k]) = openT :: (toksX k ++ [whenT', c, openT, x, shutT, shutT]) := by simp [toksX, toksXs, toksOf, whenT, kidT, namesT, sepT, openT, shutT, whenT']
theorem when_loc : ∀ g e ts y q, GX e → ts ≠ [] → GoodL ts → whenP g e ts = some (.ok y q) →
    ∃ u, ts = u ++ q ∧ q ≠ [] ∧ lenX y ≤ lenX e + 3 * u.length ∧ GX y ∧ ∀ g' u' q', u.length < g' → AlikeL u u' → q' ≠ [] → HeadL q q' → whenP g' e (u' ++ q') = some (.ok y q') := by
  intro g; induction g with
  | zero => intro e ts y q _ _ _ h; cases h
  | succ g ih =>
    intro e ts y q he hne hg h; obtain ⟨t, r, rfl⟩ := List.exists_cons_of_ne_nil hne; rw [whenP] at h; split at h
    · rename_i ht; split at h
      · cases h
      rename_i hr; rcases bindP_some h with ⟨_, _, e'⟩ | ⟨c, r1, e1, hh1⟩
      · cases e'
      rcases bindP_some hh1 with ⟨_, _, e'⟩ | ⟨x, r2, e2, hh2⟩
      · cases e'
      clear h hh1; obtain ⟨u1, rfl, n1, c1, l1, g1, m1⟩ := con_loc r c r1 hr hg.tail e1; obtain ⟨u2, rfl, n2, c2, l2, g2, m2⟩ := enclosed_loc name_loc.weak r1 x r2 n1 hg.tail.right e2; have hy : GX (.mk 11 x 0 [c] [e]) := ⟨.sample x c g2.1 g1.1 e he.1, by rw [when_len]; exact .cons brief_lit (.app he.2 (.cons brief_lit (.cons g1.2 (.cons brief_lit (.cons g2.2 (.cons brief_lit (.cons brief_lit .nil)))))))⟩; obtain ⟨u3, rfl, n3, l3, g3, m3⟩ := ih _ _ y q hy n2 hg.tail.right.right hh2; refine ⟨t :: (u1 ++ (u2 ++ u3)), by simp, n3, ?_, g3, fun g' u' q' hf ha hq hh => ?_⟩
      · have : lenX (.mk 11 x 0 [c] [e]) = lenX e + 7 := by rw [lenX, when_len]; simp [lenX]
        simp only [List.length_cons, List.length_append]; simp only [oneW] at l1 l2; omega
      · obtain ⟨t', v, rfl, hk, a⟩ := alike_cons ha; obtain ⟨v1, v, rfl, a1, a⟩ := alike_app a; obtain ⟨v2, v3, rfl, a2, a3⟩ := alike_app a; obtain ⟨g', rfl⟩ : ∃ k, g' = k + 1 := ⟨g' - 1, by omega⟩; rw [List.cons_append, whenP, if_pos (by rw [(key_parts hk).2.1]; exact ht), if_neg (by simp [hq]), List.append_assoc, m1 v1 (v2 ++ v3 ++ q') a1 (by simp [hq]) (fun e => by cases e), bindP_ok, List.append_assoc, m2 v2 (v3 ++ q') a2 (by simp [hq]) (fun e => by cases e), bindP_ok]; exact m3 g' v3 q' (by simp only [List.length_cons, List.length_append] at hf; omega) a3 hq hh
    · rename_i ht; cases h; refine ⟨[], rfl, by simp, by omega, he, fun g' u' q' hf ha hq hh => ?_⟩; rw [alike_nil ha]; obtain ⟨t', r', rfl, hk⟩ := head_cons hh; obtain ⟨g', rfl⟩ : ∃ k, g' = k + 1 := ⟨g' - 1, by simp at hf; omega⟩; rw [List.nil_append, whenP, if_neg (by rw [(key_parts hk).2.1]; exact ht)]
theorem whens_loc {e : Ex} (he : GX e) : LocP false (fun y => lenX y - lenX e) GX fun ts => whenP (ts.length + 1) e ts := by
  intro ts y q hne hg h; obtain ⟨u, h1, h2, h3, h4, h5⟩ := when_loc _ e ts y q he hne hg h; exact ⟨u, h1, h2, fun e => by (cases e), by show lenX y - lenX e ≤ _; omega, h4, fun u' q' ha hq hh => h5 _ u' q' (by have := alike_len ha; simp only [List.length_append]; omega) ha hq (hh rfl)⟩
theorem every_len (x : Tx) (cs : List Tx) (ks : List Ex) (b : Ex) : toksX (.mk 15 [] 0 [] [.mk 14 x 0 cs ks, b]) = openT :: (toksX (.mk 14 x 0 cs ks) ++ everyT :: (toksX b ++ [shutT])) := by rw [toksX_mk]; simp [toksOf, infixT, kidT, openT, shutT]
theorem sampled_loc (hU : LocX U) (hA : LocX fun ts o => atomP E o ts) (o : Nat) : LocP false lenX GX (sampledP U E o) := by
  refine (hA o).bind fun e he => ?_; by_cases h14 : e.op = 14
  · have hev : LocP false (fun y => lenX y - lenX e) GX (tailP fun ts => bindP (U ts o) fun k ts => whenP (ts.length + 1) (.mk 15 [] 0 [] [e, k]) ts) := by
      refine LocP.tail (w1 := fun y => lenX y - lenX e - 3) (G1 := GX) ((hU o).bind fun k hk => ?_) fun y hy => ⟨by omega, hy⟩; obtain ⟨op, x, n, cs, ks⟩ := e; simp only [Ex.op] at h14; subst h14; have hx : n = 0 := (by obtain ⟨h, _⟩ := he; cases h; rfl); subst hx; refine (whens_loc (e := .mk 15 [] 0 [] [.mk 14 x 0 cs ks, k]) ⟨.every x cs ks k he.1 hk.1, by rw [every_len]; exact .cons brief_lit (.app he.2 (.cons brief_lit (.app hk.2 (.cons brief_lit .nil))))⟩).mono fun y hy => ⟨?_, hy⟩; have : lenX (.mk 15 [] 0 [] [.mk 14 x 0 cs ks, k]) = lenX (.mk 14 x 0 cs ks) + lenX k + 3 := by rw [lenX, every_len]; simp only [List.length_cons, List.length_append, List.length_nil, lenX]; omega
      omega
    have := LocP.ite (at_head everyT) hev (whens_loc he); refine fun ts x q hne hg hp => ?_; have ee : ∀ ts, (if e.op = 14 ∧ atP everyT ts = true then (if ts.tail = [] then none else bindP (U ts.tail o) fun k ts => whenP (ts.length + 1) (.mk 15 [] 0 [] [e, k]) ts) else whenP (ts.length + 1) e ts) = (if atP everyT ts = true then (tailP fun ts => bindP (U ts o) fun k ts => whenP (ts.length + 1) (.mk 15 [] 0 [] [e, k]) ts) ts else whenP (ts.length + 1) e ts) := by
      intro ts; simp only [h14, true_and]; rfl
    obtain ⟨u, h1, h2, h3, h4, h5, h6⟩ := this ts x q hne hg ((ee ts).symm.trans hp); exact ⟨u, h1, h2, h3, h4, h5, fun u' q' ha hq hh => (ee _).trans (h6 u' q' ha hq hh)⟩
  · refine fun ts x q hne hg hp => ?_; have ee : ∀ ts, (if e.op = 14 ∧ atP everyT ts = true then (if ts.tail = [] then none else bindP (U ts.tail o) fun k ts => whenP (ts.length + 1) (.mk 15 [] 0 [] [e, k]) ts) else whenP (ts.length + 1) e ts) = whenP (ts.length + 1) e ts := fun ts => if_neg fun h => h14 h.1; obtain ⟨u, h1, h2, h3, h4, h5, h6⟩ := whens_loc he ts x q hne hg ((ee ts).symm.trans hp); exact ⟨u, h1, h2, h3, h4, h5, fun u' q' ha hq hh => (ee _).trans (h6 u' q' ha hq hh)⟩
theorem choice_loc (hE : LocX E) (o : Nat) : LocP false lenX GX (choiceP E o) :=
  (want_loc3 ifT).bind fun _ _ => (hE o).bind fun a ha => (want_loc thenT).bind fun _ _ => (hE o).bind fun b hb => (want_loc elseT).bind fun _ _ => (hE o).map fun c hc => by
    have e : toksX (.mk 7 [] 0 [] [a, b, c]) = openT :: ((ifT :: (toksX a ++ thenT :: (toksX b ++ elseT :: toksX c))) ++ [shutT]) := (by simp [toksX, toksXs, toksOf, choiceT, kidT, openT, shutT, ifT, thenT, elseT])
    refine ⟨?_, .choice a b c ha.1 hb.1 hc.1, ?_⟩
    · simp only [lenX, e, List.length_cons, List.length_append, List.length_nil, oneW, threeW]; omega
    · rw [e]; exact .cons brief_lit (.app (.cons brief_lit (.app ha.2 (.cons brief_lit (.app hb.2 (.cons brief_lit hc.2))))) (.cons brief_lit .nil))
def prefixK (U E : PrX) (o : Nat) (k : Key) : List Tok → Pr Ex :=
  if k.text = notT then tailP fun ts => bindP (U ts o) fun x ts => some (.ok (.mk 5 k.text 0 [] [x]) ts)
  else if k.text = minusT then tailP fun ts => bindP (U ts o) fun x ts => some (.ok (.mk 5 k.text 0 [] [x]) ts)
  else if k.text = preT then tailP fun ts => bindP (U ts o) fun x ts => some (.ok (.mk 9 [] 0 [] [x]) ts)
  else if k.text = ifT then choiceP E o
  else sampledP U E o
theorem prefix_eq (U E : PrX) (o : Nat) (ts : List Tok) : prefixedP U E o ts = match ts with | [] => none | t :: r => prefixK U E o t.key (t :: r) := by
  cases ts with
  | nil => rfl
  | cons t r =>
    obtain ⟨so, tx, nu, li, co⟩ := t; show prefixedP U E o (⟨so, tx, nu, li, co⟩ :: r) = prefixK U E o ⟨so, tx, nu⟩ (⟨so, tx, nu, li, co⟩ :: r); unfold prefixedP prefixK; dsimp only
    by_cases h0 : tx = notT
    · rw [if_pos h0, if_pos h0]; try rfl
    rw [if_neg h0, if_neg h0]; by_cases h1 : tx = minusT
    · rw [if_pos h1, if_pos h1]; try rfl
    rw [if_neg h1, if_neg h1]; by_cases h2 : tx = preT
    · rw [if_pos h2, if_pos h2]; try rfl
    rw [if_neg h2, if_neg h2]; by_cases h3 : tx = ifT
    · rw [if_pos h3, if_pos h3]; try rfl
    rw [if_neg h3, if_neg h3]
theorem prefixed_loc (hU : LocX U) (hE : LocX E) : LocX (fun ts o => prefixedP U E o ts) := by
  intro o; have : (fun ts => prefixedP U E o ts) = fun ts => match ts with | [] => none | t :: r => prefixK U E o t.key (t :: r) := funext fun ts => prefix_eq U E o ts; rw [this]; refine LocP.head fun t ht => ?_; have T : ∀ {op : Int} {nm : Tx}, (∀ k, Good k → Good (.mk op nm 0 [] [k])) → Brief nm → (op = 5 ∨ op = 9) → LocP false lenX GX (tailP fun ts => bindP (U ts o) fun x ts => some (.ok (.mk op nm 0 [] [x]) ts)) := fun {op nm} h1 h2 h3 =>
    LocP.tail (w1 := fun y => lenX y - 3) (G1 := GX) ((hU o).map fun x hx => by
      obtain ⟨u, hu, e⟩ : ∃ u, Brief u ∧ toksX (.mk op nm 0 [] [x]) = openT :: ((u :: toksX x) ++ [shutT]) := by
        rcases h3 with rfl | rfl
        · exact ⟨nm, h2, by simp [toksX, toksXs, toksOf, prefixT, kidT, openT, shutT]⟩
        · exact ⟨preT, brief_lit, by simp [toksX, toksXs, toksOf, prefixT, kidT, openT, shutT]⟩
      refine ⟨?_, h1 x hx.1, ?_⟩
      · simp only [lenX, e, List.length_cons, List.length_append, List.length_nil]; omega
      · rw [e]; exact .cons brief_lit (.app (.cons hu hx.2) (.cons brief_lit .nil))) fun y hy => ⟨by omega, hy⟩
  unfold prefixK; split
  · rename_i h; exact T (fun k hk => .un _ (.inl h) k hk) ht.2.2.2 (.inl rfl)
  split
  · rename_i h; exact T (fun k hk => .un _ (.inr h) k hk) ht.2.2.2 (.inl rfl)
  split
  · exact T (fun k hk => .pre k hk) brief_lit (.inr rfl)
  split
  · exact choice_loc hE o
  · exact sampled_loc hU (atom_loc hE) o
theorem strong_case {s : Tx} (h : 1 ≤ strongT s) : s = arrowT ∨ s = fbyT ∨ (s ∈ binsL ∧ s ≠ arrowT ∧ s ≠ fbyT) := by
  by_cases h1 : s = arrowT
  · exact .inl h1
  by_cases h2 : s = fbyT
  · exact .inr (.inl h2)
  refine .inr (.inr ⟨?_, h1, h2⟩); unfold strongT at h; rw [if_neg h1, if_neg h2] at h; repeat' split at h
  all_goals first | omega | (subst_vars; decide) | skip
theorem oper_good {s : Tx} (h : 1 ≤ strongT s) {a b : Ex} (ha : GX a) (hb : GX b) : GX (operE s a b) ∧ lenX (operE s a b) = lenX a + lenX b + 3 := by
  have key : ∀ {op : Int} {nm w : Tx}, Good (.mk op nm 0 [] [a, b]) → Brief w → toksX (.mk op nm 0 [] [a, b]) = openT :: ((toksX a ++ w :: toksX b) ++ [shutT]) → GX (.mk op nm 0 [] [a, b]) ∧ lenX (.mk op nm 0 [] [a, b]) = lenX a + lenX b + 3 := fun h1 h2 e => by
    refine ⟨⟨h1, ?_⟩, ?_⟩
    · rw [e]; exact .cons brief_lit (.app (.app ha.2 (.cons h2 hb.2)) (.cons brief_lit .nil))
    · simp only [lenX, e, List.length_cons, List.length_append, List.length_nil]; omega
  unfold operE; rcases strong_case h with rfl | rfl | ⟨h1, h2, h3⟩
  · rw [if_pos rfl]; exact key (.arrow a b ha.1 hb.1) (brief_lit (t := arrowT)) (by simp [toksX, toksXs, toksOf, infixT, kidT, openT, shutT])
  · rw [if_neg (by decide), if_pos rfl]; exact key (.fby a b ha.1 hb.1) (brief_lit (t := fbyT)) (by simp [toksX, toksXs, toksOf, infixT, kidT, openT, shutT])
  · rw [if_neg h2, if_neg h3]; have hbr : Brief s := by
      have : ∀ o ∈ binsL, Brief o := by decide
      exact this s h1
    exact key (.bin s h1 a b ha.1 hb.1) hbr (by simp [toksX, toksXs, toksOf, infixT, kidT, openT, shutT])
end
def loopK (f s : Nat) (e : Ex) (o : Nat) (k : Key) : List Tok → Pr Ex :=
  if strongT k.text = s then tailP fun ts => if s = 1 ∨ s = 2 then bindP (opX f s ts o) fun x ts => some (.ok (operE k.text e x) ts)
    else if s = 5 then bindP (opX f (s + 1) ts o) fun x ts => some (.ok (operE k.text e x) ts)
    else bindP (opX f (s + 1) ts o) fun x ts => loopX f s (operE k.text e x) ts o
  else fun ts => some (.ok e ts)
theorem loop_eq (f s : Nat) (e : Ex) (o : Nat) (ts : List Tok) : loopX (f + 1) s e ts o = match ts with | [] => none | t :: r => loopK f s e o t.key (t :: r) := by
  cases ts with
  | nil => rw [loopX]
  | cons t r =>
    obtain ⟨so, tx, nu, li, co⟩ := t; show loopX (f + 1) s e (⟨so, tx, nu, li, co⟩ :: r) o = loopK f s e o ⟨so, tx, nu⟩ (⟨so, tx, nu, li, co⟩ :: r); rw [loopX]; unfold loopK; dsimp only
    by_cases h : strongT tx = s
    · rw [if_pos h, if_pos h]; try rfl
    · rw [if_neg h, if_neg h]
theorem all_loc : ∀ f : Nat, (∀ s, 1 ≤ s → LocX (opX f s)) ∧ (∀ s e, 1 ≤ s → GX e → ∀ o, LocP false (fun y => lenX y - lenX e) GX fun ts => loopX f s e ts o) ∧ LocX (unX f) := by
  intro f; induction f with
  | zero =>
    refine ⟨fun s _ o => LocP.bad fun ts x q h => ?_, fun s e _ _ o => LocP.bad fun ts x q h => ?_, fun o => LocP.bad fun ts x q h => ?_⟩
    · rw [opX] at h; cases h
    · rw [loopX] at h; cases h
    · rw [unX] at h; cases h
  | succ f ih =>
    obtain ⟨i1, i2, i3⟩ := ih; refine ⟨fun s hs o => ?_, fun s e hs he o => ?_, fun o => ?_⟩
    · have : (fun ts => opX (f + 1) s ts o) = fun ts => if s = 8 then unX f ts o else bindP (opX f (s + 1) ts o) fun e ts => loopX f s e ts o := funext fun ts => by rw [opX]
      rw [this]; by_cases h8 : s = 8
      · simp only [if_pos h8]; exact i3 o
      · simp only [if_neg h8]; exact (i1 (s + 1) (by omega) o).bind fun e he => i2 s e hs he o
    · have : (fun ts => loopX (f + 1) s e ts o) = fun ts => match ts with | [] => none | t :: r => loopK f s e o t.key (t :: r) := funext fun ts => loop_eq f s e o ts; rw [this]; refine LocP.head fun t ht => ?_; unfold loopK; by_cases hst : strongT t.key.text = s
      · rw [if_pos hst]; have hop : 1 ≤ strongT t.key.text := (by omega); refine LocP.tail (w1 := fun y => lenX y - lenX e - 3) (G1 := GX) ?_ fun y hy => ⟨by omega, hy⟩; by_cases h12 : s = 1 ∨ s = 2
        · simp only [if_pos h12]; exact (i1 s hs o).map fun x hx => ⟨by have := (oper_good hop he hx).2; omega, (oper_good hop he hx).1⟩
        · simp only [if_neg h12]; by_cases h5 : s = 5
          · simp only [if_pos h5]; exact (i1 (s + 1) (by omega) o).map fun x hx => ⟨by have := (oper_good hop he hx).2; omega, (oper_good hop he hx).1⟩
          · simp only [if_neg h5]; exact (i1 (s + 1) (by omega) o).bind fun x hx => (i2 s _ hs (oper_good hop he hx).1 o).mono fun y hy => ⟨by have := (oper_good hop he hx).2; omega, hy⟩
      · rw [if_neg hst]; exact LocP.ret (by omega) he
    · have : (fun ts => unX (f + 1) ts o) = fun ts => match ts with | [] => none | t :: r => (fun (k : Key) (ts : List Tok) => if o = 100 then (match ts with | [] => none | t :: _ => some (.bad (faultT 9 t))) else prefixedP (unX f) (opX f 1) (o + 1) ts) t.key (t :: r) := funext fun ts => by
        cases ts with
        | nil => rw [unX]
        | cons t r => rw [unX]
      rw [this]; refine LocP.head (F := fun (k : Key) (ts : List Tok) => if o = 100 then (match ts with | [] => none | t :: _ => some (.bad (faultT 9 t))) else prefixedP (unX f) (opX f 1) (o + 1) ts) fun t ht => ?_; by_cases h : o = 100
      · simp only [if_pos h]; exact LocP.bad fun ts x q h => by
          cases ts with
          | nil => cases h
          | cons t r => cases h
      · simp only [if_neg h]; exact prefixed_loc i3 (i1 1 (Nat.le_refl _)) (o + 1)
end Go.Proofs.YtlhmdjhfmhkllaaGreatDoor
