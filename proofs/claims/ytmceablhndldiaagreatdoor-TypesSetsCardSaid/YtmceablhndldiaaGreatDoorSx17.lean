/-
  A symbolic run hangs on the cells alone that its log names.
-/
import Derived.Test.YtmceablhndldiaaGreatDoorSx16
namespace Go.Sx

/-- what lies at a place: a cell of a row; or at no offset: which kind of object; a map lies at each of its places -/
noncomputable def vw (h : H) (n : Nat) (x : Option Nat) : Option (AO ⊕ AV) :=
  match h.get n, x with
  | none, _ => none
  | some (.row _), none => some (.inl (.row []))
  | some (.row cs), some i => (cs[i]?).map .inr
  | some (.mp es k), _ => some (.inl (.mp es k))
theorem vw_none {h : H} {n : Nat} (e : h.get n = none) (x : Option Nat) : vw h n x = none := by unfold vw; rw [e]
theorem vw_congr {g h : H} {n : Nat} (e : g.get n = h.get n) (x : Option Nat) : vw g n x = vw h n x := by unfold vw; rw [e]
theorem vw_row {h : H} {n : Nat} {cs : List AV} (e : h.get n = some (.row cs)) (i : Nat) : vw h n (some i) = (cs[i]?).map .inr := by unfold vw; rw [e]
theorem vw_tag {h : H} {n : Nat} {cs : List AV} (e : h.get n = some (.row cs)) : vw h n none = some (.inl (.row [])) := by unfold vw; rw [e]
theorem vw_map {h : H} {n : Nat} {es : List (AV × AV × Nat)} {k : Nat} (e : h.get n = some (.mp es k)) (x : Option Nat) : vw h n x = some (.inl (.mp es k)) := by unfold vw; rw [e]
theorem vw_ext {g h : H} {n : Nat} (e : ∀ x, vw g n x = vw h n x) : g.get n = h.get n := by
  have e0 := e none
  cases hh : h.get n with
  | none =>
    rw [vw_none hh] at e0
    cases hg : g.get n with
    | none => rfl
    | some o => cases o with
      | row cs => rw [vw_tag hg] at e0; cases e0
      | mp es k => rw [vw_map hg] at e0; cases e0
  | some o =>
    cases o with
    | mp es k =>
      rw [vw_map hh] at e0
      cases hg : g.get n with
      | none => rw [vw_none hg] at e0; cases e0
      | some o => cases o with
        | row cs => rw [vw_tag hg] at e0; cases e0
        | mp es k => rw [vw_map hg] at e0; cases e0; rfl
    | row cs =>
      rw [vw_tag hh] at e0
      cases hg : g.get n with
      | none => rw [vw_none hg] at e0; cases e0
      | some o => cases o with
        | mp es k => rw [vw_map hg] at e0; cases e0
        | row ds =>
          have : ds = cs := by
            apply List.ext_getElem?
            intro i
            have := e (some i)
            rw [vw_row hg, vw_row hh] at this
            cases h1 : ds[i]? <;> cases h2 : cs[i]? <;> rw [h1, h2] at this <;> first | rfl | (cases this; rfl) | cases this
          rw [this]
theorem vw_cell {g : H} {n i : Nat} {v : AV} (e : vw g n (some i) = some (.inr v)) : ∃ cs, g.get n = some (.row cs) ∧ cs[i]? = some v := by
  cases hg : g.get n with
  | none => rw [vw_none hg] at e; cases e
  | some o => cases o with
    | mp es k => rw [vw_map hg] at e; cases e
    | row cs =>
      rw [vw_row hg] at e
      cases h1 : cs[i]? with
      | none => rw [h1] at e; cases e
      | some u => rw [h1] at e; cases e; exact ⟨cs, rfl, h1⟩
theorem vw_whole {g h : H} {n : Nat} {es : List (AV × AV × Nat)} {k : Nat} (hh : h.get n = some (.mp es k)) (e : vw g n none = vw h n none) : g.get n = some (.mp es k) := by
  rw [vw_map hh] at e
  cases hg : g.get n with
  | none => rw [vw_none hg] at e; cases e
  | some o => cases o with
    | row cs => rw [vw_tag hg] at e; cases e
    | mp es' k' => rw [vw_map hg] at e; cases e; rfl
/-- the places that a log touches; those that it writes -/
def Tou (l : Log) (n : Nat) (x : Option Nat) : Prop := ∃ b, (n, none, b) ∈ l ∨ ∃ i, x = some i ∧ (n, some i, b) ∈ l
def Wri (l : Log) (n : Nat) (x : Option Nat) : Prop := (n, none, true) ∈ l ∨ ∃ i, x = some i ∧ (n, some i, true) ∈ l
theorem Wri.tou {l : Log} {n : Nat} {x : Option Nat} (h : Wri l n x) : Tou l n x := by
  rcases h with h | ⟨i, h1, h2⟩
  · exact ⟨true, .inl h⟩
  · exact ⟨true, .inr ⟨i, h1, h2⟩⟩
theorem Tou.left {l k : Log} {n : Nat} {x : Option Nat} (h : Tou l n x) : Tou (l ++ k) n x := by
  obtain ⟨b, h⟩ := h
  rcases h with h | ⟨i, h1, h2⟩
  · exact ⟨b, .inl (List.mem_append_left _ h)⟩
  · exact ⟨b, .inr ⟨i, h1, List.mem_append_left _ h2⟩⟩
theorem Tou.right {l k : Log} {n : Nat} {x : Option Nat} (h : Tou k n x) : Tou (l ++ k) n x := by
  obtain ⟨b, h⟩ := h
  rcases h with h | ⟨i, h1, h2⟩
  · exact ⟨b, .inl (List.mem_append_right _ h)⟩
  · exact ⟨b, .inr ⟨i, h1, List.mem_append_right _ h2⟩⟩
theorem Wri.append {l k : Log} {n : Nat} {x : Option Nat} : Wri (l ++ k) n x ↔ Wri l n x ∨ Wri k n x := by
  unfold Wri
  constructor
  · rintro (h | ⟨i, h1, h2⟩)
    · rcases List.mem_append.1 h with h | h
      · exact .inl (.inl h)
      · exact .inr (.inl h)
    · rcases List.mem_append.1 h2 with h | h
      · exact .inl (.inr ⟨i, h1, h⟩)
      · exact .inr (.inr ⟨i, h1, h⟩)
  · rintro ((h | ⟨i, h1, h2⟩) | (h | ⟨i, h1, h2⟩))
    · exact .inl (List.mem_append_left _ h)
    · exact .inr ⟨i, h1, List.mem_append_left _ h2⟩
    · exact .inl (List.mem_append_right _ h)
    · exact .inr ⟨i, h1, List.mem_append_right _ h2⟩
def TouC (l : Log) (c c' n : Nat) (x : Option Nat) : Prop := (c ≤ n ∧ n < c') ∨ Tou l n x
def WriC (l : Log) (c c' n : Nat) (x : Option Nat) : Prop := (c ≤ n ∧ n < c') ∨ Wri l n x
theorem WriC.tou {l : Log} {c c' n : Nat} {x : Option Nat} (h : WriC l c c' n x) : TouC l c c' n x := h.imp id Wri.tou
theorem blt_true {n c : Nat} (h : n < c) : Nat.blt n c = true := by rw [blt_dec]; exact decide_eq_true h
structure LoAt {α : Type} (m : M α) (c : Nat) (h : H) (a : α) (c' : Nat) (h' : H) (l : Log) : Prop where
  le : c ≤ c'
  low : ∀ q ∈ l, q.1 < c'
  stay : ∀ n x, ¬ WriC l c c' n x → vw h' n x = vw h n x
  carry : ∀ g, (∀ n x, TouC l c c' n x → vw g n x = vw h n x) → ∃ g', m c g = .ok a c' g' l ∧ (∀ n x, WriC l c c' n x → vw g' n x = vw h' n x) ∧ ∀ n x, ¬ WriC l c c' n x → vw g' n x = vw g n x
def Lo {α : Type} (m : M α) : Prop := ∀ c h a c' h' l, m c h = .ok a c' h' l → LoAt m c h a c' h' l
section
variable {α β : Type}
theorem Lo.pure (a : α) : Lo (M.pure a) := by
  intro c h b c' h' l e
  obtain ⟨rfl, rfl, rfl, rfl⟩ := pure_ok e
  refine ⟨Nat.le_refl _, fun q hq => (by cases hq), fun n x _ => rfl, fun g _ => ⟨g, rfl, fun n x hw => ?_, fun n x _ => rfl⟩⟩
  rcases hw with ⟨h1, h2⟩ | h | ⟨i, _, h⟩
  · omega
  · cases h
  · cases h
theorem Lo.fail : Lo (fail : M α) := fun _ _ _ _ _ _ e => by cases e
theorem map_run {f : α → β} {m : M α} {c c' : Nat} {h h' : H} {a : α} {l : Log} (e : m c h = .ok a c' h' l) : M.map f m c h = .ok (f a) c' h' l := by
  show Rs.rec (motive := fun _ => Rs β) .fail (fun a c h l => .ok (f a) c h l) (m c h) = _
  rw [e]
theorem bind_run {m : M α} {k : α → M β} {c c1 c2 : Nat} {h h1 h2 : H} {a : α} {b : β} {l1 l2 : Log} (e : m c h = .ok a c1 h1 l1) (f : k a c1 h1 = .ok b c2 h2 l2) : M.bind m k c h = .ok b c2 h2 (l1 ++ l2) := by
  show Rs.andThen k (m c h) = _
  rw [e]
  show Rs.rec (motive := fun _ => Rs β) .fail (fun b c h l2 => .ok b c h (List.append l1 l2)) (k a c1 h1) = _
  rw [f]
  rfl
theorem Lo.map {f : α → β} {m : M α} (hm : Lo m) : Lo (M.map f m) := by
  intro c h b c' h' l e
  obtain ⟨a, e2, rfl⟩ := map_ok e
  obtain ⟨h1, h3, h4, h5⟩ := hm c h a c' h' l e2
  refine ⟨h1, h3, h4, fun g hg => ?_⟩
  obtain ⟨g', k1, k2⟩ := h5 g hg
  exact ⟨g', map_run k1, k2⟩
theorem Lo.bind {m : M α} {k : α → M β} (hm : Lo m) (hk : ∀ a, Lo (k a)) : Lo (M.bind m k) := by
  intro c h b c2 h2 l e
  obtain ⟨a, c1, h1, l1, l2, e1, e2, rfl⟩ := bind_ok e
  obtain ⟨p1, p3, p4, p5⟩ := hm c h a c1 h1 l1 e1
  obtain ⟨q1, q3, q4, q5⟩ := hk a c1 h1 b c2 h2 l2 e2
  have hW : ∀ n x, WriC (l1 ++ l2) c c2 n x ↔ WriC l1 c c1 n x ∨ WriC l2 c1 c2 n x := fun n x => by
    unfold WriC
    rw [Wri.append]
    constructor
    · rintro (⟨h1, h2⟩ | h | h)
      · rcases Nat.lt_or_ge n c1 with hh | hh
        · exact .inl (.inl ⟨h1, hh⟩)
        · exact .inr (.inl ⟨hh, h2⟩)
      · exact .inl (.inr h)
      · exact .inr (.inr h)
    · rintro ((⟨h1, h2⟩ | h) | (⟨h1, h2⟩ | h))
      · exact .inl ⟨h1, by omega⟩
      · exact .inr (.inl h)
      · exact .inl ⟨by omega, h2⟩
      · exact .inr (.inr h)
  have hT1 : ∀ n x, TouC l1 c c1 n x → TouC (l1 ++ l2) c c2 n x := fun n x h => by
    rcases h with ⟨h1, h2⟩ | h
    · exact .inl ⟨h1, by omega⟩
    · exact .inr h.left
  have hT2 : ∀ n x, TouC l2 c1 c2 n x → TouC (l1 ++ l2) c c2 n x := fun n x h => by
    rcases h with ⟨h1, h2⟩ | h
    · exact .inl ⟨by omega, h2⟩
    · exact .inr h.right
  refine ⟨Nat.le_trans p1 q1, fun q hq => ?_, fun n x hn => ?_, fun g hg => ?_⟩
  · rcases List.mem_append.1 hq with hq | hq
    · exact Nat.lt_of_lt_of_le (p3 q hq) q1
    · exact q3 q hq
  · rw [q4 n x fun h => hn ((hW n x).2 (.inr h)), p4 n x fun h => hn ((hW n x).2 (.inl h))]
  · obtain ⟨g1, k1, k2, k3⟩ := p5 g fun n x h => hg n x (hT1 n x h)
    have hg1 : ∀ n x, TouC l2 c1 c2 n x → vw g1 n x = vw h1 n x := fun n x h => by
      by_cases hw : WriC l1 c c1 n x
      · exact k2 n x hw
      · rw [k3 n x hw, p4 n x hw]
        exact hg n x (hT2 n x h)
    obtain ⟨g2, m1, m2, m3⟩ := q5 g1 hg1
    refine ⟨g2, bind_run k1 m1, fun n x hw => ?_, fun n x hw => ?_⟩
    · by_cases hw2 : WriC l2 c1 c2 n x
      · exact m2 n x hw2
      · rw [m3 n x hw2, q4 n x hw2]
        rcases (hW n x).1 hw with h | h
        · exact k2 n x h
        · exact absurd h hw2
    · rw [m3 n x fun h => hw ((hW n x).2 (.inr h)), k3 n x fun h => hw ((hW n x).2 (.inl h))]
theorem Lo.ifB {b : Bool} {m k : M α} (h1 : Lo m) (h2 : Lo k) : Lo (ifB b m k) := by cases b <;> assumption
theorem Lo.ifS {o : Option β} {d : M α} {k : β → M α} (h1 : Lo d) (h2 : ∀ a, Lo (k a)) : Lo (ifS d k o) := by
  cases o
  · exact h1
  · exact h2 _
theorem Lo.ifC {o : List β} {d : M α} {k : β → List β → M α} (h1 : Lo d) (h2 : ∀ a t, Lo (k a t)) : Lo (ifC d k o) := by
  cases o
  · exact h1
  · exact h2 _ _
theorem Lo.onBool {v : AV} {d : M α} {k : Bool → M α} (h1 : Lo d) (h2 : ∀ a, Lo (k a)) : Lo (onBool d k v) := by cases v <;> first | exact h2 _ | exact h1
theorem Lo.onInt {v : AV} {d : M α} {k : IntKind → Int → M α} (h1 : Lo d) (h2 : ∀ a b, Lo (k a b)) : Lo (onInt d k v) := by cases v <;> first | exact h2 _ _ | exact h1
theorem Lo.onStr {v : AV} {d : M α} {k : List Nat → M α} (h1 : Lo d) (h2 : ∀ a, Lo (k a)) : Lo (onStr d k v) := by cases v <;> first | exact h2 _ | exact h1
theorem Lo.onPtr {v : AV} {d : M α} {k : Option (Nat × Nat) → M α} (h1 : Lo d) (h2 : ∀ a, Lo (k a)) : Lo (onPtr d k v) := by cases v <;> first | exact h2 _ | exact h1
theorem Lo.onSlice {v : AV} {d : M α} {k : Option (Nat × Nat) → Nat → Nat → Nat → M α} (h1 : Lo d) (h2 : ∀ a n m z, Lo (k a n m z)) : Lo (onSlice d k v) := by cases v <;> first | exact h2 _ _ _ _ | exact h1
theorem Lo.onMap {v : AV} {d : M α} {k : Option Nat → M α} (h1 : Lo d) (h2 : ∀ a, Lo (k a)) : Lo (onMap d k v) := by cases v <;> first | exact h2 _ | exact h1
theorem Lo.onFn {v : AV} {d : M α} {k : Nat → List AV → List AV → M α} (h1 : Lo d) (h2 : ∀ a b c, Lo (k a b c)) : Lo (onFn d k v) := by cases v <;> first | exact h2 _ _ _ | exact h1
theorem Lo.onAgg {v : AV} {d : M α} {k : List AV → M α} (h1 : Lo d) (h2 : ∀ a, Lo (k a)) : Lo (onAgg d k v) := by cases v <;> first | exact h2 _ | exact h1
theorem Lo.onTuple {v : AV} {d : M α} {k : List AV → M α} (h1 : Lo d) (h2 : ∀ a, Lo (k a)) : Lo (onTuple d k v) := by cases v <;> first | exact h2 _ | exact h1
theorem Lo.onNat {v : Int} {d : M α} {k : Nat → M α} (h1 : Lo d) (h2 : ∀ a, Lo (k a)) : Lo (onNat d k v) := by cases v <;> first | exact h2 _ | exact h1
end
theorem Lo.newO (o : AO) : Lo (newO o) := by
  intro c h n c' h' l e
  obtain ⟨rfl, rfl, rfl, rfl⟩ := newO_ok e
  have hW : ∀ m x, WriC [] n (n + 1) m x ↔ m = n := fun m x => by
    constructor
    · rintro (⟨h1, h2⟩ | h | ⟨i, _, h⟩)
      · omega
      · cases h
      · cases h
    · intro h; exact .inl (by omega)
  refine ⟨Nat.le_succ _, fun q hq => (by cases hq), fun m x hn => ?_, fun g _ => ⟨g.set n (some o), rfl, fun m x hw => ?_, fun m x hn => ?_⟩⟩
  · exact vw_congr (by rw [T.get_set, if_neg fun e => hn ((hW m x).2 e)]) x
  · have := (hW m x).1 hw
    subst this
    exact vw_congr (by rw [T.get_set, T.get_set, if_pos rfl, if_pos rfl]) x
  · exact vw_congr (by rw [T.get_set, if_neg fun e => hn ((hW m x).2 e)]) x
theorem Lo.getMap (n : Nat) : Lo (getMap n) := by
  intro c h r c' h' l e
  obtain ⟨h1, rfl, rfl, rfl, hlt⟩ := getMap_ok e
  have hW : ∀ m x, ¬ WriC [(n, none, false)] c' c' m x := fun m x hw => by
    rcases hw with ⟨h1, h2⟩ | h | ⟨i, _, h⟩
    · omega
    · simp at h
    · simp at h
  refine ⟨Nat.le_refl _, fun q hq => ?_, fun m x _ => rfl, fun g hg => ⟨g, ?_, fun m x hw => absurd hw (hW m x), fun m x _ => rfl⟩⟩
  · simp only [List.mem_singleton] at hq
    subst hq
    exact hlt
  · have hg1 := vw_whole h1 (hg n none (.inr ⟨false, .inl (List.mem_singleton.2 rfl)⟩))
    unfold Sx.getMap
    rw [blt_true hlt, hg1]
    rfl
theorem wri_one {n c m : Nat} {x : Option Nat} : WriC [(n, none, true)] c c m x ↔ m = n := by
  constructor
  · rintro (⟨h1, h2⟩ | h | ⟨i, _, h⟩)
    · omega
    · simpa using h
    · simp at h
  · intro h; exact .inr (.inl (by simp [h]))
theorem LoAt.set_one {α : Type} {m : M α} {n c : Nat} {h : H} {a : α} {o : Option AO} (hn : n < c) (hm : ∀ g, (∀ x, vw g n x = vw h n x) → m c g = .ok a c (g.set n o) [(n, none, true)]) : LoAt m c h a c (h.set n o) [(n, none, true)] := by
  refine ⟨Nat.le_refl _, fun q hq => ?_, fun m x hn => ?_, fun g hg => ⟨g.set n o, hm g fun x => hg n x (.inr ⟨true, .inl (List.mem_singleton.2 rfl)⟩), fun m x hw => ?_, fun m x hn => ?_⟩⟩
  · simp only [List.mem_singleton] at hq
    subst hq
    exact hn
  · exact vw_congr (by rw [T.get_set, if_neg fun e => hn (wri_one.2 e)]) x
  · have := wri_one.1 hw
    subst this
    exact vw_congr (by rw [T.get_set, T.get_set, if_pos rfl, if_pos rfl]) x
  · exact vw_congr (by rw [T.get_set, if_neg fun e => hn (wri_one.2 e)]) x
theorem Lo.setMap (n : Nat) (r : List (AV × AV × Nat) × Nat) : Lo (setMap n r) := by
  intro c h u c' h' l e
  obtain ⟨rfl, rfl, rfl, hlt, o, ho⟩ := setMap_ok e
  refine LoAt.set_one hlt fun g hg => ?_
  unfold Sx.setMap
  rw [blt_true hlt, vw_ext hg, ho]
  rfl
theorem Lo.killRow (n off k : Nat) : Lo (killRow n off k) := by
  intro c h v c' h' l e
  obtain ⟨cs, h1, h2, rfl, rfl, rfl, hlt⟩ := killRow_ok e
  refine LoAt.set_one hlt fun g hg => ?_
  unfold Sx.killRow rowOf
  rw [blt_true hlt, vw_ext hg, h1]
  show Sx.ifS Rs.fail (fun l => Rs.ok l c' (g.set n none) [(n, none, true)]) (takeN k (dropN off cs)) = _
  rw [h2]
  rfl
/-- what reads alone -/
theorem LoAt.reads {α : Type} {m : M α} {c : Nat} {h : H} {a : α} {l : Log} (hl : ∀ q ∈ l, q.1 < c ∧ q.2.2 = false) (hm : ∀ g, (∀ n x, Tou l n x → vw g n x = vw h n x) → m c g = .ok a c g l) : LoAt m c h a c h l := by
  have hW : ∀ m x, ¬ WriC l c c m x := fun m x hw => by
    rcases hw with ⟨h1, h2⟩ | h | ⟨i, _, h⟩
    · omega
    · have := (hl _ h).2; cases this
    · have := (hl _ h).2; cases this
  exact ⟨Nat.le_refl _, fun q hq => (hl q hq).1, fun n x _ => rfl, fun g hg => ⟨g, hm g fun n x h => hg n x (.inr h), fun n x hw => absurd hw (hW n x), fun n x _ => rfl⟩⟩
theorem Lo.load1 (n off : Nat) : Lo (load1 n off) := by
  intro c h v c' h' l e
  obtain ⟨cs, t, h1, h2, rfl, rfl, rfl, hlt⟩ := load1_ok e
  refine LoAt.reads (fun q hq => ?_) fun g hg => ?_
  · simp only [List.mem_singleton] at hq
    subst hq
    exact ⟨hlt, rfl⟩
  · have hv : cs[off]? = some v := by
      rw [dropN_eq] at h2
      simpa [List.head?_drop] using congrArg List.head? h2
    have := hg n (some off) ⟨false, .inr ⟨off, rfl, List.mem_singleton.2 rfl⟩⟩
    rw [vw_row h1, hv] at this
    obtain ⟨ds, g1, g2⟩ := vw_cell this
    unfold Sx.load1 rowOf
    rw [blt_true hlt, g1]
    show Sx.ifC Rs.fail (fun v _ => Rs.ok v c' g [(n, some off, false)]) (dropN off ds) = _
    have hd : ∃ t', dropN off ds = v :: t' := by
      rw [dropN_eq]
      have hlt : off < ds.length := by
        rcases Nat.lt_or_ge off ds.length with hh | hh
        · exact hh
        · rw [List.getElem?_eq_none hh] at g2; cases g2
      rw [List.drop_eq_getElem_cons hlt]
      rw [List.getElem?_eq_getElem hlt] at g2
      cases g2
      exact ⟨_, rfl⟩
    obtain ⟨t', hd⟩ := hd
    rw [hd]
    rfl
theorem locs_mem {b : Bool} {n : Nat} : ∀ {k off : Nat} {q : Nat × Option Nat × Bool}, q ∈ locs b n k off ↔ ∃ i, i < k ∧ q = (n, some (off + i), b)
  | 0, off, q => by
    constructor
    · intro h; cases h
    · rintro ⟨i, h, _⟩; omega
  | k + 1, off, q => by
    show q ∈ (n, some off, b) :: locs b n k (off + 1) ↔ _
    rw [List.mem_cons, locs_mem]
    constructor
    · rintro (rfl | ⟨i, h, rfl⟩)
      · exact ⟨0, by omega, rfl⟩
      · exact ⟨i + 1, by omega, by rw [show off + 1 + i = off + (i + 1) by omega]⟩
    · rintro ⟨i, h, rfl⟩
      cases i with
      | zero => exact .inl rfl
      | succ i => exact .inr ⟨i, by omega, by rw [show off + 1 + i = off + (i + 1) by omega]⟩
/-- cells that are alike -/
theorem row_alike {g h : H} {n off k : Nat} {b : Bool} {cs : List AV} (h1 : h.get n = some (.row cs)) (hk : off + k ≤ cs.length) (h0 : k ≠ 0) (hg : ∀ m x, Tou (locs b n k off) m x → vw g m x = vw h m x) :
    ∃ ds, g.get n = some (.row ds) ∧ ∀ i, i < k → ds[off + i]? = cs[off + i]? := by
  have key : ∀ i, i < k → ∃ ds, g.get n = some (.row ds) ∧ ds[off + i]? = cs[off + i]? := fun i hi => by
    have := hg n (some (off + i)) ⟨b, .inr ⟨off + i, rfl, locs_mem.2 ⟨i, hi, rfl⟩⟩⟩
    rw [vw_row h1, List.getElem?_eq_getElem (by omega)] at this
    obtain ⟨ds, g1, g2⟩ := vw_cell this
    exact ⟨ds, g1, by rw [g2, List.getElem?_eq_getElem (by omega)]⟩
  obtain ⟨ds, g1, _⟩ := key 0 (by omega)
  refine ⟨ds, g1, fun i hi => ?_⟩
  obtain ⟨ds', g1', g2⟩ := key i hi
  rw [g1] at g1'
  cases g1'
  exact g2
theorem takeN_some : ∀ (k : Nat) (l : List AV), k ≤ l.length → takeN k l = some (l.take k)
  | 0, _, _ => rfl
  | k + 1, [], h => by simp at h
  | k + 1, a :: l, h => by
    show ifS none (fun r => some (a :: r)) (takeN k l) = _
    rw [takeN_some k l (by simpa using h)]
    rfl
theorem putL_some : ∀ (vs cs : List AV), vs.length ≤ cs.length → ∃ r, putL vs cs = some r
  | [], cs, _ => ⟨cs, rfl⟩
  | _ :: _, [], h => by simp at h
  | v :: vs, c :: cs, h => by
    obtain ⟨r, hr⟩ := putL_some vs cs (by simpa using h)
    exact ⟨v :: r, by show ifS none (fun r => some (v :: r)) (putL vs cs) = _; rw [hr]; rfl⟩
theorem putAt_some (vs : List AV) : ∀ (n : Nat) (cs : List AV), n + vs.length ≤ cs.length → ∃ r, putAt vs n cs = some r
  | 0, cs, h => putL_some vs cs (by simpa using h)
  | n + 1, [], h => by simp at h
  | n + 1, c :: cs, h => by
    obtain ⟨r, hr⟩ := putAt_some vs n cs (by simp only [List.length_cons] at h; omega)
    exact ⟨c :: r, by show ifS none (fun r => some (c :: r)) (putAt vs n cs) = _; rw [hr]; rfl⟩
theorem Lo.loadN (n off k : Nat) : Lo (loadN n off k) := by
  unfold Sx.loadN
  cases hk0 : Nat.beq k 0 with
  | true => exact Lo.pure _
  | false =>
    have h0 : k ≠ 0 := fun e => by subst e; cases hk0
    intro c h v c' h' l e
    obtain ⟨cs, h1, h2, rfl, rfl, rfl, hlt⟩ := loadR_ok (show loadR n off k c h = _ from e)
    obtain ⟨rfl, hk⟩ := takeN_eq _ _ _ h2
    rw [dropN_eq, List.length_drop] at hk
    refine LoAt.reads (fun q hq => ?_) fun g hg => ?_
    · obtain ⟨i, _, rfl⟩ := locs_mem.1 hq
      exact ⟨hlt, rfl⟩
    · obtain ⟨ds, g1, g2⟩ := row_alike h1 (by omega) h0 hg
      show loadR n off k c' g = _
      unfold loadR rowOf
      rw [blt_true hlt, g1]
      show Sx.ifS Rs.fail (fun l => Rs.ok l c' g (locs false n k off)) (takeN k (dropN off ds)) = _
      have hlen : off + k ≤ ds.length := by
        have := g2 (k - 1) (by omega)
        rw [List.getElem?_eq_getElem (by omega : off + (k - 1) < cs.length)] at this
        have hh := (List.getElem?_eq_some_iff.1 this).1
        omega
      have : takeN k (dropN off ds) = some ((dropN off cs).take k) := by
        rw [dropN_eq, dropN_eq, takeN_some k _ (by rw [List.length_drop]; omega)]
        congr 1
        apply List.ext_getElem?
        intro i
        rw [List.getElem?_take, List.getElem?_take]
        split
        · rename_i hi
          rw [List.getElem?_drop, List.getElem?_drop]
          exact g2 i hi
        · rfl
      rw [this]
      rfl
theorem Lo.storeN (n off : Nat) (vs : List AV) : Lo (storeN n off vs) := by
  cases vs with
  | nil => exact Lo.pure _
  | cons v vs =>
    intro c h u c' h' l e
    obtain ⟨cs, r, h1, h2, h3, rfl, rfl, rfl, hlt⟩ := storeR_ok (show storeR n off (v :: vs) c h = _ from e)
    generalize hvs : v :: vs = us at *
    have h0 : us.length ≠ 0 := by rw [← hvs]; simp
    obtain ⟨hr, hk⟩ := putAt_eq _ _ _ _ h2
    have hW : ∀ m x, WriC (locs true n (len us) off) c' c' m x ↔ m = n ∧ ∃ i, i < us.length ∧ x = some (off + i) := fun m x => by
      rw [len_eq]
      constructor
      · rintro (⟨h1, h2⟩ | h | ⟨i, rfl, h⟩)
        · omega
        · obtain ⟨i, _, hh⟩ := locs_mem.1 h; cases hh
        · obtain ⟨j, hj, hh⟩ := locs_mem.1 h; cases hh; exact ⟨rfl, j, hj, rfl⟩
      · rintro ⟨rfl, i, hi, rfl⟩
        exact .inr (.inr ⟨_, rfl, locs_mem.2 ⟨i, hi, rfl⟩⟩)
    have hcell : ∀ (es q : List AV), q = es.take off ++ (us ++ es.drop (off + us.length)) → off + us.length ≤ es.length → ∀ i, q[i]? = if off ≤ i ∧ i < off + us.length then us[i - off]? else es[i]? := fun es q hq hl i => by
      subst hq
      have ht : (es.take off).length = off := by rw [List.length_take]; omega
      by_cases ha : i < off
      · rw [List.getElem?_append_left (by omega), List.getElem?_take, if_pos ha, if_neg (by omega)]
      · rw [List.getElem?_append_right (by omega), ht]
        by_cases hb : i < off + us.length
        · rw [List.getElem?_append_left (by omega), if_pos ⟨by omega, hb⟩]
        · rw [List.getElem?_append_right (by omega), List.getElem?_drop, if_neg (by omega)]
          congr 1
          omega
    have hset : ∀ (g : H) (es q : List AV), g.get n = some (.row es) → q = es.take off ++ (us ++ es.drop (off + us.length)) → off + us.length ≤ es.length →
        (∀ m x, ¬ WriC (locs true n (len us) off) c' c' m x → vw (g.set n (some (.row q))) m x = vw g m x) ∧ ∀ i, i < us.length → vw (g.set n (some (.row q))) n (some (off + i)) = (us[i]?).map .inr := fun g es q hg hq hl => by
      have hn : (g.set n (some (.row q))).get n = some (.row q) := by rw [T.get_set, if_pos rfl]
      refine ⟨fun m x hw => ?_, fun i hi => ?_⟩
      · by_cases hm : m = n
        · subst hm
          cases x with
          | none => rw [vw_tag hn, vw_tag hg]
          | some i =>
            rw [vw_row hn, vw_row hg, hcell es q hq hl i, if_neg fun hh => hw ((hW m _).2 ⟨rfl, i - off, by omega, by rw [show off + (i - off) = i by omega]⟩)]
        · exact vw_congr (by rw [T.get_set, if_neg hm]) x
      · rw [vw_row hn, hcell es q hq hl, if_pos ⟨by omega, by omega⟩, Nat.add_sub_cancel_left]
    obtain ⟨s1, s2⟩ := hset h cs r h1 hr hk
    refine ⟨Nat.le_refl _, fun q hq => ?_, s1, fun g hg => ?_⟩
    · obtain ⟨i, _, rfl⟩ := locs_mem.1 hq
      exact hlt
    · rw [len_eq] at hg
      obtain ⟨ds, g1, g2⟩ := row_alike h1 hk h0 (fun m x ht => hg m x (.inr ht))
      have hlen : off + us.length ≤ ds.length := by
        have := g2 (us.length - 1) (by omega)
        rw [List.getElem?_eq_getElem (by omega : off + (us.length - 1) < cs.length)] at this
        have hh := (List.getElem?_eq_some_iff.1 this).1
        omega
      obtain ⟨q, hq⟩ := putAt_some us off ds hlen
      obtain ⟨hq', _⟩ := putAt_eq _ _ _ _ hq
      obtain ⟨t1, t2⟩ := hset g ds q g1 hq' hlen
      refine ⟨g.set n (some (.row q)), ?_, fun m x hw => ?_, t1⟩
      · have : Sx.storeN n off us c' g = storeR n off us c' g := by rw [← hvs]; rfl
        rw [this]
        unfold storeR rowOf
        rw [blt_true hlt, g1]
        show Sx.ifS Rs.fail (fun r => Sx.ifB (scals us) (Rs.ok () c' (g.set n (some (.row r))) (locs true n (len us) off)) Rs.fail) (putAt us off ds) = _
        rw [hq]
        show Sx.ifB (scals us) (Rs.ok () c' (g.set n (some (.row q))) (locs true n (len us) off)) Rs.fail = _
        rw [h3]
        rfl
      · obtain ⟨rfl, i, hi, rfl⟩ := (hW m x).1 hw
        rw [t2 i hi, s2 i hi]
end Go.Sx
