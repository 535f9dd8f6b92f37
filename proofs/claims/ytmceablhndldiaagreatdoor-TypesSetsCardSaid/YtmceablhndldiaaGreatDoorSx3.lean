/-
  The memory of a symbolic run, and a world's: loads, stores, new blocks.
-/
import Derived.Test.YtmceablhndldiaaGreatDoorSx2
import Derived.Below
import Derived.Laws.Cells
import Derived.Laws.IdiomCopy
namespace Go.Sx
open Go.RowKit

def ERs (ρ : Ren) : List (AV × AV × Nat) → List MapEntry → Prop
  | [], l => l = []
  | q :: x, l => ∃ e r, l = e :: r ∧ VR ρ q.1 e.key ∧ VR ρ q.2.1 e.val ∧ e.born = q.2.2 ∧ ERs ρ x r
theorem ERs.mono {ρ σ : Ren} (h : Ren.le ρ σ) : ∀ (x : List (AV × AV × Nat)) (l : List MapEntry), ERs ρ x l → ERs σ x l
  | [], _, e => e
  | _ :: x, _, ⟨e, r, h1, h2, h3, h4, h5⟩ => ⟨e, r, h1, VR.mono h _ _ h2, VR.mono h _ _ h3, h4, ERs.mono h x r h5⟩
/-- the object of a name, in the block b of s cells -/
def OR (ρ : Ren) (w : World) (b s : Nat) : AO → Prop
  | .row cs => ∃ arr e lo hi l rest, w.heap[b]? = some (.cells arr e (lo, hi)) ∧ arr.size = s ∧ arr.toList = l ++ rest ∧ VRs ρ cs l ∧ ∀ i, i < s → ¬ (lo ≤ i ∧ i < hi)
  | .mp es k => ∃ a, w.heap[b]? = some (.map a k) ∧ ERs ρ es a.toList
theorem OR.mono {ρ σ : Ren} (h : Ren.le ρ σ) {w w' : World} {b s : Nat} (hb : w'.heap[b]? = w.heap[b]?) : ∀ {o : AO}, OR ρ w b s o → OR σ w' b s o
  | .row _, ⟨arr, e, lo, hi, l, rest, h1, h2, h3, h4, h5⟩ => ⟨arr, e, lo, hi, l, rest, hb.trans h1, h2, h3, VRs.mono h _ _ h4, h5⟩
  | .mp _ _, ⟨a, h1, h2⟩ => ⟨a, hb.trans h1, ERs.mono h _ _ h2⟩
theorem OR.lt {ρ : Ren} {w : World} {b s : Nat} {o : AO} (h : OR ρ w b s o) : b < w.heap.size := by
  have : ∃ x, w.heap[b]? = some x := by
    cases o with
    | row cs => obtain ⟨arr, e, lo, hi, l, rest, h1, _⟩ := h; exact ⟨_, h1⟩
    | mp es k => obtain ⟨a, h1, _⟩ := h; exact ⟨_, h1⟩
  obtain ⟨x, hx⟩ := this
  rcases Nat.lt_or_ge b w.heap.size with h | h
  · exact h
  · rw [Array.getElem?_eq_none h] at hx; cases hx
structure Rel (ρ : Ren) (h : H) (w : World) : Prop where
  lies : ∀ n o, h.get n = some o → ∃ b s, ρ n = some (b, s) ∧ OR ρ w b s o
  alone : ∀ n m o p b s t, h.get n = some o → h.get m = some p → ρ n = some (b, s) → ρ m = some (b, t) → n = m
/-- a run from h to h', that makes the names from c to c' -/
structure Post (ρ : Ren) (h : H) (w : World) (c c' : Nat) (ρ' : Ren) (h' : H) (w' : World) : Prop where
  rel : Rel ρ' h' w'
  ext : ∀ n, ¬ (c ≤ n ∧ n < c') → ρ' n = ρ n
  os : w'.os = w.os
  tape : w'.tape = w.tape
  output : w'.output = w.output
  size : w.heap.size ≤ w'.heap.size
  old : ∀ b, b < w.heap.size → (∀ n o s, h.get n = some o → ρ n ≠ some (b, s)) → w'.heap[b]? = w.heap[b]?
  new : ∀ n o b s, h'.get n = some o → ρ' n = some (b, s) → b < w.heap.size → ∃ m p t, h.get m = some p ∧ ρ m = some (b, t)
/-- the names from c to c' are free -/
def Free (ρ : Ren) (c c' : Nat) : Prop := ∀ n, c ≤ n → n < c' → ρ n = none
theorem Post.le {ρ : Ren} {h : H} {w : World} {c c' : Nat} {ρ' : Ren} {h' : H} {w' : World} (p : Post ρ h w c c' ρ' h' w') (f : Free ρ c c') : Ren.le ρ ρ' := by
  intro n q e
  rw [p.ext n (fun ⟨h1, h2⟩ => by rw [f n h1 h2] at e; cases e)]
  exact e
theorem Post.refl {ρ : Ren} {h : H} {w : World} {c : Nat} (r : Rel ρ h w) : Post ρ h w c c ρ h w :=
  ⟨r, fun _ _ => rfl, rfl, rfl, rfl, Nat.le_refl _, fun _ _ _ => rfl, fun n o _ s h1 h2 _ => ⟨n, o, s, h1, h2⟩⟩
theorem Post.trans {ρ : Ren} {h : H} {w : World} {c c1 c2 : Nat} {ρ1 : Ren} {h1 : H} {w1 : World} {ρ2 : Ren} {h2 : H} {w2 : World}
    (p : Post ρ h w c c1 ρ1 h1 w1) (q : Post ρ1 h1 w1 c1 c2 ρ2 h2 w2) (k : c ≤ c1) (m : c1 ≤ c2) : Post ρ h w c c2 ρ2 h2 w2 where
  rel := q.rel
  ext n hn := by rw [q.ext n (by omega), p.ext n (by omega)]
  os := q.os.trans p.os
  tape := q.tape.trans p.tape
  output := q.output.trans p.output
  size := Nat.le_trans p.size q.size
  old b hb hn := by
    rw [q.old b (Nat.lt_of_lt_of_le hb p.size) (fun n o s e f => ?_), p.old b hb hn]
    obtain ⟨m, o', t, e', f'⟩ := p.new n o b s e f hb
    exact hn m o' t e' f'
  new n o b s e f hb := by
    obtain ⟨m, o', t, e', f'⟩ := q.new n o b s e f (Nat.lt_of_lt_of_le hb p.size)
    exact p.new m o' b t e' f' hb
theorem Rel.drew {ρ : Ren} {h : H} {w : World} (r : Rel ρ h w) (n : Nat) : Rel ρ h { w with drawn := n } :=
  ⟨fun n o e => by obtain ⟨b, s, f, g⟩ := r.lies n o e; exact ⟨b, s, f, OR.mono (Ren.le_refl ρ) rfl g⟩, r.alone⟩
theorem Post.drawn {ρ : Ren} {h : H} {w : World} {c c' : Nat} {ρ' : Ren} {h' : H} {w' : World} (p : Post ρ h w c c' ρ' h' w') (n : Nat) : Post ρ h w c c' ρ' h' { w' with drawn := n } :=
  ⟨p.rel.drew n, p.ext, p.os, p.tape, p.output, p.size, p.old, p.new⟩
theorem Post.from_drawn {ρ : Ren} {h : H} {w : World} {c c' : Nat} {ρ' : Ren} {h' : H} {w' : World} {n : Nat} (p : Post ρ h { w with drawn := n } c c' ρ' h' w') : Post ρ h w c c' ρ' h' w' :=
  ⟨p.rel, p.ext, p.os, p.tape, p.output, p.size, p.old, p.new⟩

theorem rowOf_some {h : H} {n : Nat} {cs : List AV} (e : rowOf h n = some cs) : h.get n = some (.row cs) := by
  have e : ifS none AO.row? (h.get n) = some cs := e
  cases k : h.get n with
  | none => rw [k] at e; cases e
  | some o =>
    rw [k] at e
    cases o with
    | row x => cases e; rfl
    | mp es q => cases e
/-- the cells of a row -/
theorem Rel.cells {ρ : Ren} {h : H} {w : World} (r : Rel ρ h w) {n : Nat} {cs : List AV} (e : h.get n = some (.row cs)) :
    ∃ b s, ρ n = some (b, s) ∧ cs.length ≤ s ∧ (∀ i, i < s → (w.cell? ⟨b, i, none⟩).isSome = true ∧ w.frozen? ⟨b, i, none⟩ = false) ∧
      ∀ i x, cs[i]? = some x → ∃ v, w.cell? ⟨b, i, none⟩ = some v ∧ VR ρ x v := by
  obtain ⟨b, s, f, arr, t, lo, hi, l, rest, h1, h2, h3, h4, h5⟩ := r.lies n _ e
  have hlen := h4.length
  have hsz : arr.size = l.length + rest.length := by rw [← Array.length_toList, h3, List.length_append]
  refine ⟨b, s, f, by omega, fun i hi' => ⟨?_, ?_⟩, fun i x hx => ?_⟩
  · simp [World.cell?, h1, h2, hi']
  · have := h5 i hi'
    simp only [World.frozen?, h1]
    simp only [Bool.and_eq_false_iff, decide_eq_false_iff_not]
    omega
  · obtain ⟨v, hv, k⟩ := h4.get hx
    refine ⟨v, ?_, k⟩
    have hl : i < l.length := by
      rcases Nat.lt_or_ge i l.length with hh | hh
      · exact hh
      · rw [List.getElem?_eq_none hh] at hv; cases hv
    simp only [World.cell?, h1, Option.isSome_none, Bool.false_eq_true, if_false]
    rw [← Array.getElem?_toList, h3, List.getElem?_append_left hl, hv]
/-- the cells of the block of a row, behind a store of several -/
theorem setCells_block (b : Nat) (e : TypeId) (f : Nat × Nat) : ∀ (vs : List Value) (o : Nat) (w : World) (arr : Array Value), w.heap[b]? = some (.cells arr e f) → o + vs.length ≤ arr.size →
    ∃ arr', (w.setCells b o vs).heap[b]? = some (.cells arr' e f) ∧ arr'.size = arr.size ∧ arr'.toList = arr.toList.take o ++ (vs ++ arr.toList.drop (o + vs.length))
  | [], o, w, arr, h, _ => ⟨arr, h, rfl, by simp⟩
  | v :: vs, o, w, arr, h, k => by
    simp only [List.length_cons] at k
    have h1 : (w.setCell ⟨b, o, none⟩ v).heap[b]? = some (.cells (arr.setIfInBounds o v) e f) := by
      simp only [World.setCell, Array.getElem?_modify, h]
      simp
    obtain ⟨arr', h2, h3, h4⟩ := setCells_block b e f vs (o + 1) (w.setCell ⟨b, o, none⟩ v) _ h1 (by simp; omega)
    refine ⟨arr', h2, by simpa using h3, ?_⟩
    rw [h4]
    have ho : o < arr.toList.length := by rw [Array.length_toList]; omega
    simp only [Array.toList_setIfInBounds, List.length_cons]
    rw [show o + (vs.length + 1) = o + 1 + vs.length by omega]
    rw [List.drop_set_of_lt (by omega), List.set_eq_take_append_cons_drop, if_pos ho]
    rw [List.take_append, List.take_take]
    simp only [List.length_take, List.cons_append, List.append_assoc]
    rw [show min (o + 1) o = o by omega, show o + 1 - min o arr.toList.length = 1 by omega]
    simp
theorem setCells_other (b : Nat) : ∀ (vs : List Value) (o : Nat) (w : World) (k : Nat), k ≠ b → (w.setCells b o vs).heap[k]? = w.heap[k]?
  | [], _, _, _, _ => rfl
  | v :: vs, o, w, k, h => by
    have h1 := setCells_other b vs (o + 1) (w.setCell ⟨b, o, none⟩ v) k h
    exact h1.trans (Below.heap_setCell w ⟨b, o, none⟩ v k h)
theorem setCells_rest (b : Nat) : ∀ (vs : List Value) (o : Nat) (w : World), (w.setCells b o vs).os = w.os ∧ (w.setCells b o vs).tape = w.tape ∧ (w.setCells b o vs).output = w.output ∧ (w.setCells b o vs).heap.size = w.heap.size
  | [], _, _ => ⟨rfl, rfl, rfl, rfl⟩
  | v :: vs, o, w => by
    obtain ⟨h1, h2, h3, h4⟩ := setCells_rest b vs (o + 1) (w.setCell ⟨b, o, none⟩ v)
    exact ⟨h1, h2, h3, h4.trans (by simp [World.setCell])⟩
/-- a store into a row -/
theorem Rel.store {ρ : Ren} {h : H} {w : World} (r : Rel ρ h w) {n off c : Nat} {cs q : List AV} {vs : List AV} {l : List Value} (e : h.get n = some (.row cs)) (hv : VRs ρ vs l)
    (hq : q = cs.take off ++ (vs ++ cs.drop (off + vs.length))) (hl : off + vs.length ≤ cs.length) :
    ∃ b s, ρ n = some (b, s) ∧ Post ρ h w c c ρ (h.set n (some (.row q))) (w.setCells b off l) := by
  obtain ⟨b, s, f, arr, t, lo, hi, k, rest, h1, h2, h3, h4, h5⟩ := r.lies n _ e
  have hlen := h4.length
  have hlv := hv.length
  have hsz : arr.size = k.length + rest.length := by rw [← Array.length_toList, h3, List.length_append]
  obtain ⟨arr', g1, g2, g3⟩ := setCells_block b t (lo, hi) l off w arr h1 (by omega)
  obtain ⟨o1, o2, o3, o4⟩ := setCells_rest b l off w
  refine ⟨b, s, f, ⟨⟨fun m o em => ?_, fun m1 m2 p1 p2 b' s' t' e1 e2 f1 f2 => ?_⟩, fun _ _ => rfl, o1, o2, o3, Nat.le_of_eq o4.symm, fun b' _ hn => ?_, fun m o b' s' e1 f1 _ => ?_⟩⟩
  · rw [T.get_set] at em
    by_cases hm : m = n
    · rw [if_pos hm] at em
      cases em
      subst hm
      refine ⟨b, s, f, arr', t, lo, hi, k.take off ++ (l ++ k.drop (off + l.length)), rest, g1, g2.trans h2, ?_, ?_, h5⟩
      · rw [g3, h3, List.take_append_of_le_length (by omega), List.drop_append_of_le_length (by omega)]
        simp only [List.append_assoc]
      · rw [hq]
        exact (VRs.take _ h4).append (hv.append (by rw [hlv]; exact VRs.drop _ h4))
    · rw [if_neg hm] at em
      obtain ⟨b', s', f', g⟩ := r.lies m o em
      refine ⟨b', s', f', OR.mono (Ren.le_refl ρ) (setCells_other b l off w b' fun eb => ?_) g⟩
      subst eb
      exact hm (r.alone m n _ _ _ _ _ em e f' f)
  · rw [T.get_set] at e1 e2
    have l1 : ∃ o, h.get m1 = some o := by
      by_cases hm : m1 = n
      · exact ⟨_, hm ▸ e⟩
      · rw [if_neg hm] at e1; exact ⟨_, e1⟩
    have l2 : ∃ o, h.get m2 = some o := by
      by_cases hm : m2 = n
      · exact ⟨_, hm ▸ e⟩
      · rw [if_neg hm] at e2; exact ⟨_, e2⟩
    obtain ⟨_, l1⟩ := l1
    obtain ⟨_, l2⟩ := l2
    exact r.alone m1 m2 _ _ _ _ _ l1 l2 f1 f2
  · exact setCells_other b l off w b' fun eb => hn n _ s e (eb ▸ f)
  · rw [T.get_set] at e1
    by_cases hm : m = n
    · exact ⟨n, _, _, e, hm ▸ f1⟩
    · rw [if_neg hm] at e1; exact ⟨m, _, _, e1, f1⟩
def Ren.put (ρ : Ren) (c : Nat) (p : Nat × Nat) : Ren := fun n => if n = c then some p else ρ n
theorem Ren.put_same (ρ : Ren) (c : Nat) (p : Nat × Nat) : ρ.put c p c = some p := if_pos rfl
theorem Ren.put_other (ρ : Ren) {c n : Nat} (p : Nat × Nat) (h : n ≠ c) : ρ.put c p n = ρ n := if_neg h
theorem Ren.le_put {ρ : Ren} {c : Nat} (p : Nat × Nat) (h : ρ c = none) : Ren.le ρ (ρ.put c p) := fun n q e => by
  rw [Ren.put_other ρ p (fun hn => by rw [hn, h] at e; cases e)]
  exact e
/-- a new block -/
theorem Rel.new {ρ : Ren} {h : H} {w : World} (r : Rel ρ h w) {c s : Nat} (hc : ρ c = none) {obj : Obj} {o : AO}
    (ho : OR (ρ.put c (w.heap.size, s)) (w.alloc obj) w.heap.size s o) :
    Post ρ h w c (c + 1) (ρ.put c (w.heap.size, s)) (h.set c (some o)) (w.alloc obj) := by
  have hle := Ren.le_put (w.heap.size, s) hc
  have hn0 : ∀ m p, h.get m = some p → m ≠ c := fun m p e hm => by
    obtain ⟨b, t, f, _⟩ := r.lies m p e
    rw [hm, hc] at f
    cases f
  have hlt : ∀ m p b t, h.get m = some p → ρ m = some (b, t) → b < w.heap.size := fun m p b t e f => by
    obtain ⟨b', t', f', g⟩ := r.lies m p e
    rw [f] at f'
    cases f'
    exact g.lt
  refine ⟨⟨fun m p em => ?_, fun m1 m2 p1 p2 b s1 s2 e1 e2 f1 f2 => ?_⟩, fun n hn => ?_, rfl, rfl, rfl, by show w.heap.size ≤ (w.heap.push obj).size; simp, fun b hb _ => ?_, fun m p b t em f hb => ?_⟩
  · rw [T.get_set] at em
    by_cases hm : m = c
    · rw [if_pos hm] at em
      cases em
      exact ⟨_, s, by rw [hm, Ren.put_same], ho⟩
    · rw [if_neg hm] at em
      obtain ⟨b, t, f, g⟩ := r.lies m p em
      exact ⟨b, t, hle _ _ f, OR.mono hle (Below.heap_alloc w obj b g.lt) g⟩
  · rw [T.get_set] at e1 e2
    by_cases h1 : m1 = c
    · by_cases h2 : m2 = c
      · rw [h1, h2]
      · rw [if_neg h2] at e2
        rw [h1, Ren.put_same] at f1
        rw [Ren.put_other ρ _ h2] at f2
        cases f1
        exact absurd (hlt m2 _ _ _ e2 f2) (Nat.lt_irrefl _)
    · rw [if_neg h1] at e1
      rw [Ren.put_other ρ _ h1] at f1
      by_cases h2 : m2 = c
      · rw [h2, Ren.put_same] at f2
        cases f2
        exact absurd (hlt m1 _ _ _ e1 f1) (Nat.lt_irrefl _)
      · rw [if_neg h2] at e2
        rw [Ren.put_other ρ _ h2] at f2
        exact r.alone m1 m2 _ _ _ _ _ e1 e2 f1 f2
  · exact Ren.put_other ρ _ (by omega)
  · exact Below.heap_alloc w obj b hb
  · rw [T.get_set] at em
    by_cases hm : m = c
    · rw [hm, Ren.put_same] at f
      cases f
      exact absurd hb (Nat.lt_irrefl _)
    · rw [if_neg hm] at em
      rw [Ren.put_other ρ _ hm] at f
      exact ⟨m, p, t, em, f⟩
/-- a name is given up -/
theorem Rel.kill {ρ : Ren} {h : H} {w : World} (r : Rel ρ h w) (n : Nat) : Rel ρ (h.set n none) w := by
  have key : ∀ m p, (h.set n none).get m = some p → h.get m = some p := fun m p e => by
    rw [T.get_set] at e
    by_cases hm : m = n
    · rw [if_pos hm] at e; cases e
    · rw [if_neg hm] at e; exact e
  exact ⟨fun m p e => r.lies m p (key m p e), fun m1 m2 p1 p2 b s t e1 e2 => r.alone m1 m2 p1 p2 b s t (key _ _ e1) (key _ _ e2)⟩
theorem Post.kill {ρ : Ren} {h : H} {w : World} (r : Rel ρ h w) (n c : Nat) : Post ρ h w c c ρ (h.set n none) w :=
  ⟨r.kill n, fun _ _ => rfl, rfl, rfl, rfl, Nat.le_refl _, fun _ _ _ => rfl, fun m o b s e f _ => by
    rw [T.get_set] at e
    by_cases hm : m = n
    · rw [if_pos hm] at e; cases e
    · rw [if_neg hm] at e; exact ⟨m, o, s, e, f⟩⟩
/-- the block of a name given up has another name: an append in place -/
theorem Rel.reuse {ρ : Ren} {h : H} {w : World} (r : Rel ρ h w) {n c k : Nat} {cs vs : List AV} {l : List Value} (e : h.get n = some (.row cs)) (hc : ρ c = none) (hv : VRs ρ vs l) (hk : k ≤ cs.length) :
    ∃ b s, ρ n = some (b, s) ∧ (k + l.length ≤ s → Post ρ h w c (c + 1) (ρ.put c (b, s)) ((h.set n none).set c (some (.row (cs.take k ++ vs)))) (w.setCells b k l)) := by
  obtain ⟨b, s, f, arr, t, lo, hi, q, rest, h1, h2, h3, h4, h5⟩ := r.lies n _ e
  refine ⟨b, s, f, fun hs => ?_⟩
  have hle := Ren.le_put (b, s) hc
  have hlen := h4.length
  obtain ⟨arr', g1, g2, g3⟩ := setCells_block b t (lo, hi) l k w arr h1 (by omega)
  obtain ⟨o1, o2, o3, o4⟩ := setCells_rest b l k w
  have hnc : n ≠ c := fun he => by rw [← he, f] at hc; cases hc
  have key : ∀ m p, m ≠ c → ((h.set n none).set c (some (.row (cs.take k ++ vs)))).get m = some p → h.get m = some p ∧ m ≠ n := fun m p hm em => by
    rw [T.get_set, if_neg hm, T.get_set] at em
    by_cases hn : m = n
    · rw [if_pos hn] at em; cases em
    · rw [if_neg hn] at em; exact ⟨em, hn⟩
  refine ⟨⟨fun m p em => ?_, fun m1 m2 p1 p2 b' s1 s2 e1 e2 f1 f2 => ?_⟩, fun m hm => Ren.put_other ρ _ (by omega), o1, o2, o3, Nat.le_of_eq o4.symm, fun b' hb hn => ?_, fun m p b' t' em f' hb => ?_⟩
  · by_cases hm : m = c
    · rw [T.get_set, if_pos hm] at em
      cases em
      refine ⟨b, s, by rw [hm, Ren.put_same], arr', t, lo, hi, q.take k ++ l, arr.toList.drop (k + l.length), g1, g2.trans h2, ?_, VRs.mono hle _ _ ((VRs.take _ h4).append hv), h5⟩
      rw [g3, h3, List.take_append_of_le_length (by omega), List.append_assoc]
    · obtain ⟨em, hn⟩ := key m p hm em
      obtain ⟨b', s', f', g⟩ := r.lies m p em
      refine ⟨b', s', hle _ _ f', OR.mono hle (setCells_other b l k w b' fun eb => ?_) g⟩
      subst eb
      exact hn (r.alone m n _ _ _ _ _ em e f' f)
  · by_cases h1 : m1 = c
    · by_cases h2 : m2 = c
      · rw [h1, h2]
      · obtain ⟨e2, hn⟩ := key m2 _ h2 e2
        rw [h1, Ren.put_same] at f1
        rw [Ren.put_other ρ _ h2] at f2
        cases f1
        exact absurd (r.alone m2 n _ _ _ _ _ e2 e f2 f) hn
    · obtain ⟨e1, hn1⟩ := key m1 _ h1 e1
      rw [Ren.put_other ρ _ h1] at f1
      by_cases h2 : m2 = c
      · rw [h2, Ren.put_same] at f2
        cases f2
        exact absurd (r.alone m1 n _ _ _ _ _ e1 e f1 f) hn1
      · obtain ⟨e2, _⟩ := key m2 _ h2 e2
        rw [Ren.put_other ρ _ h2] at f2
        exact r.alone m1 m2 _ _ _ _ _ e1 e2 f1 f2
  · exact setCells_other b l k w b' fun eb => hn n _ s e (eb ▸ f)
  · by_cases hm : m = c
    · rw [hm, Ren.put_same] at f'
      cases f'
      exact ⟨n, _, s, e, f⟩
    · obtain ⟨em, _⟩ := key m p hm em
      rw [Ren.put_other ρ _ hm] at f'
      exact ⟨m, p, t', em, f'⟩
/-- a map is written -/
theorem Rel.setMap {ρ : Ren} {h : H} {w : World} (r : Rel ρ h w) {n c : Nat} {es es' : List (AV × AV × Nat)} {k k' : Nat} {a' : Array MapEntry} (e : h.get n = some (.mp es k)) (he : ERs ρ es' a'.toList) :
    ∃ b s a, ρ n = some (b, s) ∧ w.heap[b]? = some (.map a k) ∧ ERs ρ es a.toList ∧ Post ρ h w c c ρ (h.set n (some (.mp es' k'))) { w with heap := w.heap.setIfInBounds b (.map a' k') } := by
  obtain ⟨b, s, f, a, h1, h2⟩ := r.lies n _ e
  have hb : b < w.heap.size := OR.lt (ρ := ρ) (s := s) (o := .mp es k) ⟨a, h1, h2⟩
  have key : ∀ m p, m ≠ n → (h.set n (some (AO.mp es' k'))).get m = some p → h.get m = some p := fun m p hm em => by rw [T.get_set, if_neg hm] at em; exact em
  have oth : ∀ b', b' ≠ b → (w.heap.setIfInBounds b (Obj.map a' k'))[b']? = w.heap[b']? := fun b' hb' => Array.getElem?_setIfInBounds_ne (Ne.symm hb')
  have lv : ∀ m p, (h.set n (some (AO.mp es' k'))).get m = some p → ∃ q, h.get m = some q := fun m p em => by
    by_cases hm : m = n
    · exact ⟨_, hm ▸ e⟩
    · exact ⟨_, key m p hm em⟩
  refine ⟨b, s, a, f, h1, h2, ⟨⟨fun m p em => ?_, fun m1 m2 p1 p2 b' s1 s2 e1 e2 f1 f2 => ?_⟩, fun _ _ => rfl, rfl, rfl, rfl, by simp, fun b' _ hn => oth b' fun eb => hn n _ s e (eb ▸ f), fun m p b' t' em f' _ => ?_⟩⟩
  · by_cases hm : m = n
    · rw [T.get_set, if_pos hm] at em
      cases em
      exact ⟨b, s, hm ▸ f, a', by simp [hb], he⟩
    · have em := key m p hm em
      obtain ⟨b', s', f', g⟩ := r.lies m p em
      refine ⟨b', s', f', OR.mono (Ren.le_refl ρ) (oth b' fun eb => ?_) g⟩
      subst eb
      exact hm (r.alone m n _ _ _ _ _ em e f' f)
  · obtain ⟨_, l1⟩ := lv m1 _ e1
    obtain ⟨_, l2⟩ := lv m2 _ e2
    exact r.alone m1 m2 _ _ _ _ _ l1 l2 f1 f2
  · obtain ⟨_, l1⟩ := lv m _ em
    exact ⟨m, _, _, l1, f'⟩
end Go.Sx
