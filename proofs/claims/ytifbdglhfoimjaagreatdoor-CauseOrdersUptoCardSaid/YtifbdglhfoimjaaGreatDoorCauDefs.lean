/-
  Plain mathematics: which item defines a name first; what an item's sources are.
-/
import Derived.Test.YtifbdglhfoimjaaGreatDoorCauOrd
import Derived.Test.YtifbdglhfoimjaaGreatDoorScopeSpec
namespace Go.Proofs.YtifbdglhfoimjaaGreatDoor

/-- item b defines the name s -/
def defAt (items : List QItem) (s : Tx) (b : Nat) : Bool := match items[b]? with
  | some i => (definedQ i).contains s
  | none => false
/-- the first of the first k items that defines a name -/
def firstB (items : List QItem) (k : Nat) (s : Tx) : Option Nat := (List.range k).find? (defAt items s)
def firstD (items : List QItem) (s : Tx) : Option Nat := firstB items items.length s
/-- the items that define what an item reads -/
def srcI (items : List QItem) (i : QItem) : List Nat := (readsX i.eq.e).filterMap (firstD items)
def srcS (items : List QItem) : List (List Nat) := items.map (srcI items)
theorem srcS_len (items : List QItem) : (srcS items).length = items.length := by simp [srcS]
theorem firstB_succ (items : List QItem) (k : Nat) (s : Tx) : firstB items (k + 1) s = match firstB items k s with
    | some b => some b
    | none => if defAt items s k = true then some k else none := by
  unfold firstB
  rw [List.range_succ, List.find?_append]
  cases h : (List.range k).find? (defAt items s) with
  | some b => rfl
  | none => cases hd : defAt items s k <;> simp [hd]
theorem firstB_lt {items : List QItem} {k : Nat} {s : Tx} {b : Nat} (h : firstB items k s = some b) : b < k := by
  have := List.mem_of_find?_eq_some h
  simpa using this
theorem firstD_lt {items : List QItem} {s : Tx} {b : Nat} (h : firstD items s = some b) : b < items.length := firstB_lt h
theorem src_lt {items : List QItem} {l : List Nat} (hl : l ∈ srcS items) : ∀ d ∈ l, d < (srcS items).length := by
  intro d hd
  obtain ⟨i, _, rfl⟩ := List.mem_map.1 hl
  obtain ⟨s, _, hs⟩ := List.mem_filterMap.1 hd
  rw [srcS_len]
  exact firstD_lt hs
theorem src_few (items : List QItem) (i : QItem) : (srcI items i).length ≤ (readsX i.eq.e).length := List.length_filterMap_le _ _
/-- what the map of definers holds, the first k items told, and of the next one these names -/
def DefPart {V : Type} (num : Nat → V) (items : List QItem) (k : Nat) (names : List Tx) (m : List (Tx × V)) : Prop :=
  ∀ s v, (s, v) ∈ m ↔ ∃ b, v = num b ∧ (firstB items k s = some b ∨ (firstB items k s = none ∧ s ∈ names ∧ b = k))
section
variable {V : Type} {num : Nat → V} {items : List QItem} {k : Nat} {names : List Tx} {m : List (Tx × V)} {i : QItem} {x : Tx}
theorem DefPart.start : DefPart num items 0 [] [] := fun s v => by
  constructor
  · intro h; cases h
  · rintro ⟨b, _, h | ⟨_, h, _⟩⟩
    · simp [firstB] at h
    · cases h
theorem DefPart.key (h : DefPart num items k names m) : x ∈ m.map Prod.fst ↔ (∃ b, firstB items k x = some b) ∨ x ∈ names := by
  constructor
  · intro hx
    obtain ⟨⟨s, v⟩, hm, rfl⟩ := List.mem_map.1 hx
    obtain ⟨b, _, h1 | ⟨_, h1, _⟩⟩ := (h s v).1 hm
    · exact .inl ⟨b, h1⟩
    · exact .inr h1
  · rintro (⟨b, hb⟩ | hx)
    · exact List.mem_map.2 ⟨(x, num b), (h x (num b)).2 ⟨b, rfl, .inl hb⟩, rfl⟩
    · cases hf : firstB items k x with
      | some b => exact List.mem_map.2 ⟨(x, num b), (h x (num b)).2 ⟨b, rfl, .inl hf⟩, rfl⟩
      | none => exact List.mem_map.2 ⟨(x, num k), (h x (num k)).2 ⟨k, rfl, .inr ⟨hf, hx, rfl⟩⟩, rfl⟩
theorem DefPart.skip (h : DefPart num items k names m) (hx : x ∈ m.map Prod.fst) : DefPart num items k (names ++ [x]) m := fun s v => by
  rw [h s v]
  constructor
  · rintro ⟨b, e, h1 | ⟨h1, h2, h3⟩⟩
    · exact ⟨b, e, .inl h1⟩
    · exact ⟨b, e, .inr ⟨h1, List.mem_append_left _ h2, h3⟩⟩
  · rintro ⟨b, e, h1 | ⟨h1, h2, h3⟩⟩
    · exact ⟨b, e, .inl h1⟩
    · rcases List.mem_append.1 h2 with h2 | h2
      · exact ⟨b, e, .inr ⟨h1, h2, h3⟩⟩
      · simp at h2
        subst h2
        rcases h.key.1 hx with ⟨b', hb⟩ | h4
        · rw [h1] at hb; cases hb
        · exact ⟨b, e, .inr ⟨h1, h4, h3⟩⟩
theorem DefPart.put (h : DefPart num items k names m) (hx : x ∉ m.map Prod.fst) : DefPart num items k (names ++ [x]) (m ++ [(x, num k)]) := fun s v => by
  rw [List.mem_append, h s v]
  constructor
  · rintro (⟨b, e, h1 | ⟨h1, h2, h3⟩⟩ | h1)
    · exact ⟨b, e, .inl h1⟩
    · exact ⟨b, e, .inr ⟨h1, List.mem_append_left _ h2, h3⟩⟩
    · simp at h1
      obtain ⟨rfl, rfl⟩ := h1
      refine ⟨k, rfl, .inr ⟨?_, by simp, rfl⟩⟩
      cases hf : firstB items k s with
      | none => rfl
      | some b => exact absurd (h.key.2 (.inl ⟨b, hf⟩)) hx
  · rintro ⟨b, e, h1 | ⟨h1, h2, h3⟩⟩
    · exact .inl ⟨b, e, .inl h1⟩
    · rcases List.mem_append.1 h2 with h2 | h2
      · exact .inl ⟨b, e, .inr ⟨h1, h2, h3⟩⟩
      · simp at h2
        subst h2 h3
        exact .inr (by simp [e])
theorem DefPart.next (h : DefPart num items k (definedQ i) m) (hi : items[k]? = some i) : DefPart num items (k + 1) [] m := fun s v => by
  rw [h s v]
  have hd : defAt items s k = (definedQ i).contains s := by unfold defAt; rw [hi]
  constructor
  · rintro ⟨b, e, h1 | ⟨h1, h2, h3⟩⟩
    · exact ⟨b, e, .inl (by rw [firstB_succ, h1])⟩
    · refine ⟨b, e, .inl ?_⟩
      rw [firstB_succ, h1, hd, if_pos (List.contains_iff_mem.2 h2), h3]
  · rintro ⟨b, e, h1 | ⟨_, h2, _⟩⟩
    · rw [firstB_succ] at h1
      cases hf : firstB items k s with
      | some c => rw [hf] at h1; cases h1; exact ⟨b, e, .inl rfl⟩
      | none =>
        rw [hf, hd] at h1
        by_cases hc : (definedQ i).contains s = true
        · simp only [hc, if_true] at h1
          cases h1
          exact ⟨k, e, .inr ⟨rfl, List.contains_iff_mem.1 hc, rfl⟩⟩
        · simp only [hc] at h1
          cases h1
    · cases h2
/-- the whole map -/
theorem DefPart.all (h : DefPart num items items.length [] m) (s : Tx) (v : V) : (s, v) ∈ m ↔ ∃ b, v = num b ∧ firstD items s = some b := by
  rw [h s v]
  constructor
  · rintro ⟨b, e, h1 | ⟨_, h1, _⟩⟩
    · exact ⟨b, e, h1⟩
    · cases h1
  · rintro ⟨b, e, h1⟩
    exact ⟨b, e, .inl h1⟩
theorem DefPart.none_ (h : DefPart num items items.length [] m) {s : Tx} (hs : firstD items s = none) : s ∉ m.map Prod.fst := fun hm => by
  rcases h.key.1 hm with ⟨b, hb⟩ | h1
  · rw [show firstB items items.length s = none from hs] at hb; cases hb
  · cases h1
end
/-- the first k items' readers told, and the first j sources of the next one -/
def RdrOk (S : List (List Nat)) (k j : Nat) (R : List (List Nat)) : Prop :=
  R.length = S.length ∧ ∀ d, d < S.length → ∀ r, (R.getD d []).count r = if r < k then (S.getD r []).count d else if r = k then ((S.getD k []).take j).count d else 0
theorem RdrOk.start (S : List (List Nat)) : RdrOk S 0 0 (List.replicate S.length []) := by
  refine ⟨by simp, fun d hd r => ?_⟩
  have : (List.replicate S.length ([] : List Nat)).getD d [] = [] := by simp [List.getD_eq_getElem?_getD, hd]
  rw [this]
  simp
theorem RdrOk.more {S R : List (List Nat)} {k j d : Nat} {l : List Nat} (h : RdrOk S k j R) (hl : S[k]? = some l) (hd : l[j]? = some d) (hdl : d < S.length) : RdrOk S k (j + 1) (R.set d (R.getD d [] ++ [k])) := by
  refine ⟨by simp [h.1], fun d' hd' r => ?_⟩
  have hg : S.getD k [] = l := by rw [List.getD_eq_getElem?_getD, hl]; rfl
  have h0 := h.2 d' hd' r
  rw [hg] at h0 ⊢
  rw [take_count hd]
  by_cases e : d = d'
  · subst e
    have : (R.set d (R.getD d [] ++ [k])).getD d [] = R.getD d [] ++ [k] := by simp [List.getD_eq_getElem?_getD, h.1, hdl]
    rw [this, List.count_append, List.count_singleton, h0]
    by_cases h1 : r < k
    · have : ¬ (k == r) = true := by simp; omega
      simp [h1, this]
    · by_cases h2 : r = k
      · subst h2; simp
      · have : ¬ (k == r) = true := by simp; omega
        simp [h1, h2, this]
  · have : (R.set d (R.getD d [] ++ [k])).getD d' [] = R.getD d' [] := by rw [List.getD_eq_getElem?_getD, List.getElem?_set, if_neg e, List.getD_eq_getElem?_getD]
    have hz : (if d' = d then 1 else 0) = 0 := if_neg (fun e2 => e e2.symm)
    rw [this, h0, hz, Nat.add_zero]
theorem RdrOk.next {S R : List (List Nat)} {k : Nat} {l : List Nat} (h : RdrOk S k l.length R) (hl : S[k]? = some l) : RdrOk S (k + 1) 0 R := by
  refine ⟨h.1, fun d hd r => ?_⟩
  have hg : S.getD k [] = l := by rw [List.getD_eq_getElem?_getD, hl]; rfl
  rw [h.2 d hd r, hg, List.take_length, List.take_zero]
  by_cases h1 : r < k
  · rw [if_pos h1, if_pos (by omega)]
  · by_cases h2 : r = k
    · subst h2; rw [if_neg h1, if_pos rfl, if_pos (by omega), hg]
    · rw [if_neg h1, if_neg h2, if_neg (by omega)]
      split <;> simp
theorem RdrOk.done {S R : List (List Nat)} (h : RdrOk S S.length 0 R) : ∀ d, d < S.length → (∀ r, r < S.length → (R.getD d []).count r = (S.getD r []).count d) ∧ ∀ r ∈ R.getD d [], r < S.length := by
  refine fun d hd => ⟨fun r hr => by rw [h.2 d hd r, if_pos hr], fun r hr => ?_⟩
  have h1 := List.count_pos_iff.2 hr
  rw [h.2 d hd r] at h1
  by_cases h2 : r < S.length
  · exact h2
  · rw [if_neg h2] at h1
    split at h1 <;> simp at h1
end Go.Proofs.YtifbdglhfoimjaaGreatDoor
