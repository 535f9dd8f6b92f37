/-
  Plain mathematics of layer 11: what an expression reads: the names in the order of their occurrence, each once.
-/
import Derived.Test.YtifbdglhfoimjaaGreatDoorTreeSpec
namespace Go.Proofs.YtifbdglhfoimjaaGreatDoor

/-- a list with a name behind it, if it isn't there -/
def moreL (l : List Tx) (s : Tx) : List Tx := if s ∈ l then l else l ++ [s]
/-- a list with the names of another behind it, each if it isn't there -/
def allL (l xs : List Tx) : List Tx := xs.foldl moreL l
theorem allL_nil (l : List Tx) : allL l [] = l := rfl
theorem allL_cons (l xs : List Tx) (x : Tx) : allL l (x :: xs) = allL (moreL l x) xs := rfl
theorem allL_app (l xs ys : List Tx) : allL l (xs ++ ys) = allL (allL l xs) ys := List.foldl_append
/-- does an expression read the name it bears -/
def readsN (op : Int) : Bool := op == 4 || op == 11 || op == 12
/-- the kids that are read -/
def readK {X : Type} (op : Int) (ks : List X) : List X := if op = 9 then [] else if op = 8 then ks.take 1 else ks
/-- the names that an expression reads, as they occur -/
def hereX (op : Int) (nm : Tx) : List Tx := if readsN op then [nm] else []
mutual
def occX : Ex → List Tx
  | .mk op nm _ _ ks => hereX op nm ++ (readK op (occXs ks)).flatten
def occXs : List Ex → List (List Tx)
  | [] => []
  | k :: r => occX k :: occXs r
end
theorem occXs_map (l : List Ex) : occXs l = l.map occX := by
  induction l with
  | nil => simp [occXs]
  | cons x r ih => simp [occXs, ih]
theorem readK_map {X Y : Type} (f : X → Y) (op : Int) (l : List X) : (readK op l).map f = readK op (l.map f) := by
  unfold readK
  split
  · rfl
  · split
    · rw [List.map_take]
    · rfl
theorem occX_mk (op : Int) (nm : Tx) (n : Int) (cs : List Tx) (ks : List Ex) : occX (.mk op nm n cs ks) = hereX op nm ++ (readK op ks).flatMap occX := by
  rw [occX, occXs_map, ← readK_map, List.flatMap_def]
theorem readK_sub {X : Type} {op : Int} {l : List X} {x : X} (h : x ∈ readK op l) : x ∈ l := by
  unfold readK at h
  split at h
  · cases h
  · split at h
    · exact List.mem_of_mem_take h
    · exact h
/-- what an expression reads -/
def readsX (e : Ex) : List Tx := allL [] (occX e)
theorem mem_more {l : List Tx} {s x : Tx} : x ∈ moreL l s ↔ x ∈ l ∨ x = s := by
  unfold moreL
  split
  · rename_i h
    exact ⟨.inl, fun h' => h'.elim id fun e => e ▸ h⟩
  · simp
theorem mem_allL {xs : List Tx} : ∀ {l : List Tx} {x : Tx}, x ∈ allL l xs ↔ x ∈ l ∨ x ∈ xs := by
  induction xs with
  | nil => intro l x; simp [allL]
  | cons y r ih =>
    intro l x
    rw [allL_cons, ih, mem_more, List.mem_cons, or_assoc]
theorem nodup_more {l : List Tx} {s : Tx} (h : l.Nodup) : (moreL l s).Nodup := by
  unfold moreL
  split
  · exact h
  · rename_i hs
    rw [List.nodup_append]
    refine ⟨h, by simp, fun a ha b hb e => ?_⟩
    simp at hb
    subst hb
    subst e
    exact hs ha
theorem nodup_allL {xs : List Tx} : ∀ {l : List Tx}, l.Nodup → (allL l xs).Nodup := by
  induction xs with
  | nil => intro l h; exact h
  | cons y r ih => intro l h; rw [allL_cons]; exact ih (nodup_more h)
/-- what was there stays ahead -/
theorem allL_pre (xs : List Tx) : ∀ l : List Tx, ∃ r, allL l xs = l ++ r ∧ r.length ≤ (allL [] xs).length := by
  have key : ∀ (xs l m : List Tx), (∀ x ∈ m, x ∈ l) → ∃ r, allL l xs = l ++ r ∧ r.length + m.length ≤ (allL m xs).length := by
    intro xs
    induction xs with
    | nil => intro l m _; exact ⟨[], by simp [allL], by simp [allL]⟩
    | cons y r ih =>
      intro l m hml
      rw [allL_cons, allL_cons]
      by_cases hy : y ∈ l
      · have h1 : moreL l y = l := by unfold moreL; rw [if_pos hy]
        rw [h1]
        obtain ⟨q, e, hq⟩ := ih l (moreL m y) (fun x hx => by
          rcases mem_more.1 hx with h | h
          · exact hml x h
          · exact h ▸ hy)
        refine ⟨q, e, Nat.le_trans ?_ hq⟩
        unfold moreL
        split <;> simp
      · have hym : y ∉ m := fun h => hy (hml y h)
        have h1 : moreL l y = l ++ [y] := by unfold moreL; rw [if_neg hy]
        have h2 : moreL m y = m ++ [y] := by unfold moreL; rw [if_neg hym]
        rw [h1, h2]
        obtain ⟨q, e, hq⟩ := ih (l ++ [y]) (m ++ [y]) (fun x hx => by
          rcases List.mem_append.1 hx with h | h
          · exact List.mem_append_left _ (hml x h)
          · exact List.mem_append_right _ h)
        refine ⟨y :: q, by rw [e]; simp, ?_⟩
        simp at hq ⊢
        omega
  intro l
  obtain ⟨r, e, h⟩ := key xs l [] (by simp)
  exact ⟨r, e, by simpa using h⟩
/-- a list without doubles whose members are another's is no longer -/
theorem nodup_le {X : Type} [DecidableEq X] {l : List X} : ∀ {m : List X}, l.Nodup → (∀ x ∈ l, x ∈ m) → l.length ≤ m.length := by
  induction l with
  | nil => intro m _ _; simp
  | cons x r ih =>
    intro m h hm
    rw [List.nodup_cons] at h
    have hx := hm x (by simp)
    have := ih (m := m.erase x) h.2 (fun y hy => by
      have hne : y ≠ x := fun e => h.1 (e ▸ hy)
      exact (List.mem_erase_of_ne hne).2 (hm y (by simp [hy])))
    rw [List.length_erase_of_mem hx] at this
    have : 0 < m.length := List.length_pos_of_mem hx
    simp
    omega
theorem more_len (l : List Tx) (s : Tx) : (moreL l s).length ≤ l.length + 1 := by
  unfold moreL
  split <;> simp
theorem allL_len (xs : List Tx) : ∀ l : List Tx, (allL l xs).length ≤ l.length + xs.length := by
  induction xs with
  | nil => intro l; simp [allL]
  | cons y r ih =>
    intro l
    have h1 := ih (moreL l y)
    have h2 := more_len l y
    rw [allL_cons, List.length_cons]
    omega
end Go.Proofs.YtifbdglhfoimjaaGreatDoor
