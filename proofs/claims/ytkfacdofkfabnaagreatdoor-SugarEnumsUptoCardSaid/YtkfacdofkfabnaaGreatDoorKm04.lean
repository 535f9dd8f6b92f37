import Derived.Deep.RegionHeld3
import Derived.WalkKit
import Derived.Test.YtkfacdofkfabnaaGreatDoorKm00
namespace Go.Proofs.YtkfacdofkfabnaaGreatDoor
open Go.RowKit (zH zO zD zK zW zA zB zG)
theorem aK {X : Type} (l : List X) (i : Nat) (a : X) : l.toArray.setIfInBounds i a = (l.set i a).toArray := List.setIfInBounds_toArray _ _ _
theorem aI {X : Type} (x a : X) (l : List X) : (x :: l).set 0 a = a :: l := List.set_cons_zero
theorem aJ {X : Type} (x a : X) (l : List X) (n : Nat) : (x :: l).set (n + 1) a = x :: l.set n a := List.set_cons_succ
section
variable {P : Program} {ops : Array Oper} {Q : Exit -> Act -> World -> Prop} {md : Region.Mode} {S : World -> Prop}
theorem FX (i : Nat) {d : Option Tmp} {o : Op} {t : TypeId} {p : String} {af : Array Edge} {g : Option (Nat × Bool)} {v : Value} {fuel : Nat} {listed : Array Bool} {a : Act} {w : World}
  (hi : ops[i]? = some ⟨d, o, t, p, af, g⟩) (hs : Region.noSelect ops = true) (hf : Region.free md ops listed i = true) (hr : (Region.ready md ops listed).contains i = true)
  (hQ : ∀ c a w, Q (.panic c) (a.put d v) w -> Q (.panic c) a w) (hw : Region.wanted ⟨d, o, t, p, af, g⟩ (yielded ops a.tmps) = true)
  (hy : ∀ w, S w -> (execOp a.eval ⟨d, o, t, p, af, g⟩).run P w = .ok (.value v) w) (hS : S w)
  (h : wpAnyH P md ops Q S fuel (listed.setIfInBounds i true) (a.put d v) w) : wpAnyH P md ops Q S (fuel + 1) listed a w :=
 wpAnyH_take hi hs hf hr hQ (.inl ⟨hw, hy⟩) hS h
theorem F5 (i : Nat) {d : Option Tmp} {o : Op} {t : TypeId} {p : String} {af : Array Edge} {g : Option (Nat × Bool)} {fuel : Nat} {listed : Array Bool} {a : Act} {w : World}
  (hi : ops[i]? = some ⟨d, o, t, p, af, g⟩) (hs : Region.noSelect ops = true) (hf : Region.free md ops listed i = true) (hr : (Region.ready md ops listed).contains i = true)
  (hQ : ∀ c a w, Q (.panic c) (a.put d undef) w -> Q (.panic c) a w) (hw : Region.wanted ⟨d, o, t, p, af, g⟩ (yielded ops a.tmps) = false) (hS : S w)
  (h : wpAnyH P md ops Q S fuel (listed.setIfInBounds i true) (a.put d undef) w) : wpAnyH P md ops Q S (fuel + 1) listed a w :=
 wpAnyH_take hi hs hf hr hQ (.inr ⟨hw, rfl⟩) hS h
theorem ay (i : Nat) {d : Option Tmp} {o : Op} {t : TypeId} {p : String} {af : Array Edge} {g : Option (Nat × Bool)} {fuel : Nat} {listed : Array Bool} {a : Act} {w : World}
  (hr : Region.ready md ops listed = [i]) (hi : ops[i]? = some ⟨d, o, t, p, af, g⟩)
  (h : ∀ K' : Act -> World -> Prop, Shut (∀ a w, S w -> (S w -> wpAnyH P md ops Q S fuel (listed.setIfInBounds i true) a w) -> K' a w) -> if Region.wanted ⟨d, o, t, p, af, g⟩ (yielded ops a.tmps) = true then Oper.wp P ⟨d, o, t, p, af, g⟩ a w K' Q else K' (a.put d undef) w) :
  wpAnyH P md ops Q S (fuel + 1) listed a w :=
 wpAnyH_ready hr (by simp) (AllReadyH.cons hi h AllReadyH.nil)
theorem bh (i : Nat) {d : Option Tmp} {o : Op} {t : TypeId} {p : String} {af : Array Edge} {g : Option (Nat × Bool)} {rs : List Nat} {fuel : Nat} {listed : Array Bool} {a : Act} {w : World}
  (hi : ops[i]? = some ⟨d, o, t, p, af, g⟩)
  (h : ∀ K' : Act -> World -> Prop, Shut (∀ a w, S w -> (S w -> wpAnyH P md ops Q S fuel (listed.setIfInBounds i true) a w) -> K' a w) -> if Region.wanted ⟨d, o, t, p, af, g⟩ (yielded ops a.tmps) = true then Oper.wp P ⟨d, o, t, p, af, g⟩ a w K' Q else K' (a.put d undef) w)
  (hs : AllReadyH P md ops Q S fuel listed a w rs) : AllReadyH P md ops Q S fuel listed a w (i :: rs) := AllReadyH.cons hi h hs
theorem aa (i : Nat) {d : Option Tmp} {o : Op} {t : TypeId} {p : String} {af : Array Edge} {g : Option (Nat × Bool)} {v : Value} {fuel : Nat} {listed l' : Array Bool} {a a' : Act} {w : World}
  (h : wpAnyH P md ops Q S fuel l' a' w) (hi : ops[i]? = some ⟨d, o, t, p, af, g⟩ := by rfl)
  (hs : Region.noSelect ops = true := by kernel_rfl) (hf : Region.free md ops listed i = true := by kernel_rfl) (hr : (Region.ready md ops listed).contains i = true := by kernel_rfl)
  (hQ : ∀ c a w, Q (.panic c) (a.put d v) w -> Q (.panic c) a w := by exact λ _ _ _ h => h) (hw : Region.wanted ⟨d, o, t, p, af, g⟩ (yielded ops a.tmps) = true := by rfl)
  (hy : ∀ w, S w -> (execOp a.eval ⟨d, o, t, p, af, g⟩).run P w = .ok (.value v) w := by
    intro w hSw; (try dsimp only at hSw); go_simp; (try rw [if_neg (by assumption)]); (try rw [if_pos zO]); (try simp only [hSw]); (try with_reducible rfl)) (hS : S w := by assumption)
  (hl : listed.setIfInBounds i true = l' := by (try simp only [aK, aI, aJ]); rfl) (ha : a.put d v = a' := by (try simp only [Act.put, aK, aI, aJ]); rfl) : wpAnyH P md ops Q S (fuel + 1) listed a w :=
 FX i hi hs hf hr hQ hw hy hS (by rw [hl, ha]; exact h)
theorem aj (i : Nat) {d : Option Tmp} {o : Op} {t : TypeId} {p : String} {af : Array Edge} {g : Option (Nat × Bool)} {fuel : Nat} {listed l' : Array Bool} {a a' : Act} {w : World}
  (h : wpAnyH P md ops Q S fuel l' a' w) (hi : ops[i]? = some ⟨d, o, t, p, af, g⟩ := by rfl)
  (hs : Region.noSelect ops = true := by kernel_rfl) (hf : Region.free md ops listed i = true := by kernel_rfl) (hr : (Region.ready md ops listed).contains i = true := by kernel_rfl)
  (hQ : ∀ c a w, Q (.panic c) (a.put d undef) w -> Q (.panic c) a w := by exact λ _ _ _ h => h) (hw : Region.wanted ⟨d, o, t, p, af, g⟩ (yielded ops a.tmps) = false := by rfl) (hS : S w := by assumption)
  (hl : listed.setIfInBounds i true = l' := by (try simp only [aK, aI, aJ]); rfl) (ha : a.put d undef = a' := by (try simp only [Act.put, aK, aI, aJ]); rfl) : wpAnyH P md ops Q S (fuel + 1) listed a w :=
 F5 i hi hs hf hr hQ hw hS (by rw [hl, ha]; exact h)
end
end Go.Proofs.YtkfacdofkfabnaaGreatDoor
