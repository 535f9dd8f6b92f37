import Derived.Test.YtkfacdofkfabnaaGreatDoorKm10
import Derived.Test.YtkfacdofkfabnaaGreatDoorKm36
namespace Go.Proofs.YtkfacdofkfabnaaGreatDoor
open Go.RowKit
theorem tD (l : List aY) : ∀ (k : Int) (s : bc), (eH k s l).1 = 0 -> eH k s l = (0, 0, 0) := by
 induction l with
 | nil => intro k s _; rfl
 | cons n r ih =>
   intro k s h; cases hs : b5 s n with
   | inr b => rw [nJ hs] at h; cases h
   | inl s' => rw [lH hs] at h ⊢; exact ih _ _ h
theorem zi {made : Bool} {p : cZ} (h : (br made p).1 = 0) : br made p = (0, 0, 0) /\ dg made p = 0 /\ ∃ s, fo 0 .new p.enums = .inl s /\ eH 0 s p.nodes = (0, 0, 0) := by
 by_cases h0 : dg made p = 0
 . cases he : fo 0 .new p.enums with
   | inr i => rw [qN h0 he] at h; cases h
   | inl s =>
     rw [oD h0 he] at h ⊢; have := tD _ _ _ h; exact ⟨this, h0, s, rfl, this⟩
 . rw [sM h0] at h; exact absurd h h0
theorem aw.take {X : Type} {w : World} {R : List Value -> X -> Prop} {A : Option Addr} {c : Nat} {l : List X} (h : aw w R (.slice A l.length c) l) {k : Nat} (hk : k <= l.length) : aw w R (.slice A k c) (l.take k) := by
 obtain ⟨A', c', e, h1, h2, h3⟩ := h; injection e with e1 _ e3; subst e1 e3
 exact ⟨A, c, by rw [List.length_take, Nat.min_eq_left hk], by rw [List.length_take]; omega, h2, λ i x hx => h3 i x (by
  rw [List.getElem?_take] at hx; split at hx
  . exact hx
  . cases hx)⟩
def Fy (W : World) (e : Ending) (W' : World) : Prop := e = .returned (.bool true) /\ Below W.heap.size W W'
theorem xD {s s' : bc} {n : aY} (h : b5 s n = .inl s') : dQ s n = true /\ ∃ s1 vars, eJ 0 s n.ins n.items = .inl (s1, vars) /\ (n.outs.all (n.items.flatMap bH).contains) = true /\ gZ ⟨s1, n.funs, vars⟩ 0 n.items = none /\ s' = { s1 with nodes := s1.nodes ++ [(n.name, n)] } := by
 cases hh : dQ s n
 . rw [rK hh] at h; cases h
 . refine ⟨rfl, ?_⟩; cases hi : eJ 0 s n.ins n.items with
   | inr b => rw [pJ hh hi] at h; cases h
   | inl x =>
     obtain ⟨s1, vars⟩ := x; cases ho : n.outs.all (n.items.flatMap bH).contains
     . rw [rJ hh hi ho] at h; cases h
     . cases hu : gZ ⟨s1, n.funs, vars⟩ 0 n.items with
       | some b => rw [rI hh hi ho hu] at h; cases h
       | none =>
         rw [zR hh hi ho hu] at h; cases h; exact ⟨s1, vars, rfl, rfl, hu, rfl⟩
end Go.Proofs.YtkfacdofkfabnaaGreatDoor
