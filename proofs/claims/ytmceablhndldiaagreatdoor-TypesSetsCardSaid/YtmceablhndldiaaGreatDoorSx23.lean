/-
  A closed call that a symbolic run answers with true.
-/
import Derived.Test.YtmceablhndldiaaGreatDoorSx20g
import Derived.Test.YtmceablhndldiaaGreatDoorSx22
namespace Go.Sx
open Go.RowKit

noncomputable def saysTrue (r : Rs AV) : Bool := Rs.rec false (fun a _ _ _ => onBool false (fun b => b) a) r
theorem closed_true {P : Program} {idle same : List Nat} (hid : ∀ f, hasN f idle = true → Idle P f) (hsame : ∀ f, hasN f same = true → SameStr P f) {d f c : Nat} (e : saysTrue (evCall P idle same d f [] c .leaf) = true) (w : World) :
    Calls P f #[] w fun e w' => e = .returned (.bool true) ∧ Below w.heap.size w w' := by
  cases q : evCall P idle same d f [] c .leaf with
  | fail => rw [q] at e; cases e
  | ok v c' h' l =>
    rw [q] at e
    have e : onBool false (fun b => b) v = true := e
    have hv : v = .bool true := by
      cases v with
      | bool b => cases e; rfl
      | _ => cases e
    subst hv
    have hr : Rel (fun _ => none) (.leaf : H) w := ⟨fun n o h => (by rw [T.get_leaf] at h; cases h), fun n m o p b s t h => (by rw [T.get_leaf] at h; cases h)⟩
    refine Calls.mono (((call_ok draw_ok hid hsame d).1 f [] c .leaf _ c' h' l q).2 (fun _ => none) w #[] hr (VRs.nil _) fun _ _ _ => rfl) fun e w' hR => ?_
    obtain ⟨v', ρ', rfl, hV, hp⟩ := hR
    refine ⟨?_, hp.os, hp.tape, hp.output, hp.size, fun k hk => hp.old k hk fun n o s h => ?_⟩
    · simp only [VR] at hV
      rw [hV]
    · rw [T.get_leaf] at h
      cases h
end Go.Sx
