import Derived.OrdersIn
import Derived.RangeFuncCalls
import Derived.TacticsIn
import Derived.Test.YtkfacdofkfabnaaGreatDoorKm04
namespace Go.Proofs.YtkfacdofkfabnaaGreatDoor
def vD (o : Oper) : Bool := match o.op with | .defer _ => false | _ => true
section
variable {P : Program} {ops : Array Oper} {Q : Exit -> Act -> World -> Prop} {md : Region.Mode} {l n : Nat}
theorem FU {o : Oper} {a : Act} {K K' : Act -> World -> Prop} {r : Result Next} (hQ : ¬ LetsOut Q) (hK : ∀ a w, K a w -> K' a w) (h : o.upon P a K Q r) : o.uponIn (Fence.wide.inRound l) n P a K' Q r := by
 cases r with
 | ok x w' =>
   cases x with
   | value v => exact hK _ _ h
   | skip => exact hK _ _ h
   | defer d => exact hK _ _ h
   | enter f args =>
     refine ⟨λ e => (by cases e), CallsIn.inRound l (callsIn_wide.2 (Calls.mono h λ e w'' he => ?_))⟩; cases e with
     | returned v => exact hK _ _ he
     | panicked c => exact he
     | outgrown => exact absurd he hQ
   | row row args =>
     refine ⟨λ e => (by cases e), λ c cs _ => ?_⟩; obtain ⟨v, w'', h1, h2⟩ := h c cs; exact ⟨v, w'', hK _ _ h1, stepsIn_wide.2 h2⟩
   | _ => exact False.elim h
 | halt x w' =>
   cases x with
   | panic v => exact h
   | _ => exact False.elim h
theorem FO {i : Nat} {a : Act} {w : World} {K K' : Act -> World -> Prop} (hd : ops.all vD = true) (hQ : ¬ LetsOut Q) (hK : ∀ a w, K a w -> K' a w) (h : wpOp P ops Q i K a w) : wpOpIn (Fence.wide.inRound l) n P ops Q i K' a w := by
 unfold wpOp at h; unfold wpOpIn; cases ho : ops[i]? with
 | none =>
   simp only [ho] at h ⊢; exact hK _ _ h
 | some o =>
   simp only [ho] at h ⊢; by_cases hw : Region.wanted o (yielded ops a.tmps) = true
   . rw [if_pos hw] at h ⊢; rcases h with h | ⟨_, h⟩
     . refine ⟨λ _ _ => trivial, ?_⟩; have hn : vD o = true := by
        obtain ⟨hi, e⟩ := Array.getElem?_eq_some_iff.1 ho; rw [<- e]; exact Array.all_eq_true.1 hd i hi
       have e : Oper.semAt (Fence.wide.inRound l).round a.eval o = execOp a.eval o := Oper.semAt_some l _ _ (λ c hc => by unfold vD at hn; rw [hc] at hn; cases hn); rw [e]; exact FU hQ hK h
     . exact absurd h hQ
   . rw [if_neg hw] at h ⊢; exact ⟨λ _ _ => trivial, hK _ _ h⟩
theorem Fi (hd : ops.all vD = true) (hQ : ¬ LetsOut Q) : ∀ (fuel : Nat) (listed : Array Bool) (a : Act) (w : World), wpAny P md ops Q fuel listed a w -> wpAnyIn (Fence.wide.inRound l) n P md ops Q fuel listed a w
 | 0, _, _, _, h => h
 | fuel + 1, _, _, _, h => ⟨h.1, λ i hi => FO hd hQ (λ a w => Fi hd hQ fuel _ a w) (h.2 i hi)⟩
theorem GU {S : World -> Prop} {id : Nat} {a : Act} {w : World} (hm : P.follows .mixedOrders = true) (hd : ops.all vD = true) (hQ : ¬ LetsOut Q) (hS : S w.drew)
  (h : S w.drew -> wpAnyH P .any ops Q S ops.size (Array.replicate ops.size false) a w.drew) : (Code.region id ops true).wpIn (Fence.wide.inRound l) n P Q a w :=
 wpIn_region_any hm (Fi hd hQ _ _ _ _ (wpAny_of_held _ _ _ _ (h hS)))
end
end Go.Proofs.YtkfacdofkfabnaaGreatDoor
