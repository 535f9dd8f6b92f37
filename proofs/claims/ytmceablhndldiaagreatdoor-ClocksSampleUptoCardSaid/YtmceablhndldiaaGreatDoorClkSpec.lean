/-
  Clocks: whether an expression without merges can have a clock, of the clocks of variables; an expression that is sampled.
-/
import Derived.Test.YtmceablhndldiaaGreatDoorSugSpec
namespace Go.Proofs.YtmceablhndldiaaGreatDoor

abbrev Clk := List (Tx × Tx)
abbrev Vr := Tx × Clk
/-- the first of that name -/
def lookV : List Vr → Tx → Option Clk
  | [], _ => none
  | v :: r, x => if v.1 = x then some v.2 else lookV r x
def fitsVar (o : Option Clk) (c : Clk) : Bool := match o with
  | some d => decide (d = c)
  | none => false
def manyOp (op : Int) : Prop := op = 5 ∨ op = 6 ∨ op = 7 ∨ op = 8 ∨ op = 9 ∨ op = 10 ∨ op = 14 ∨ op = 15
instance (op : Int) : Decidable (manyOp op) := by unfold manyOp; infer_instance
mutual
def fitsQ (vs : List Vr) : Ex → Clk → Bool
  | .mk op nm _ cs ks, c =>
    if op = 1 ∨ op = 2 ∨ op = 3 then true
    else if op = 4 then fitsVar (lookV vs nm) c
    else if manyOp op then fitsL vs ks c
    else if op = 11 then fitsWhen vs (lookV vs nm) nm cs ks c
    else false
def fitsL (vs : List Vr) : List Ex → Clk → Bool
  | [], _ => true
  | k :: l, c => fitsQ vs k c && fitsL vs l c
def fitsWhen (vs : List Vr) (o : Option Clk) (nm : Tx) : List Tx → List Ex → Clk → Bool
  | con :: _, k :: _, c => match o with
    | some d => decide (d ++ [(nm, con)] = c) && fitsQ vs k d
    | none => false
  | _, _, _ => false
end
mutual
def flatQ : Ex → Bool
  | .mk op _ _ _ ks => if 11 ≤ op ∧ op ≤ 15 then false else if op = 4 then decide (ks.length = 0) else flatL ks
def flatL : List Ex → Bool
  | [] => true
  | k :: l => flatQ k && flatL l
end
mutual
/-- no merge in it -/
def NoM : Ex → Prop
  | .mk op _ _ _ ks => op ≠ 12 ∧ NoML ks
def NoML : List Ex → Prop
  | [] => True
  | k :: l => NoM k ∧ NoML l
end
theorem flat_noM : ∀ e : Ex, flatQ e = true → NoM e := by
  intro e
  induction e using Ex.rec (motive_2 := fun l => flatL l = true → NoML l) with
  | mk op nm n cs ks ih =>
    intro h
    rw [flatQ] at h
    split at h
    · cases h
    · rename_i h1
      rw [NoM]
      refine ⟨fun e => h1 (by omega), ?_⟩
      split at h
      · have hk : ks = [] := List.eq_nil_of_length_eq_zero (of_decide_eq_true h)
        subst hk
        exact trivial
      · exact ih h
  | nil h => exact trivial
  | cons k l h1 h2 h =>
    rw [flatL, Bool.and_eq_true] at h
    exact ⟨h1 h.1, h2 h.2⟩
theorem samp_noM (x con : Tx) : ∀ e : Ex, NoM e → NoM (sampQ x con e) := by
  intro e
  induction e using Ex.rec (motive_2 := fun l => NoML l → NoML (rebL (sampR x con) l)) with
  | mk op nm n cs ks ih =>
    intro h
    have h0 := h
    rw [NoM] at h
    unfold sampQ
    by_cases ho : op = 4
    · rw [rebQ_some (show sampR x con (.mk op nm n cs ks) = _ by simp [sampR, ho]; rfl)]
      exact ⟨by omega, (by rw [← ho]; exact h0), trivial⟩
    · rw [rebQ_none (by simp [sampR, ho]), ← rebL_map]
      exact ⟨h.1, ih h.2⟩
  | nil h => simp only [rebL]; exact trivial
  | cons k l h1 h2 h =>
    simp only [rebL]
    exact ⟨h1 h.1, h2 h.2⟩
/-- what fits a variable's clock, sampled by that variable, fits the clock with the sample behind it -/
theorem samp_fits {vs : List Vr} {x con : Tx} {c : Clk} (hx : lookV vs x = some c) : ∀ e : Ex, flatQ e = true → fitsQ vs e c = true → fitsQ vs (sampQ x con e) (c ++ [(x, con)]) = true := by
  intro e
  induction e using Ex.rec (motive_2 := fun l => flatL l = true → fitsL vs l c = true → fitsL vs (rebL (sampR x con) l) (c ++ [(x, con)]) = true) with
  | mk op nm n cs ks ih =>
    intro hf h
    unfold sampQ
    by_cases ho : op = 4
    · have h0 := h
      rw [rebQ_some (show sampR x con (.mk op nm n cs ks) = _ by simp [sampR, ho]; rfl)]
      rw [fitsQ, if_neg (by omega), if_neg (by omega), if_neg (by unfold manyOp; omega), if_pos rfl, hx, fitsWhen]
      rw [← ho]
      simp [h0]
    · rw [rebQ_none (by simp [sampR, ho]), ← rebL_map]
      rw [flatQ] at hf
      split at hf
      · cases hf
      · rename_i h1
        rw [fitsQ] at h
        rw [fitsQ, if_neg ho]
        rw [if_neg ho] at h
        by_cases hp : op = 1 ∨ op = 2 ∨ op = 3
        · rw [if_pos hp]
        · rw [if_neg hp] at h ⊢
          by_cases hm : manyOp op
          · rw [if_pos hm] at h ⊢
            exact ih hf h
          · rw [if_neg hm, if_neg (by omega)] at h
            cases h
  | nil hf h => simp only [rebL, fitsL]
  | cons k l h1 h2 hf h =>
    rw [flatL, Bool.and_eq_true] at hf
    rw [fitsL, Bool.and_eq_true] at h
    simp only [rebL, fitsL, Bool.and_eq_true]
    exact ⟨h1 hf.1 h.1, h2 hf.2 h.2⟩
end Go.Proofs.YtmceablhndldiaaGreatDoor
