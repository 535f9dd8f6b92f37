/-
  What an operation's symbolic run says of the operation: the frame, and the operations on values alone.
-/
import Derived.Test.YtmceablhndldiaaGreatDoorSx3
namespace Go.Sx
open Go.RowKit

section
variable {α β : Type} {c c' : Nat} {h h' : H} {l : Log} {x : β}
theorem pure_ok {a : α} {x : α} (e : M.pure a c h = .ok x c' h' l) : x = a ∧ c' = c ∧ h' = h ∧ l = [] := by cases e; exact ⟨rfl, rfl, rfl, rfl⟩
theorem fail_ok {x : α} (e : (fail : M α) c h = .ok x c' h' l) : False := by cases e
theorem map_ok {f : α → β} {m : M α} (e : M.map f m c h = .ok x c' h' l) : ∃ a, m c h = .ok a c' h' l ∧ x = f a := by
  have e : Rs.rec (motive := fun _ => Rs β) .fail (fun a c h l => .ok (f a) c h l) (m c h) = .ok x c' h' l := e
  cases k : m c h with
  | fail => rw [k] at e; cases e
  | ok a c1 h1 l1 => rw [k] at e; cases e; exact ⟨a, rfl, rfl⟩
theorem bind_ok {m : M α} {k : α → M β} (e : M.bind m k c h = .ok x c' h' l) : ∃ a c1 h1 l1 l2, m c h = .ok a c1 h1 l1 ∧ k a c1 h1 = .ok x c' h' l2 ∧ l = l1 ++ l2 := by
  have e : Rs.andThen k (m c h) = .ok x c' h' l := e
  cases q : m c h with
  | fail => rw [q] at e; cases e
  | ok a c1 h1 l1 =>
    rw [q] at e
    have e : Rs.rec (motive := fun _ => Rs β) .fail (fun b c h l2 => .ok b c h (List.append l1 l2)) (k a c1 h1) = .ok x c' h' l := e
    cases r : k a c1 h1 with
    | fail => rw [r] at e; cases e
    | ok b c2 h2 l2 => rw [r] at e; cases e; exact ⟨a, c1, h1, l1, l2, rfl, r, rfl⟩
theorem ifB_ok {b : Bool} {m : M β} (e : ifB b m fail c h = .ok x c' h' l) : b = true ∧ m c h = .ok x c' h' l := by
  cases b
  · cases e
  · exact ⟨rfl, e⟩
theorem ifS_ok {o : Option α} {k : α → M β} (e : ifS fail k o c h = .ok x c' h' l) : ∃ a, o = some a ∧ k a c h = .ok x c' h' l := by
  cases o with
  | none => cases e
  | some a => exact ⟨a, rfl, e⟩
theorem ifC_ok {o : List α} {k : α → List α → M β} (e : ifC fail k o c h = .ok x c' h' l) : ∃ a t, o = a :: t ∧ k a t c h = .ok x c' h' l := by
  cases o with
  | nil => cases e
  | cons a t => exact ⟨a, t, rfl, e⟩
theorem ofOpt_ok {o : Option β} (e : ofOpt o c h = .ok x c' h' l) : o = some x ∧ c' = c ∧ h' = h ∧ l = [] := by
  cases o with
  | none => cases e
  | some a => cases e; exact ⟨rfl, rfl, rfl, rfl⟩
theorem onBool_ok {v : AV} {k : Bool → M β} (e : onBool fail k v c h = .ok x c' h' l) : ∃ b, v = .bool b ∧ k b c h = .ok x c' h' l := by cases v <;> first | exact ⟨_, rfl, e⟩ | cases e
theorem onInt_ok {v : AV} {k : IntKind → Int → M β} (e : onInt fail k v c h = .ok x c' h' l) : ∃ i n, v = .int i n ∧ k i n c h = .ok x c' h' l := by cases v <;> first | exact ⟨_, _, rfl, e⟩ | cases e
theorem onStr_ok {v : AV} {k : List Nat → M β} (e : onStr fail k v c h = .ok x c' h' l) : ∃ b, v = .str b ∧ k b c h = .ok x c' h' l := by cases v <;> first | exact ⟨_, rfl, e⟩ | cases e
theorem onPtr_ok {v : AV} {k : Option (Nat × Nat) → M β} (e : onPtr fail k v c h = .ok x c' h' l) : ∃ b, v = .ptr b ∧ k b c h = .ok x c' h' l := by cases v <;> first | exact ⟨_, rfl, e⟩ | cases e
theorem onSlice_ok {v : AV} {k : Option (Nat × Nat) → Nat → Nat → Nat → M β} (e : onSlice fail k v c h = .ok x c' h' l) : ∃ a n m z, v = .slice a n m z ∧ k a n m z c h = .ok x c' h' l := by cases v <;> first | exact ⟨_, _, _, _, rfl, e⟩ | cases e
theorem onMap_ok {v : AV} {k : Option Nat → M β} (e : onMap fail k v c h = .ok x c' h' l) : ∃ b, v = .map b ∧ k b c h = .ok x c' h' l := by cases v <;> first | exact ⟨_, rfl, e⟩ | cases e
theorem onFn_ok {v : AV} {k : Nat → List AV → List AV → M β} (e : onFn fail k v c h = .ok x c' h' l) : ∃ f a b, v = .fn f a b ∧ k f a b c h = .ok x c' h' l := by cases v <;> first | exact ⟨_, _, _, rfl, e⟩ | cases e
theorem onAgg_ok {v : AV} {k : List AV → M β} (e : onAgg fail k v c h = .ok x c' h' l) : ∃ b, v = .agg b ∧ k b c h = .ok x c' h' l := by cases v <;> first | exact ⟨_, rfl, e⟩ | cases e
theorem onTuple_ok {v : AV} {k : List AV → M β} (e : onTuple fail k v c h = .ok x c' h' l) : ∃ b, v = .tuple b ∧ k b c h = .ok x c' h' l := by cases v <;> first | exact ⟨_, rfl, e⟩ | cases e
theorem onNat_ok {v : Int} {k : Nat → M β} (e : onNat fail k v c h = .ok x c' h' l) : ∃ n : Nat, v = .ofNat n ∧ k n c h = .ok x c' h' l := by cases v <;> first | exact ⟨_, rfl, e⟩ | cases e
theorem ifS_eq {o : Option α} {k : α → Option β} (e : ifS none k o = some x) : ∃ a, o = some a ∧ k a = some x := by
  cases o with
  | none => cases e
  | some a => exact ⟨a, rfl, e⟩
theorem ifB_eq {b : Bool} {m : Option β} (e : ifB b m none = some x) : b = true ∧ m = some x := by
  cases b
  · cases e
  · exact ⟨rfl, e⟩
end
/-- the temporaries of a frame -/
def ER (ρ : Ren) (e : Env) (tmps : Array Value) : Prop := ∀ t, VR ρ (e.get t) (tmps.getD t undef)
theorem ER.mono {ρ σ : Ren} (k : Ren.le ρ σ) {e : Env} {tmps : Array Value} (h : ER ρ e tmps) : ER σ e tmps := fun t => VR.mono k _ _ (h t)
theorem VR.undefA (ρ : Ren) : VR ρ undefA undef := by
  show VR ρ (.tuple []) (.tuple #[])
  simp only [VR]
  exact ⟨#[], rfl, by simp [VRs]⟩
theorem ofS_VR (ρ : Ren) {v : Value} {a : AV} (e : ofS v = some a) : VR ρ a v := by
  unfold ofS at e
  split at e <;> (try cases e) <;> simp [VR, VRs]
theorem allO_VR (ρ : Ren) : ∀ {l : List Value} {r : List AV}, allO ofS l = some r → VRs ρ r l
  | [], _, e => by cases e; exact VRs.nil ρ
  | v :: l, r, e => by
    have e : ifS none (fun b => ifS none (fun r => some (b :: r)) (allO ofS l)) (ofS v) = some r := e
    obtain ⟨b, h1, e⟩ := ifS_eq e
    obtain ⟨q, h2, e⟩ := ifS_eq e
    cases e
    exact VRs.cons (ofS_VR ρ h1) (allO_VR ρ h2)
theorem ofV_VR (ρ : Ren) {v : Value} {a : AV} (e : ofV v = some a) : VR ρ a v := by
  unfold ofV at e
  split at e
  · obtain ⟨r, h1, e⟩ := ifS_eq e
    cases e
    simp only [VR]
    exact ⟨_, rfl, allO_VR ρ h1⟩
  · cases e
    exact VR.undefA ρ
  · exact ofS_VR ρ e
theorem cOpd_VR {ρ : Ren} {e : Env} {a : Act} (h : ER ρ e a.tmps) {x : Operand} {y : Opd} (k : cOpd x = some y) : VR ρ (ev e y) (a.eval x) := by
  unfold cOpd at k
  split at k
  · cases k
    exact h _
  · obtain ⟨v, h1, k⟩ := ifS_eq k
    cases k
    exact ofV_VR ρ h1
  · cases k
  · cases k
    show VR ρ (.fn _ [] []) (.func (.func _) #[] #[])
    simp [VR, VRs]
theorem cOps_VR {ρ : Ren} {e : Env} {a : Act} (h : ER ρ e a.tmps) : ∀ {l : List Operand} {r : List Opd}, cOps l = some r → VRs ρ (evs e r) (l.map a.eval)
  | [], _, k => by cases k; exact VRs.nil ρ
  | x :: l, r, k => by
    have k : ifS none (fun b => ifS none (fun r => some (b :: r)) (cOps l)) (cOpd x) = some r := k
    obtain ⟨b, h1, k⟩ := ifS_eq k
    obtain ⟨q, h2, k⟩ := ifS_eq k
    cases k
    exact VRs.cons (cOpd_VR h h1) (cOps_VR h h2)
theorem cOpdO_VR {ρ : Ren} {e : Env} {a : Act} (h : ER ρ e a.tmps) {x : Option Operand} {y : Option Opd} (k : cOpdO x = some y) : (x = none ∧ y = none) ∨ ∃ x' y', x = some x' ∧ y = some y' ∧ VR ρ (ev e y') (a.eval x') := by
  cases x with
  | none => cases k; exact .inl ⟨rfl, rfl⟩
  | some x' =>
    obtain ⟨y', h1, k⟩ := ifS_eq (show ifS none (fun y => some (some y)) (cOpd x') = some y from k)
    cases k
    exact .inr ⟨x', y', rfl, rfl, cOpd_VR h h1⟩

/-- what a symbolic call says of the call -/
def CallOk (P : Program) (call : Ctx) : Prop := ∀ f args c h v c' h' l, call f args c h = .ok v c' h' l → (∀ (xs : Array Value) (w : World), (callFunc f xs).run P w = .ok (.enter f xs) w) ∧ ∀ ρ w (xs : Array Value), Rel ρ h w → VRs ρ args xs.toList → Free ρ c c' →
  Calls P f xs w fun e w' => ∃ v' ρ', e = .returned v' ∧ VR ρ' v v' ∧ Post ρ h w c c' ρ' h' w'
/-- what a symbolic operation says of the operation -/
def OpOk (P : Program) (o : Oper) (f : Ev) : Prop := ∀ call, CallOk P call → ∀ e c h v c' h' l, f call e c h = .ok v c' h' l → ∀ ρ w (a : Act), Rel ρ h w → ER ρ e a.tmps → Free ρ c c' →
  ∀ next Q, (∀ v' ρ' w', VR ρ' v v' → Post ρ h w c c' ρ' h' w' → next (a.put o.dst v') w') → o.wp P a w next Q
section
variable {P : Program} {o : Oper} {f : Ev}
/-- an operation that yields a value, and leaves memory as it is -/
theorem OpOk.of_val (k : ∀ call e c h v c' h' l, f call e c h = .ok v c' h' l → c' = c ∧ h' = h ∧ ∀ ρ w (a : Act), Rel ρ h w → ER ρ e a.tmps → ∃ v', (execOp a.eval o).run P w = .ok (.value v') w ∧ VR ρ v v') : OpOk P o f := by
  intro call _ e c h v c' h' l he ρ w a hr hE _ next Q hn
  obtain ⟨rfl, rfl, k⟩ := k call e c h v c' h' l he
  obtain ⟨v', hv, hV⟩ := k ρ w a hr hE
  unfold Oper.wp
  rw [hv]
  exact hn v' ρ w hV (Post.refl hr)
/-- an operation that yields a value -/
theorem OpOk.of_run (k : ∀ call e c h v c' h' l, f call e c h = .ok v c' h' l → ∀ ρ w (a : Act), Rel ρ h w → ER ρ e a.tmps → Free ρ c c' → ∃ v' ρ' w', (execOp a.eval o).run P w = .ok (.value v') w' ∧ VR ρ' v v' ∧ Post ρ h w c c' ρ' h' w') : OpOk P o f := by
  intro call _ e c h v c' h' l he ρ w a hr hE hf next Q hn
  obtain ⟨v', ρ', w', hv, hV, hp⟩ := k call e c h v c' h' l he ρ w a hr hE hf
  unfold Oper.wp
  rw [hv]
  exact hn v' ρ' w' hV hp
/-- an operation that yields none -/
theorem OpOk.of_skip (k : ∀ call e c h v c' h' l, f call e c h = .ok v c' h' l → v = undefA ∧ ∀ ρ w (a : Act), Rel ρ h w → ER ρ e a.tmps → Free ρ c c' → ∃ ρ' w', (execOp a.eval o).run P w = .ok .skip w' ∧ Post ρ h w c c' ρ' h' w') : OpOk P o f := by
  intro call _ e c h v c' h' l he ρ w a hr hE hf next Q hn
  obtain ⟨rfl, k⟩ := k call e c h v c' h' l he
  obtain ⟨ρ', w', hv, hp⟩ := k ρ w a hr hE hf
  unfold Oper.wp
  rw [hv]
  exact hn undef ρ' w' (VR.undefA ρ') hp
theorem OpOk.fail : OpOk P o oFail := fun _ _ _ _ _ _ _ _ _ he => by cases he
end
end Go.Sx
