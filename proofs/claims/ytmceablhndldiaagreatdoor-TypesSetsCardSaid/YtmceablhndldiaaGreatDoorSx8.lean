/-
  The operations on values alone: '=='.
-/
import Derived.Test.YtmceablhndldiaaGreatDoorSx7
namespace Go.Sx
open Go.RowKit

section
variable {P : Program} {o : Oper}
/-- what a comparison says of '==' and '!=' -/
def EqOk (P : Program) (t : TypeId) (x y : Operand) (f : AV → AV → Option Bool) : Prop := ∀ ρ p q r, f p q = some r → ∀ u v, VR ρ p u → VR ρ q v → ∀ w : World,
  (∀ op, (eqGuard op t x y u v).run P w = .ok () w) ∧ (binOp .eql t u v).run P w = .ok (.bool r) w ∧ (binOp .neq t u v).run P w = .ok (.bool (!r)) w
theorem op_eq {op : BinOp} {pos : Bool} {t t' : TypeId} {x y : Operand} {x' y' : Opd} {f : AV → AV → Option Bool} (ho : o.op = .binOp op t x y t') (kx : cOpd x = some x') (ky : cOpd y = some y')
    (hp : (op = .eql ∧ pos = true) ∨ (op = .neq ∧ pos = false)) (hf : EqOk P t x y f) : OpOk P o (oEq f pos x' y') := by
  refine OpOk.of_val fun call e c h v c' h' l he => ?_
  obtain ⟨r, hr, he⟩ := ifS_ok he
  obtain ⟨rfl, rfl, rfl, _⟩ := pure_ok he
  refine ⟨rfl, rfl, fun ρ w a _ hE => ?_⟩
  obtain ⟨h1, h2, h3⟩ := hf ρ _ _ r hr _ _ (cOpd_VR hE kx) (cOpd_VR hE ky) w
  refine ⟨.bool (if pos then r else !r), ?_, ?_⟩
  · simp only [execOp, ho]
    refine run_val ?_
    rcases hp with ⟨rfl, rfl⟩ | ⟨rfl, rfl⟩ <;> simp [h1, h2, h3]
  · cases pos <;> exact VR.bool ρ _
theorem onBool_eq {v : AV} {β : Type} {k : Bool → Option β} {r : β} (e : onBool none k v = some r) : ∃ b, v = .bool b ∧ k b = some r := by cases v <;> first | exact ⟨_, rfl, e⟩ | cases e
theorem onInt_eq {v : AV} {β : Type} {k : IntKind → Int → Option β} {r : β} (e : onInt none k v = some r) : ∃ i n, v = .int i n ∧ k i n = some r := by cases v <;> first | exact ⟨_, _, rfl, e⟩ | cases e
theorem onStr_eq {v : AV} {β : Type} {k : List Nat → Option β} {r : β} (e : onStr none k v = some r) : ∃ b, v = .str b ∧ k b = some r := by cases v <;> first | exact ⟨_, rfl, e⟩ | cases e
theorem onPtr_eq {v : AV} {β : Type} {k : Option (Nat × Nat) → Option β} {r : β} (e : onPtr none k v = some r) : ∃ b, v = .ptr b ∧ k b = some r := by cases v <;> first | exact ⟨_, rfl, e⟩ | cases e
theorem onSlice_eq {v : AV} {β : Type} {k : Option (Nat × Nat) → Nat → Nat → Nat → Option β} {r : β} (e : onSlice none k v = some r) : ∃ a n m z, v = .slice a n m z ∧ k a n m z = some r := by cases v <;> first | exact ⟨_, _, _, _, rfl, e⟩ | cases e
theorem onMap_eq {v : AV} {β : Type} {k : Option Nat → Option β} {r : β} (e : onMap none k v = some r) : ∃ b, v = .map b ∧ k b = some r := by cases v <;> first | exact ⟨_, rfl, e⟩ | cases e
theorem onAgg_eq {v : AV} {β : Type} {k : List AV → Option β} {r : β} (e : onAgg none k v = some r) : ∃ b, v = .agg b ∧ k b = some r := by cases v <;> first | exact ⟨_, rfl, e⟩ | cases e
theorem ifC_eq {α β : Type} {l : List α} {k : α → List α → Option β} {r : β} (e : ifC none k l = some r) : ∃ a t, l = a :: t ∧ k a t = some r := by
  cases l with
  | nil => cases e
  | cons a t => exact ⟨a, t, rfl, e⟩
theorem eqBool (a b : Bool) : ifB a b (not b) = (a == b) := by cases a <;> cases b <;> rfl
def fkFits : FK → TypeDesc → Prop
  | .int, d => ∃ k, d = .int k
  | .str, d => d = .string
  | .bool, d => d = .bool
theorem fkO_eq {t : TypeId} {k : FK} (h : fkO P t = some k) : ∃ d, P.underlying t = some d ∧ fkFits k d := by
  unfold fkO at h
  split at h <;> first
    | (rename_i e; cases h; exact ⟨_, e, _, rfl⟩)
    | (rename_i e; cases h; exact ⟨_, e, rfl⟩)
    | cases h
/-- cells that are numbers, strings or truths -/
theorem eqCell_ok {k : FK} {ρ : Ren} {p q : AV} {r : Bool} (h : eqCell k p q = some r) {u v : Value} (hu : VR ρ p u) (hv : VR ρ q v) :
    match k with
    | .int => ∃ i m n, u = .int i m ∧ v = .int i n ∧ r = (m == n)
    | .str => ∃ a b, u = .string a ∧ v = .string b ∧ r = (a.toList == b.toList)
    | .bool => ∃ a b, u = .bool a ∧ v = .bool b ∧ r = (a == b) := by
  cases k with
  | int =>
    obtain ⟨i, m, rfl, h⟩ := onInt_eq (show onInt none _ p = some r from h)
    obtain ⟨j, n, rfl, h⟩ := onInt_eq h
    obtain ⟨hk, h⟩ := ifB_eq h
    cases h
    simp only [VR] at hu hv
    rw [kind_eq hk] at hu
    exact ⟨j, m, n, hu, hv, eqI_eq m n⟩
  | str =>
    obtain ⟨a, rfl, h⟩ := onStr_eq (show onStr none _ p = some r from h)
    obtain ⟨b, rfl, h⟩ := onStr_eq h
    cases h
    simp only [VR] at hu hv
    obtain ⟨x, hu, h1⟩ := hu
    obtain ⟨y, hv, h2⟩ := hv
    exact ⟨x, y, hu, hv, str_eq h1 h2⟩
  | bool =>
    obtain ⟨a, rfl, h⟩ := onBool_eq (show onBool none _ p = some r from h)
    obtain ⟨b, rfl, h⟩ := onBool_eq h
    cases h
    simp only [VR] at hu hv
    exact ⟨a, b, hu, hv, eqBool a b⟩
theorem run_eqCell {k : FK} {t : TypeId} (ht : fkO P t = some k) {ρ : Ren} {p q : AV} {r : Bool} (h : eqCell k p q = some r) {u v : Value} (hu : VR ρ p u) (hv : VR ρ q v) (d : Nat) (w : World) : (Op.equalIn (d + 1) t u v).run P w = .ok r w := by
  obtain ⟨D, hD, hf⟩ := fkO_eq ht
  have := eqCell_ok h hu hv
  cases k with
  | int =>
    obtain ⟨i, m, n, rfl, rfl, rfl⟩ := this
    obtain ⟨j, rfl⟩ := hf
    exact run_equalIn_int w d t i j m n hD
  | str =>
    obtain ⟨a, b, rfl, rfl, rfl⟩ := this
    exact run_equalIn_string w d t a b (hf ▸ hD)
  | bool =>
    obtain ⟨a, b, rfl, rfl, rfl⟩ := this
    exact run_equalIn_bool' w d t a b (hf ▸ hD)
theorem EqOk.of_equal {t : TypeId} {x y : Operand} {f : AV → AV → Option Bool} (h : ∀ ρ p q r, f p q = some r → ∀ u v, VR ρ p u → VR ρ q v → ∀ w : World,
    (∀ op, (eqGuard op t x y u v).run P w = .ok () w) ∧ (∀ d, (Op.equalIn (d + 1) t u v).run P w = .ok r w) ∧ (binOp .eql t u v = do pure (.bool (← Op.equal t u v))) ∧ (binOp .neq t u v = do pure (.bool (!(← Op.equal t u v))))) : EqOk P t x y f := by
  intro ρ p q r hr u v hu hv w
  obtain ⟨h1, h2, h3, h4⟩ := h ρ p q r hr u v hu hv w
  have h2 : (Op.equal t u v).run P w = .ok r w := h2 9999
  exact ⟨h1, by rw [h3]; simp [h2], by rw [h4]; simp [h2]⟩
theorem eq_bool {t : TypeId} {x y : Operand} (ht : P.underlying t = some .bool) : EqOk P t x y (eqCell .bool) := by
  refine EqOk.of_equal fun ρ p q r hr u v hu hv w => ?_
  have hk : fkO P t = some .bool := by unfold fkO; rw [ht]
  have h2 := fun d => run_eqCell hk hr hu hv d w
  obtain ⟨a, b, rfl, rfl, _⟩ := eqCell_ok hr hu hv
  exact ⟨fun op => by cases op <;> rfl, h2, rfl, rfl⟩
theorem eq_ptr {t e : TypeId} {z : Nat} {x y : Operand} (ht : P.underlying t = some (.pointer e)) (hz : sizeO P e = some z) (hn : z ≠ 0) : EqOk P t x y eqPtr := by
  refine EqOk.of_equal fun ρ p q r hr u v hu hv w => ?_
  obtain ⟨a, rfl, hr⟩ := onPtr_eq (v := p) hr
  obtain ⟨b, rfl, hr⟩ := onPtr_eq (v := q) hr
  have key : ∃ i j, u = .pointer i ∧ v = .pointer j ∧ ∀ d, (Op.equalIn (d + 1) t u v).run P w = .ok r w := by
    cases a with
    | none =>
      simp only [VR] at hu
      subst hu
      cases hr
      cases b with
      | none => simp only [VR] at hv; subst hv; exact ⟨_, _, rfl, rfl, fun d => by simp [Op.equalIn, run_under ht, ifS]⟩
      | some b => simp only [VR] at hv; obtain ⟨_, _, _, rfl⟩ := hv; exact ⟨_, _, rfl, rfl, fun d => by simp [Op.equalIn, run_under ht, ifS]⟩
    | some a =>
      simp only [VR] at hu
      obtain ⟨k, z', h1, rfl⟩ := hu
      cases b with
      | none => cases hr; simp only [VR] at hv; subst hv; exact ⟨_, _, rfl, rfl, fun d => by simp [Op.equalIn, run_under ht]⟩
      | some b =>
        simp only [VR] at hv
        obtain ⟨k', z'', h2, rfl⟩ := hv
        obtain ⟨hk, hr⟩ := ifB_eq (show ifB (Nat.beq a.1 b.1) (some (Nat.beq a.2 b.2)) none = some r from hr)
        cases hr
        rw [Nat.eq_of_beq_eq_true hk, h2] at h1
        cases h1
        refine ⟨_, _, rfl, rfl, ?_⟩
        have : Nat.beq a.2 b.2 = ((⟨k, a.2, none⟩ : Addr) == ⟨k, b.2, none⟩) := by
          by_cases e : a.2 = b.2
          · rw [e]; simp
          · have e1 : Nat.beq a.2 b.2 = false := Bool.eq_false_iff.2 fun h => e (Nat.eq_of_beq_eq_true h)
            rw [e1]
            exact (beq_eq_false_iff_ne.2 fun h => e (Addr.mk.inj h).2.1).symm
        rw [this]
        simp [Op.equalIn, run_under ht, run_size hz, hn, sameAddr]
  obtain ⟨i, j, rfl, rfl, h2⟩ := key
  exact ⟨fun op => by cases op <;> rfl, h2, rfl, rfl⟩
theorem eq_sl {t e : TypeId} {x y : Operand} (ht : P.underlying t = some (.slice e)) : EqOk P t x y eqSl := by
  refine EqOk.of_equal fun ρ p q r hr u v hu hv w => ?_
  obtain ⟨a, n, m, z, rfl, hr⟩ := onSlice_eq (v := p) hr
  obtain ⟨b, n', m', z', rfl, hr⟩ := onSlice_eq (v := q) hr
  have key : ∃ i n m j n' m', u = .slice i n m ∧ v = .slice j n' m' ∧ ∀ d, (Op.equalIn (d + 1) t u v).run P w = .ok r w := by
    cases a with
    | none =>
      simp only [VR] at hu
      subst hu
      cases hr
      cases b with
      | none => simp only [VR] at hv; subst hv; exact ⟨_, _, _, _, _, _, rfl, rfl, fun d => by simp [Op.equalIn, run_under ht, ifS]⟩
      | some b => simp only [VR] at hv; obtain ⟨_, _, _, _, _, rfl, _⟩ := hv; exact ⟨_, _, _, _, _, _, rfl, rfl, fun d => by simp [Op.equalIn, run_under ht, ifS]⟩
    | some a =>
      simp only [VR] at hu
      obtain ⟨_, _, _, _, _, rfl, _⟩ := hu
      cases b with
      | none => cases hr; simp only [VR] at hv; subst hv; exact ⟨_, _, _, _, _, _, rfl, rfl, fun d => by simp [Op.equalIn, run_under ht]⟩
      | some b => cases hr
  obtain ⟨i, n, m, j, n', m', rfl, rfl, h2⟩ := key
  exact ⟨fun op => by cases op <;> rfl, h2, rfl, rfl⟩
theorem eq_map {t k e : TypeId} {x y : Operand} (ht : P.underlying t = some (.map k e)) : EqOk P t x y eqMap := by
  refine EqOk.of_equal fun ρ p q r hr u v hu hv w => ?_
  obtain ⟨a, rfl, hr⟩ := onMap_eq (v := p) hr
  obtain ⟨b, rfl, hr⟩ := onMap_eq (v := q) hr
  have key : ∃ i j, u = .map i ∧ v = .map j ∧ ∀ d, (Op.equalIn (d + 1) t u v).run P w = .ok r w := by
    cases a with
    | none =>
      simp only [VR] at hu
      subst hu
      cases hr
      cases b with
      | none => simp only [VR] at hv; subst hv; exact ⟨_, _, rfl, rfl, fun d => by simp [Op.equalIn, run_under ht, ifS]⟩
      | some b => simp only [VR] at hv; obtain ⟨_, _, _, rfl⟩ := hv; exact ⟨_, _, rfl, rfl, fun d => by simp [Op.equalIn, run_under ht, ifS]⟩
    | some a =>
      simp only [VR] at hu
      obtain ⟨_, _, _, rfl⟩ := hu
      cases b with
      | none => cases hr; simp only [VR] at hv; subst hv; exact ⟨_, _, rfl, rfl, fun d => by simp [Op.equalIn, run_under ht]⟩
      | some b => cases hr
  obtain ⟨i, j, rfl, rfl, h2⟩ := key
  exact ⟨fun op => by cases op <;> rfl, h2, rfl, rfl⟩
theorem nilF_eq {v : AV} {b : Bool} (h : nilF v = some b) : (b = true ∧ v = .nilFn) ∨ (b = false ∧ ∃ f a c, v = .fn f a c) := by
  cases v <;> first | (cases h; exact .inl ⟨rfl, rfl⟩) | (cases h; exact .inr ⟨rfl, _, _, _, rfl⟩) | cases h
theorem nilI_eq {v : AV} {b : Bool} (h : nilI v = some b) : (b = true ∧ v = .nilIface) ∨ (b = false ∧ ∃ t x, v = .iface t x) := by
  cases v <;> first | (cases h; exact .inl ⟨rfl, rfl⟩) | (cases h; exact .inr ⟨rfl, _, _, rfl⟩) | cases h
theorem nil2_eq {a b : Option Bool} {r : Bool} (h : nil2 a b = some r) : (a = some true ∧ b = some r) ∨ (a = some false ∧ b = some true ∧ r = false) := by
  cases a with
  | none => cases h
  | some a =>
    cases b with
    | none => cases h
    | some b => cases a <;> cases b <;> first | (cases h; exact .inl ⟨rfl, rfl⟩) | (cases h; exact .inr ⟨rfl, rfl, rfl⟩) | cases h
theorem eq_fn {t : TypeId} {ps rs : Array TypeId} {b : Bool} {x y : Operand} (ht : P.underlying t = some (.func ps rs b)) : EqOk P t x y eqFn := by
  refine EqOk.of_equal fun ρ p q r hr u v hu hv w => ?_
  rcases nil2_eq hr with ⟨h1, h2⟩ | ⟨h1, h2, rfl⟩
  · rcases nilF_eq h1 with ⟨_, rfl⟩ | ⟨e, _⟩
    · simp only [VR] at hu
      subst hu
      rcases nilF_eq h2 with ⟨rfl, rfl⟩ | ⟨rfl, f, a, c, rfl⟩
      · simp only [VR] at hv
        subst hv
        exact ⟨fun op => by cases op <;> rfl, fun d => by simp [Op.equalIn, run_under ht], rfl, rfl⟩
      · simp only [VR] at hv
        obtain ⟨_, _, rfl, _⟩ := hv
        exact ⟨fun op => by cases op <;> rfl, fun d => by simp [Op.equalIn, run_under ht], rfl, rfl⟩
    · cases e
  · rcases nilF_eq h1 with ⟨e, _⟩ | ⟨_, f, a, c, rfl⟩
    · cases e
    · rcases nilF_eq h2 with ⟨_, rfl⟩ | ⟨e, _⟩
      · simp only [VR] at hu hv
        obtain ⟨_, _, rfl, _⟩ := hu
        subst hv
        exact ⟨fun op => by cases op <;> rfl, fun d => by simp [Op.equalIn, run_under ht], rfl, rfl⟩
      · cases e
theorem isConst_eq {x : Operand} (h : isConst x = true) : ∃ v, x = .const v := by
  cases x <;> first | exact ⟨_, rfl⟩ | cases h
theorem eq_if {t : TypeId} {ms : Array (String × TypeId)} {x y : Operand} (ht : P.underlying t = some (.interface ms)) (hc : isConst x = true ∨ isConst y = true) : EqOk P t x y eqIf := by
  refine EqOk.of_equal fun ρ p q r hr u v hu hv w => ?_
  rcases nil2_eq hr with ⟨h1, h2⟩ | ⟨h1, h2, rfl⟩
  · rcases nilI_eq h1 with ⟨_, rfl⟩ | ⟨e, _⟩
    · simp only [VR] at hu
      subst hu
      rcases nilI_eq h2 with ⟨rfl, rfl⟩ | ⟨rfl, f, a, rfl⟩
      · simp only [VR] at hv
        subst hv
        refine ⟨fun op => ?_, fun d => by simp [Op.equalIn, run_under ht], rfl, rfl⟩
        rcases hc with hc | hc <;> obtain ⟨z, rfl⟩ := isConst_eq hc <;> cases op <;> simp [eqGuard]
      · simp only [VR] at hv
        obtain ⟨_, rfl, _⟩ := hv
        exact ⟨fun op => by cases op <;> rfl, fun d => by simp [Op.equalIn, run_under ht], rfl, rfl⟩
    · cases e
  · rcases nilI_eq h1 with ⟨e, _⟩ | ⟨_, f, a, rfl⟩
    · cases e
    · rcases nilI_eq h2 with ⟨_, rfl⟩ | ⟨e, _⟩
      · simp only [VR] at hu hv
        obtain ⟨_, rfl, _⟩ := hu
        subst hv
        exact ⟨fun op => by cases op <;> rfl, fun d => by simp [Op.equalIn, run_under ht], rfl, rfl⟩
      · cases e
theorem run_eqFs {w : World} {ρ : Ren} (d : Nat) {a b : List AV} {xs ys : Array Value} (ha : VRs ρ a xs.toList) (hb : VRs ρ b ys.toList) : ∀ (fs : List Field) (ks : List (Nat × FK)) (r : Bool), allO (fieldK P) fs = some ks →
    List.rec (motive := fun _ => Option Bool) (some true) (fun k _ r => ifC none (fun p _ => ifC none (fun q _ => ifS none (fun t => ifB t r (some false)) (eqCell k.2 p q)) (dropN k.1 b)) (dropN k.1 a)) ks = some r →
    (Op.eqFields (d + 1) xs ys fs).run P w = .ok r w
  | [], ks, r, hk, hr => by
    cases hk
    cases hr
    rfl
  | f :: fs, ks, r, hk, hr => by
    obtain ⟨k, h1, hk⟩ := ifS_eq (show ifS none (fun b => ifS none (fun r => some (b :: r)) (allO (fieldK P) fs)) (fieldK P f) = some ks from hk)
    obtain ⟨ks', h2, hk⟩ := ifS_eq hk
    cases hk
    obtain ⟨hn, h1⟩ := ifB_eq h1
    obtain ⟨fk, h3, h1⟩ := ifS_eq h1
    cases h1
    obtain ⟨p, t1, hp, hr⟩ := ifC_eq hr
    obtain ⟨q, t2, hq, hr⟩ := ifC_eq hr
    obtain ⟨t, ht, hr⟩ := ifS_eq hr
    have hagg : aggO P f.type = some false := by
      obtain ⟨D, hD, hf⟩ := fkO_eq h3
      unfold aggO
      rw [hD]
      cases fk with
      | int => obtain ⟨_, rfl⟩ := hf; rfl
      | str => have hf : D = .string := hf; subst hf; rfl
      | bool => have hf : D = .bool := hf; subst hf; rfl
    obtain ⟨u, g1, g2⟩ := run_part1 (w := w) hagg ha hp
    obtain ⟨v, g3, g4⟩ := run_part1 (w := w) hagg hb hq
    have g5 := run_eqCell h3 ht g2 g4 d w
    have hn' : f.name ≠ "_" := by simpa using hn
    simp only [Op.eqFields, if_pos hn', Sem.run_bind, g1, g3, g5, Result.andThen]
    cases t with
    | true =>
      simp only [Bool.not_true, Bool.false_eq_true, if_false]
      exact run_eqFs d ha hb fs ks' r h2 hr
    | false =>
      cases hr
      rfl
theorem eq_fs {t : TypeId} {fs : Array Field} {ks : List (Nat × FK)} {x y : Operand} (ht : P.underlying t = some (.struct fs)) (hg : P.eqGuardType P.depth t = false) (hp : P.stoodInHeld t = false) (hk : allO (fieldK P) fs.toList = some ks) : EqOk P t x y (eqFs ks) := by
  intro ρ p q r hr u v hu hv w
  obtain ⟨a, rfl, hr⟩ := onAgg_eq (v := p) hr
  obtain ⟨b, rfl, hr⟩ := onAgg_eq (v := q) hr
  simp only [VR] at hu hv
  obtain ⟨xs, rfl, hu⟩ := hu
  obtain ⟨ys, rfl, hv⟩ := hv
  have hfs : P.fieldsOf t = fs := by simp [Program.fieldsOf, ht]
  have h1 : (Op.equalIn 10000 t (.agg xs) (.agg ys)).run P w = .ok r w := by
    rw [show (10000 : Nat) = 9999 + 1 from rfl, run_equalIn_struct w 9999 t xs ys (by rw [hfs]; exact ht) hp, hfs]
    exact run_eqFs 9998 hu hv fs.toList ks r hk hr
  exact ⟨fun op => run_eqGuard_agg w op t x y xs ys hg, by rw [run_eql_struct, h1]; rfl, by rw [run_neq_struct, h1]; rfl⟩
theorem eqOf_ok {t : TypeId} {x y : Operand} {f : AV → AV → Option Bool} (h : eqOf P t x y = some f) : EqOk P t x y f := by
  unfold eqOf at h
  split at h
  · rename_i ht; cases h; exact eq_bool ht
  · rename_i e ht
    obtain ⟨z, hz, h⟩ := ifS_eq h
    obtain ⟨hn, h⟩ := ifN_eq h
    cases h
    exact eq_ptr ht hz fun e => by subst e; cases hn
  · rename_i ht; cases h; exact eq_sl ht
  · rename_i ht; cases h; exact eq_map ht
  · rename_i ht; cases h; exact eq_fn ht
  · rename_i ht
    obtain ⟨hc, h⟩ := ifB_eq h
    cases h
    refine eq_if ht ?_
    cases hx : isConst x with
    | true => exact .inl rfl
    | false => rw [hx] at hc; exact .inr hc
  · rename_i ht
    obtain ⟨hc, h⟩ := ifB_eq h
    obtain ⟨ks, hk, h⟩ := ifS_eq h
    cases h
    cases hg : P.eqGuardType P.depth _ with
    | true => rw [hg] at hc; cases hc
    | false =>
      rw [hg] at hc
      exact eq_fs ht hg (by simpa using (show (not (P.stoodInHeld _)) = true from hc)) hk
  · cases h
theorem op_cBin {op : BinOp} {t t' : TypeId} {x y : Operand} {x' y' : Opd} {f : Ev} (ho : o.op = .binOp op t x y t') (kx : cOpd x = some x') (ky : cOpd y = some y') (h : cBin P op t x y x' y' = some f) : OpOk P o f := by
  unfold cBin at h
  cases hs : isScal P t with
  | true => rw [hs] at h; cases h; exact op_bin ho kx ky
  | false =>
    rw [hs] at h
    cases op with
    | eql =>
      obtain ⟨g, hg, h⟩ := ifS_eq (show ifS none (fun f => some (oEq f true x' y')) (eqOf P t x y) = some f from h)
      cases h
      exact op_eq ho kx ky (.inl ⟨rfl, rfl⟩) (eqOf_ok hg)
    | neq =>
      obtain ⟨g, hg, h⟩ := ifS_eq (show ifS none (fun f => some (oEq f false x' y')) (eqOf P t x y) = some f from h)
      cases h
      exact op_eq ho kx ky (.inr ⟨rfl, rfl⟩) (eqOf_ok hg)
    | _ => cases h
end
end Go.Sx
