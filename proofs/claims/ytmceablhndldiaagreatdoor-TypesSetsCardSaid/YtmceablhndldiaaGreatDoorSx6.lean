/-
  The operations on values alone: numbers, strings, places.
-/
import Derived.Test.YtmceablhndldiaaGreatDoorSx5
import Derived.Laws.Strings
namespace Go.Sx
open Go.RowKit

section
variable {P : Program} {o : Oper}
theorem pow_bits (k : IntKind) : (128 : Int) ≤ 2 ^ k.bits ∧ (k.signed = true → (128 : Int) ≤ 2 ^ (k.bits - 1)) := by cases k <;> decide
theorem wrapA_eq (k : IntKind) (n : Int) : wrapA k n = k.wrap n := by
  cases n with
  | negSucc m => rfl
  | ofNat m =>
    show ifB (Nat.blt m 128) (.ofNat m) (k.wrap (.ofNat m)) = _
    cases h : Nat.blt m 128 with
    | false => rfl
    | true =>
      have hm : m < 128 := by simpa [Nat.blt_eq] using h
      obtain ⟨h1, h2⟩ := pow_bits k
      have e : (Int.ofNat m) % 2 ^ k.bits = Int.ofNat m := Int.emod_eq_of_lt (Int.natCast_nonneg m) (Int.lt_of_lt_of_le (Int.ofNat_lt.2 hm) h1)
      show (Int.ofNat m) = _
      simp only [IntKind.wrap, e]
      split
      · rename_i hc
        simp only [Bool.and_eq_true, decide_eq_true_eq] at hc
        have := Int.lt_of_lt_of_le (Int.ofNat_lt.2 hm) (h2 hc.1)
        exact absurd hc.2 (Int.not_le.2 this)
      · rfl
theorem blt_dec (m n : Nat) : Nat.blt m n = decide (m < n) := by
  rw [Bool.eq_iff_iff]
  simp [Nat.blt_eq]
theorem eqI_eq (a b : Int) : eqI a b = (a == b) := by
  cases a with
  | ofNat m =>
    cases b with
    | ofNat n =>
      show Nat.beq m n = _
      by_cases e : m = n
      · subst e; simp
      · rw [beq_eq_false_iff_ne.2 (fun q => e (Int.ofNat.inj q))]
        exact Bool.eq_false_iff.2 fun q => e (Nat.eq_of_beq_eq_true q)
    | negSucc n => rfl
  | negSucc m =>
    cases b with
    | ofNat n => rfl
    | negSucc n =>
      show Nat.beq m n = _
      by_cases e : m = n
      · subst e; simp
      · rw [beq_eq_false_iff_ne.2 (fun q => e (Int.negSucc.inj q))]
        exact Bool.eq_false_iff.2 fun q => e (Nat.eq_of_beq_eq_true q)
theorem ltI_eq (a b : Int) : ltI a b = decide (a < b) := by
  cases a with
  | ofNat m =>
    cases b with
    | ofNat n =>
      show Nat.blt m n = decide ((m : Int) < (n : Int))
      simp only [blt_dec, Int.ofNat_lt]
    | negSucc n =>
      show false = decide ((m : Int) < Int.negSucc n)
      exact (decide_eq_false (by omega)).symm
  | negSucc m =>
    cases b with
    | ofNat n =>
      show true = decide (Int.negSucc m < (n : Int))
      exact (decide_eq_true (by omega)).symm
    | negSucc n =>
      show Nat.blt n m = decide (Int.negSucc m < Int.negSucc n)
      rw [blt_dec]
      exact decide_eq_decide.2 (by omega)
theorem eqS_eq : ∀ (x y : List Nat), eqS x y = decide (x = y)
  | [], [] => rfl
  | [], _ :: _ => rfl
  | _ :: _, [] => rfl
  | a :: x, b :: y => by
    show ifB (Nat.beq a b) (eqS x y) false = _
    rw [eqS_eq x y]
    cases h : Nat.beq a b with
    | true => rw [Nat.eq_of_beq_eq_true h]; simp [ifB]
    | false => 
      have : a ≠ b := fun e => by subst e; simp at h
      simp [ifB, this]
theorem ltS_eq : ∀ (x y : List UInt8), ltS (x.map UInt8.toNat) (y.map UInt8.toNat) = Op.bytesLess x y
  | [], [] => rfl
  | [], _ :: _ => rfl
  | _ :: _, [] => rfl
  | a :: x, b :: y => by
    show ifB (Nat.blt a.toNat b.toNat) true (ifB (Nat.beq a.toNat b.toNat) (ltS (x.map UInt8.toNat) (y.map UInt8.toNat)) false) = (a < b || (a == b && Op.bytesLess x y))
    rw [ltS_eq x y, blt_dec]
    by_cases h : a.toNat < b.toNat
    · rw [decide_eq_true h]
      have : a < b := UInt8.lt_iff_toNat_lt.2 h
      simp [ifB, this]
    · rw [decide_eq_false h]
      have : ¬ a < b := fun q => h (UInt8.lt_iff_toNat_lt.1 q)
      by_cases e : a = b
      · subst e; simp [ifB]
      · have e' : Nat.beq a.toNat b.toNat = false := Bool.eq_false_iff.2 fun q => e (UInt8.toNat_inj.1 (Nat.eq_of_beq_eq_true q))
        rw [e']
        simp [ifB, this, e]
/-- the bytes of a string -/
theorem str_eq {b d : ByteArray} {s u : List Nat} (h1 : b.data.toList.map UInt8.toNat = s) (h2 : d.data.toList.map UInt8.toNat = u) : eqS s u = (b.toList == d.toList) := by
  rw [eqS_eq, ByteArray.toList_eq, ByteArray.toList_eq, ← h1, ← h2]
  by_cases e : b.data.toList = d.data.toList
  · rw [e]; simp
  · rw [beq_eq_false_iff_ne.2 e]
    exact decide_eq_false fun q => e ((List.map_inj_right (fun _ _ h => UInt8.toNat_inj.1 h)).1 q)
theorem str_lt {b d : ByteArray} {s u : List Nat} (h1 : b.data.toList.map UInt8.toNat = s) (h2 : d.data.toList.map UInt8.toNat = u) : ltS s u = Op.bytesLess b.toList d.toList := by
  rw [ByteArray.toList_eq, ByteArray.toList_eq, ← h1, ← h2, ltS_eq]
theorem str_len {b : ByteArray} {s : List Nat} (h1 : b.data.toList.map UInt8.toNat = s) : b.size = s.length := by
  rw [← h1, List.length_map]
  rfl
theorem ifN_eq {α : Type} {b : Bool} {x : Option α} {r : α} (h : ifB b none x = some r) : b = false ∧ x = some r := by
  cases b
  · exact ⟨rfl, h⟩
  · cases h
theorem VR.int (ρ : Ren) (k : IntKind) (n : Int) : VR ρ (.int k n) (.int k n) := by simp only [VR]
theorem VR.bool (ρ : Ren) (b : Bool) : VR ρ (.bool b) (.bool b) := by simp only [VR]
theorem run_intBin {op : BinOp} {t : TypeId} {k : IntKind} {a b : Int} {r : AV} {w : World} (ρ : Ren) (h : intBin op k a b = some r) : ∃ v, (binOp op t (.int k a) (.int k b)).run P w = .ok v w ∧ VR ρ r v := by
  cases op with
  | add => cases h; exact ⟨_, by simp [binOp, Op.intArith]; rfl, by rw [wrapA_eq]; exact VR.int ρ k _⟩
  | sub => cases h; exact ⟨_, by simp [binOp, Op.intArith]; rfl, by rw [wrapA_eq]; exact VR.int ρ k _⟩
  | mul => cases h; exact ⟨_, by simp [binOp, Op.intArith]; rfl, by rw [wrapA_eq]; exact VR.int ρ k _⟩
  | quo =>
    obtain ⟨h0, h⟩ := ifN_eq h
    cases h
    rw [eqI_eq] at h0
    have : b ≠ 0 := fun e => by subst e; cases h0
    exact ⟨_, by simp [binOp, Op.intDiv, this], VR.int ρ k _⟩
  | rem =>
    obtain ⟨h0, h⟩ := ifN_eq h
    cases h
    rw [eqI_eq] at h0
    have : b ≠ 0 := fun e => by subst e; cases h0
    exact ⟨_, by simp [binOp, Op.intDiv, this], VR.int ρ k _⟩
  | and => cases h; exact ⟨_, by simp [binOp, Op.intBits], VR.int ρ k _⟩
  | or => cases h; exact ⟨_, by simp [binOp, Op.intBits], VR.int ρ k _⟩
  | xor => cases h
  | shl =>
    obtain ⟨h0, h⟩ := ifN_eq h
    cases h
    rw [ltI_eq] at h0
    have : ¬ b < 0 := of_decide_eq_false h0
    exact ⟨_, by simp [binOp, Op.shift, this], VR.int ρ k _⟩
  | shr =>
    obtain ⟨h0, h⟩ := ifN_eq h
    cases h
    rw [ltI_eq] at h0
    have : ¬ b < 0 := of_decide_eq_false h0
    exact ⟨_, by simp [binOp, Op.shift, this], VR.int ρ k _⟩
  | andNot => cases h
  | eql => cases h; exact ⟨_, by simp [binOp, Op.intCmp]; rfl, by rw [eqI_eq]; exact VR.bool ρ _⟩
  | neq => cases h; exact ⟨_, by simp [binOp, Op.intCmp]; rfl, by rw [eqI_eq]; exact VR.bool ρ _⟩
  | lss => cases h; exact ⟨_, by simp [binOp, Op.intCmp]; rfl, by rw [ltI_eq]; exact VR.bool ρ _⟩
  | leq => cases h; exact ⟨_, by simp [binOp, Op.intCmp]; rfl, by rw [ltI_eq, ← decide_not]; simp only [Int.not_lt]; exact VR.bool ρ _⟩
  | gtr => cases h; exact ⟨_, by simp [binOp, Op.intCmp]; rfl, by rw [ltI_eq]; exact VR.bool ρ _⟩
  | geq => cases h; exact ⟨_, by simp [binOp, Op.intCmp]; rfl, by rw [ltI_eq, ← decide_not]; simp only [Int.not_lt]; exact VR.bool ρ _⟩
theorem run_shBin {op : BinOp} {t : TypeId} {k j : IntKind} {a b : Int} {r : AV} {w : World} (ρ : Ren) (h : shBin op k a b = some r) : ∃ v, (binOp op t (.int k a) (.int j b)).run P w = .ok v w ∧ VR ρ r v := by
  cases op <;> first
    | (cases h; done)
    | (obtain ⟨h0, h⟩ := ifN_eq h
       cases h
       rw [ltI_eq] at h0
       have : ¬ b < 0 := of_decide_eq_false h0
       exact ⟨_, by simp [binOp, Op.shift, this], VR.int ρ k _⟩)
theorem run_strBin {op : BinOp} {t : TypeId} {a b : ByteArray} {s u : List Nat} {r : AV} {w : World} (ρ : Ren) (h1 : a.data.toList.map UInt8.toNat = s) (h2 : b.data.toList.map UInt8.toNat = u) (h : strBin op s u = some r) :
    ∃ v, (binOp op t (.string a) (.string b)).run P w = .ok v w ∧ VR ρ r v := by
  have he := str_eq h1 h2
  have hl := str_lt h1 h2
  have hb : ∀ p q : Bool, (p || q) = ifB p true q := fun p q => by cases p <;> rfl
  cases op with
  | add =>
    obtain ⟨hs, h⟩ := ifB_eq h
    cases h
    have hz : ¬ ((a.size + b.size : Nat) : Int) > IntKind.i64.max := by
      have h3 := str_len h1
      have h4 := str_len h2
      have h5 := Nat.le_of_ble_eq_true hs
      rw [len_eq, len_eq] at h5
      have h6 : IntKind.i64.max = 9223372036854775807 := rfl
      rw [h6, h3, h4]
      have h7 : s.length + u.length ≤ 1048576 := h5
      omega
    refine ⟨.string (a ++ b), by simp only [binOp, Op.stringOp]; rw [if_neg hz]; rfl, ?_⟩
    simp only [VR]
    refine ⟨_, rfl, ?_⟩
    rw [← h1, ← h2]
    show (a ++ b).data.toList.map _ = List.append _ _
    simp
  | eql => cases h; exact ⟨_, rfl, by rw [he]; exact VR.bool ρ _⟩
  | neq => cases h; exact ⟨_, rfl, by rw [he]; exact VR.bool ρ _⟩
  | lss => cases h; exact ⟨_, rfl, by rw [hl]; exact VR.bool ρ _⟩
  | leq => cases h; exact ⟨_, rfl, by rw [hl, he, ← hb]; exact VR.bool ρ _⟩
  | gtr => cases h; exact ⟨_, rfl, by rw [hl, he, ← hb]; exact VR.bool ρ _⟩
  | geq => cases h; exact ⟨_, rfl, by rw [hl]; exact VR.bool ρ _⟩
  | _ => cases h
theorem kind_eq {k j : IntKind} (h : Nat.beq (kindN k) (kindN j) = true) : k = j := by
  cases k <;> cases j <;> first | rfl | cases h
theorem op_bin {op : BinOp} {t t' : TypeId} {x y : Operand} {x' y' : Opd} (ho : o.op = .binOp op t x y t') (kx : cOpd x = some x') (ky : cOpd y = some y') : OpOk P o (oBin op x' y') := by
  refine OpOk.of_val fun call e c h v c' h' l he => ?_
  obtain ⟨he, rfl, rfl, _⟩ := ofOpt_ok he
  refine ⟨rfl, rfl, fun ρ w a _ hE => ?_⟩
  have hx := cOpd_VR hE kx
  have hy := cOpd_VR hE ky
  have key : ∃ v', (binOp op t (a.eval x) (a.eval y)).run P w = .ok v' w ∧ VR ρ v v' ∧ (∀ q, a.eval x ≠ .agg q) ∧ a.eval x ≠ .nilIface := by
    generalize ev e x' = p at *
    generalize ev e y' = q at *
    cases p with
    | int k m =>
      cases q with
      | int j n =>
        simp only [VR] at hx hy
        rw [hx, hy]
        have he : ifB (Nat.beq (kindN k) (kindN j)) (intBin op k m n) (shBin op k m n) = some v := he
        cases hk : Nat.beq (kindN k) (kindN j) with
        | true =>
          rw [hk] at he
          obtain ⟨v', h1, h2⟩ := run_intBin (P := P) (t := t) (w := w) ρ he
          rw [← kind_eq hk]
          exact ⟨v', h1, h2, by simp, by simp⟩
        | false =>
          rw [hk] at he
          obtain ⟨v', h1, h2⟩ := run_shBin (P := P) (t := t) (w := w) (j := j) ρ he
          exact ⟨v', h1, h2, by simp, by simp⟩
      | _ => cases he
    | str s =>
      cases q with
      | str u =>
        simp only [VR] at hx hy
        obtain ⟨b1, hx, h1⟩ := hx
        obtain ⟨b2, hy, h2⟩ := hy
        rw [hx, hy]
        obtain ⟨v', h3, h4⟩ := run_strBin (P := P) (t := t) (w := w) ρ h1 h2 he
        exact ⟨v', h3, h4, by simp, by simp⟩
      | _ => cases he
    | _ => cases he
  obtain ⟨v', h1, h2, h3, h4⟩ := key
  refine ⟨v', ?_, h2⟩
  simp only [execOp, ho]
  refine run_val ?_
  have hg : (eqGuard op t x y (a.eval x) (a.eval y)).run P w = .ok () w := by
    unfold eqGuard
    split <;> simp_all
  simp only [Sem.run_bind, hg, Result.andThen]
  exact h1
end
end Go.Sx
