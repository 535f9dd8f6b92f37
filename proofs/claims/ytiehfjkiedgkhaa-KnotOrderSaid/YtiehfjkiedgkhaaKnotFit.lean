/-
  Ties and marks in whatever order, plain: what all of them ask holds of the one just if it holds of the other.
-/
import Derived.Test.YtiehfjkiedgkhaaKnotAlike
namespace Go.Proofs.Ytiehfjkiedgkhaa

/-- what a step asked holds -/
def HoldsOp (X : KS) (o : QOp) : Prop :=
  if kindQ o.kd = 1 then inK X o.a = true ∧ 0 < o.b ∧ X.m o.a.toNat = o.b else inK X o.a = true ∧ inK X o.b = true ∧ X.c o.a.toNat = X.c o.b.toNat
structure BoundBy (Y X : KS) : Prop where
  n : Y.n = X.n
  c : ∀ i j, i < Y.n → j < Y.n → Y.c i = Y.c j → X.c i = X.c j
  m : ∀ i, i < Y.n → Y.m i ≠ 0 → Y.m i = X.m i
def singles (n : Nat) : KS := ⟨n, fun i => i, fun _ => 0⟩
theorem singles_zero : noneS.n = (singles 0).n := rfl
theorem singles_add (n : Nat) : addS (singles n) = singles (n + 1) := by
  unfold addS singles
  congr 1
  · funext i; simp only; split <;> simp_all
  · funext i; simp
theorem ok_singles (n : Nat) : (singles n).Ok := ⟨fun _ _ => Nat.le_refl _, fun _ _ => rfl, fun _ _ _ _ _ => rfl, fun _ _ => by simp [singles]⟩
theorem bound_singles {X : KS} {n : Nat} (h : X.n = n) : BoundBy (singles n) X := ⟨h.symm, fun i j _ _ e => by simp only [singles] at e; rw [e], fun i _ h => absurd rfl h⟩
theorem inK_n {X Y : KS} (h : X.n = Y.n) (a : Int) : inK X a = inK Y a := by unfold inK; rw [h]
theorem ok_opS {S : KS} (h : S.Ok) (o : QOp) (hb : o.b < 9223372036854775808) : (opS S o).Ok := by
  unfold opS
  split
  · exact ok_add h
  · split
    · exact ok_markS h hb
    · exact ok_tieS h
/-- what is bounded bears one step more, and stays bounded -/
theorem bound_step {X Y : KS} {o : QOp} (hX : X.Ok) (hY : Y.Ok) (h : BoundBy Y X) (hk : kindQ o.kd ≠ 0) (ho : HoldsOp X o) : opOk Y o = true ∧ BoundBy (opS Y o) X := by
  unfold HoldsOp at ho
  unfold opOk opS
  rw [if_neg hk, if_neg hk]
  split at ho
  · rename_i h1
    rw [if_pos h1, if_pos h1]
    obtain ⟨g1, g2, g3⟩ := ho
    have gY : inK Y o.a = true := by rw [inK_n h.n]; exact g1
    have ha := (inK_lt gY).2.2
    have hok : markOk Y o.a o.b = true := by
      have : Y.m o.a.toNat = 0 ∨ Y.m o.a.toNat = o.b := by
        by_cases e : Y.m o.a.toNat = 0
        · exact .inl e
        · exact .inr ((h.m _ ha e).trans g3)
      simp [markOk, gY, g2, this]
    refine ⟨hok, ?_⟩
    unfold markS
    rw [if_pos hok]
    refine ⟨h.n, h.c, fun i hi hm => ?_⟩
    simp only [markF] at hi hm ⊢
    by_cases e : Y.c i = Y.c o.a.toNat
    · rw [if_pos e]
      have := hX.mm i o.a.toNat (by rw [← h.n]; exact hi) (by rw [← h.n]; exact ha) (h.c _ _ hi ha e)
      rw [this, g3]
    · rw [if_neg e] at hm ⊢
      exact h.m i hi hm
  · rename_i h1
    rw [if_neg h1, if_neg h1]
    obtain ⟨g1, g2, g3⟩ := ho
    have gY : inK Y o.a = true := by rw [inK_n h.n]; exact g1
    have gY2 : inK Y o.b = true := by rw [inK_n h.n]; exact g2
    have ha := (inK_lt gY).2.2
    have hb := (inK_lt gY2).2.2
    have hXm := hX.mm o.a.toNat o.b.toNat (by rw [← h.n]; exact ha) (by rw [← h.n]; exact hb) g3
    have hok : tieOk Y o.a o.b = true := by
      have : ¬ (Y.m o.a.toNat ≠ 0 ∧ Y.m o.b.toNat ≠ 0 ∧ Y.m o.a.toNat ≠ Y.m o.b.toNat) := fun ⟨e1, e2, e3⟩ => e3 (by rw [h.m _ ha e1, h.m _ hb e2, hXm])
      unfold tieOk
      rw [gY, gY2, decide_eq_false this]
      rfl
    refine ⟨hok, ?_⟩
    unfold tieS
    rw [if_pos hok]
    have key : ∀ i, i < Y.n → Y.c i = Y.c o.a.toNat ∨ Y.c i = Y.c o.b.toNat → X.c i = X.c o.a.toNat := fun i hi e => e.elim (fun e => h.c _ _ hi ha e) fun e => (h.c _ _ hi hb e).trans g3.symm
    have pa := hY.pos _ ha
    have pb := hY.pos _ hb
    have la := hY.le _ ha
    have lb := hY.le _ hb
    refine ⟨h.n, fun i j hi hj e => ?_, fun i hi hm => ?_⟩
    · simp only [tieF] at hi hj e
      have ci := hY.cc i hi
      have cj := hY.cc j hj
      have cmin : ∀ x, x < Y.n → Y.c x = min (Y.c o.a.toNat) (Y.c o.b.toNat) → Y.c x = Y.c o.a.toNat ∨ Y.c x = Y.c o.b.toNat := fun x _ hx => by omega
      by_cases e1 : Y.c i = Y.c o.a.toNat ∨ Y.c i = Y.c o.b.toNat <;> by_cases e2 : Y.c j = Y.c o.a.toNat ∨ Y.c j = Y.c o.b.toNat
      · rw [key i hi e1, key j hj e2]
      · rw [if_pos e1, if_neg e2] at e
        exact absurd (cmin j hj e.symm) e2
      · rw [if_neg e1, if_pos e2] at e
        exact absurd (cmin i hi e) e1
      · rw [if_neg e1, if_neg e2] at e
        exact h.c i j hi hj e
    · simp only [tieF] at hi hm ⊢
      by_cases e : Y.c i = Y.c o.a.toNat ∨ Y.c i = Y.c o.b.toNat
      · rw [if_pos e] at hm ⊢
        have hXi := hX.mm i o.a.toNat (by rw [← h.n]; exact hi) (by rw [← h.n]; exact ha) (key i hi e)
        rw [hXi]
        by_cases z1 : Y.m o.a.toNat = 0
        · have z2 : Y.m o.b.toNat ≠ 0 := by omega
          have := h.m _ hb z2
          omega
        · have := h.m _ ha z1
          by_cases z2 : Y.m o.b.toNat = 0
          · omega
          · have := h.m _ hb z2
            omega
      · rw [if_neg e] at hm ⊢
        exact h.m i hi hm
/-- behind a step that is not refused what it asked holds -/
theorem holds_step {S : KS} {o : QOp} (_hS : S.Ok) (hk : kindQ o.kd ≠ 0) (h : opOk S o = true) : HoldsOp (opS S o) o := by
  unfold opOk at h
  unfold HoldsOp opS
  rw [if_neg hk] at h ⊢
  split at h
  · rename_i h1
    rw [if_pos h1, if_pos h1]
    have hm := h
    unfold markOk at hm
    simp only [Bool.and_eq_true, decide_eq_true_eq] at hm
    unfold markS
    rw [if_pos h]
    exact ⟨hm.1.1, hm.1.2, by simp [markF]⟩
  · rename_i h1
    rw [if_neg h1, if_neg h1]
    have hm := h
    unfold tieOk at hm
    simp only [Bool.and_eq_true] at hm
    unfold tieS
    rw [if_pos h]
    exact ⟨hm.1.1, hm.1.2, by simp [tieF]⟩
/-- and it holds behind each step more -/
theorem holds_more {S : KS} {o q : QOp} (hS : S.Ok) (hk : kindQ q.kd ≠ 0) (ho : HoldsOp S o) (h : opOk S q = true) : HoldsOp (opS S q) o := by
  unfold opOk at h
  rw [if_neg hk] at h
  have hn := opS_n (S := S) hk
  have hin : ∀ a, inK (opS S q) a = inK S a := fun a => inK_n hn a
  have hm : ∀ i, i < S.n → 0 < S.m i → (opS S q).m i = S.m i := by
    intro i hi hp
    unfold opS
    rw [if_neg hk]
    split
    · rename_i h1
      rw [if_pos h1] at h
      have h2 := h
      unfold markOk at h2
      simp only [Bool.and_eq_true, decide_eq_true_eq] at h2
      unfold markS
      rw [if_pos h]
      simp only [markF]
      split
      · rename_i e
        have := hS.mm i q.a.toNat hi (inK_lt h2.1.1).2.2 e
        omega
      · rfl
    · rename_i h1
      rw [if_neg h1] at h
      have h2 := h
      unfold tieOk at h2
      simp only [Bool.and_eq_true, Bool.not_eq_true', decide_eq_false_iff_not] at h2
      have ha := (inK_lt h2.1.1).2.2
      have hb := (inK_lt h2.1.2).2.2
      have pa := hS.pos _ ha
      have pb := hS.pos _ hb
      unfold tieS
      rw [if_pos h]
      simp only [tieF]
      split
      · rename_i e
        have h3 := h2.2
        rcases e with e | e
        · have := hS.mm i q.a.toNat hi ha e
          omega
        · have := hS.mm i q.b.toNat hi hb e
          omega
      · rfl
  have hc : ∀ i j, i < S.n → j < S.n → S.c i = S.c j → (opS S q).c i = (opS S q).c j := by
    intro i j hi hj e
    unfold opS
    rw [if_neg hk]
    split
    · unfold markS
      split
      · exact e
      · exact e
    · unfold tieS
      split
      · simp only [tieF, e]
      · exact e
  unfold HoldsOp at ho ⊢
  rw [hin, hin]
  split at ho
  · rename_i h1
    rw [if_pos h1]
    obtain ⟨g1, g2, g3⟩ := ho
    exact ⟨g1, g2, by rw [hm _ (inK_lt g1).2.2 (by omega), g3]⟩
  · rename_i h1
    rw [if_neg h1]
    obtain ⟨g1, g2, g3⟩ := ho
    exact ⟨g1, g2, hc _ _ (inK_lt g1).2.2 (inK_lt g2).2.2 g3⟩
/-- two that bound each other are the same -/
theorem bound_both {X Y : KS} (hX : X.Ok) (hY : Y.Ok) (h : BoundBy X Y) (g : BoundBy Y X) : ∀ i, i < X.n → Y.c i = X.c i ∧ Y.m i = X.m i := by
  intro i hi
  have hi2 : i < Y.n := by rw [← h.n]; exact hi
  have lx := hX.le i hi
  have ly := hY.le i hi2
  have e1 := h.c _ _ (Nat.lt_of_le_of_lt lx hi) hi (hX.cc i hi)
  have e2 := g.c _ _ (Nat.lt_of_le_of_lt ly hi2) hi2 (hY.cc i hi2)
  have l1 := hY.le (X.c i) (by omega)
  have l2 := hX.le (Y.c i) (by omega)
  refine ⟨by omega, ?_⟩
  by_cases z1 : X.m i = 0
  · by_cases z2 : Y.m i = 0
    · omega
    · have := g.m i hi2 z2; omega
  · have := h.m i hi z1; omega
/-- a tie the other way round -/
def swapQ (o : QOp) : QOp := if kindQ o.kd = 2 then ⟨o.kd, o.b, o.a⟩ else o
theorem swap_kd (o : QOp) : (swapQ o).kd = o.kd := by unfold swapQ; split <;> rfl
theorem swap_holds {X : KS} {o : QOp} (_hk : kindQ o.kd ≠ 0) : HoldsOp X (swapQ o) ↔ HoldsOp X o := by
  unfold swapQ
  split
  · rename_i h2
    unfold HoldsOp
    simp only
    rw [if_neg (by omega), if_neg (by omega)]
    exact ⟨fun ⟨a, b, c⟩ => ⟨b, a, c.symm⟩, fun ⟨a, b, c⟩ => ⟨b, a, c.symm⟩⟩
  · exact Iff.rfl
/-- the steps of a script up to a place, or from it, hold -/
def HoldsTo (Z : KS) (l : List QOp) (i : Nat) : Prop := ∀ j o, j < i → l[j]? = some o → kindQ o.kd ≠ 0 → HoldsOp Z o
def HoldsFrom (Z : KS) (l : List QOp) (i : Nat) : Prop := ∀ j o, i ≤ j → l[j]? = some o → kindQ o.kd ≠ 0 → HoldsOp Z o
/-- what is known of the first knot while the script goes on -/
structure FirstK (n : Nat) (l : List QOp) (i : Nat) (S : KS) : Prop where
  ok : S.Ok
  num : S.n = n
  holds : HoldsTo S l i
  bound : ∀ Z : KS, Z.Ok → Z.n = n → HoldsTo Z l i → BoundBy S Z
theorem first_zero (n : Nat) (l : List QOp) : FirstK n l 0 (singles n) := ⟨ok_singles n, rfl, fun j _ h => by omega, fun Z _ h _ => bound_singles h⟩
theorem first_skip {n i : Nat} {l : List QOp} {S : KS} {o : QOp} (h : FirstK n l i S) (hi : l[i]? = some o) (hk : kindQ o.kd = 0) : FirstK n l (i + 1) S := by
  have hz : ∀ Z, HoldsTo Z l i → HoldsTo Z l (i + 1) := fun Z hZ j q hj hq hkq => by
    by_cases e : j = i
    · subst e; rw [hi] at hq; cases hq; exact absurd hk hkq
    · exact hZ j q (by omega) hq hkq
  exact ⟨h.ok, h.num, hz S h.holds, fun Z h1 h2 h3 => h.bound Z h1 h2 fun j q hj => h3 j q (by omega)⟩
theorem first_step {n i : Nat} {l : List QOp} {S : KS} {o : QOp} (h : FirstK n l i S) (hi : l[i]? = some o) (hk : kindQ o.kd ≠ 0) (ho : opOk S o = true) (hb : o.b < 9223372036854775808) : FirstK n l (i + 1) (opS S o) := by
  refine ⟨ok_opS h.ok o hb, by rw [opS_n hk, h.num], fun j q hj hq hkq => ?_, fun Z h1 h2 h3 => ?_⟩
  · by_cases e : j = i
    · subst e; rw [hi] at hq; cases hq; exact holds_step h.ok hk ho
    · exact holds_more h.ok hk (h.holds j q (by omega) hq hkq) ho
  · exact (bound_step h1 h.ok (h.bound Z h1 h2 fun j q hj => h3 j q (by omega)) hk (h3 i o (by omega) hi hk)).2
/-- and of the second one, which goes back -/
structure SecondK (X : KS) (l : List QOp) (i : Nat) (S : KS) : Prop where
  ok : S.Ok
  bound : BoundBy S X
  holds : HoldsFrom S l i
theorem second_end {X : KS} (n : Nat) (l : List QOp) (hX : X.n = n) : SecondK X l l.length (singles n) := ⟨ok_singles n, bound_singles hX, fun j o h1 h2 => by
  have := (List.getElem?_eq_some_iff.1 h2).1
  omega⟩
theorem second_skip {X : KS} {i : Nat} {l : List QOp} {S : KS} {o : QOp} (h : SecondK X l (i + 1) S) (hi : l[i]? = some o) (hk : kindQ o.kd = 0) : SecondK X l i S :=
  ⟨h.ok, h.bound, fun j q hj hq hkq => by
    by_cases e : j = i
    · subst e; rw [hi] at hq; cases hq; exact absurd hk hkq
    · exact h.holds j q (by omega) hq hkq⟩
theorem second_ok {X : KS} {n i : Nat} {l : List QOp} {S : KS} {o : QOp} (hX : FirstK n l l.length X) (h : SecondK X l (i + 1) S) (hi : l[i]? = some o) (hk : kindQ o.kd ≠ 0) : opOk S (swapQ o) = true ∧ BoundBy (opS S (swapQ o)) X :=
  bound_step hX.ok h.ok h.bound (by rw [swap_kd]; exact hk) ((swap_holds hk).2 (hX.holds i o (List.getElem?_eq_some_iff.1 hi).1 hi hk))
theorem second_step {X : KS} {n i : Nat} {l : List QOp} {S : KS} {o : QOp} (hX : FirstK n l l.length X) (h : SecondK X l (i + 1) S) (hi : l[i]? = some o) (hk : kindQ o.kd ≠ 0) (hb : (swapQ o).b < 9223372036854775808) : SecondK X l i (opS S (swapQ o)) := by
  obtain ⟨h1, h2⟩ := second_ok hX h hi hk
  have hk2 : kindQ (swapQ o).kd ≠ 0 := by rw [swap_kd]; exact hk
  refine ⟨ok_opS h.ok _ hb, h2, fun j q hj hq hkq => ?_⟩
  by_cases e : j = i
  · subst e
    rw [hi] at hq
    cases hq
    exact (swap_holds hk).1 (holds_step h.ok hk2 h1)
  · exact holds_more h.ok hk2 (h.holds j q (by omega) hq hkq) h1
theorem both_same {X Y : KS} {n : Nat} {l : List QOp} (hX : FirstK n l l.length X) (hY : SecondK X l 0 Y) : ∀ i, i < X.n → Y.c i = X.c i ∧ Y.m i = X.m i :=
  bound_both hX.ok hY.ok (hX.bound Y hY.ok (hY.bound.n.trans hX.num) fun j o _ hj hk => hY.holds j o (Nat.zero_le _) hj hk) hY.bound
end Go.Proofs.Ytiehfjkiedgkhaa
