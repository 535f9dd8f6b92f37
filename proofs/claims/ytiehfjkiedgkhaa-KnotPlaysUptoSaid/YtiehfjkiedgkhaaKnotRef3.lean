/-
  The reference's knot: Tie.
-/
import Derived.Test.YtiehfjkiedgkhaaKnotRef2
namespace Go.Proofs.Ytiehfjkiedgkhaa
open Go.RowKit

section
variable {B k : Nat} {w w' : World} {v1 v2 : Value} {S : KS}
theorem RowF.other {T : TypeId} {s n g c g' : Nat} {F : Nat → Nat → Value} (h : RowF B T s w (.slice (some ⟨g, 0, none⟩) n c) n F) (hne : g ≠ g') (i : Nat) (u : Value) : RowF B T s (w.setCell ⟨g', i, none⟩ u) (.slice (some ⟨g, 0, none⟩) n c) n F := by
  refine h.kept (M := (· = g')) ((KeptP.refl (· = g') w).set (a := ⟨g', i, none⟩) (.inl rfl) u) fun x hx e => hne ?_
  injection hx with hx
  exact hx.trans e
def inT (S : KS) (a b j : Nat) : Prop := S.c j = S.c a ∨ S.c j = S.c b
instance (S : KS) (a b j : Nat) : Decidable (inT S a b j) := by unfold inT; exact inferInstance
def tieRc (S : KS) (a b i : Nat) : Nat → Nat → Value := fun j _ => .int .i64 ((if j < i ∧ inT S a b j then min (S.c a) (S.c b) else S.c j : Nat) : Int)
def tieRm (S : KS) (a b i : Nat) : Nat → Nat → Value := fun j _ => .int .i64 (if j < i ∧ inT S a b j then max (S.m a) (S.m b) else S.m j)
theorem tieC_yes {S : KS} {a b i : Nat} (he : inT S a b i) (i' : Nat) : tieRc S a b (i + 1) i' 0 = if i' = i then .int .i64 ((min (S.c a) (S.c b) : Nat) : Int) else tieRc S a b i i' 0 := by
  unfold tieRc
  by_cases h : i' = i
  · rw [if_pos h, if_pos (by subst h; exact ⟨by omega, he⟩)]
  · rw [if_neg h]
    by_cases h2 : i' < i ∧ inT S a b i'
    · rw [if_pos h2, if_pos ⟨by omega, h2.2⟩]
    · rw [if_neg h2, if_neg fun g => h2 ⟨by omega, g.2⟩]
theorem tieM_yes {S : KS} {a b i : Nat} (he : inT S a b i) (i' : Nat) : tieRm S a b (i + 1) i' 0 = if i' = i then .int .i64 (max (S.m a) (S.m b)) else tieRm S a b i i' 0 := by
  unfold tieRm
  by_cases h : i' = i
  · rw [if_pos h, if_pos (by subst h; exact ⟨by omega, he⟩)]
  · rw [if_neg h]
    by_cases h2 : i' < i ∧ inT S a b i'
    · rw [if_pos h2, if_pos ⟨by omega, h2.2⟩]
    · rw [if_neg h2, if_neg fun g => h2 ⟨by omega, g.2⟩]
theorem tieC_no {S : KS} {a b i : Nat} (he : ¬ inT S a b i) (i' : Nat) {j : Nat} : tieRc S a b i i' j = tieRc S a b (i + 1) i' j := by
  unfold tieRc
  by_cases h2 : i' < i ∧ inT S a b i'
  · rw [if_pos h2, if_pos ⟨by omega, h2.2⟩]
  · rw [if_neg h2, if_neg fun g => h2 ⟨by
      have : i' ≠ i := fun e => he (by rw [← e]; exact g.2)
      omega, g.2⟩]
theorem tieM_no {S : KS} {a b i : Nat} (he : ¬ inT S a b i) (i' : Nat) {j : Nat} : tieRm S a b i i' j = tieRm S a b (i + 1) i' j := by
  unfold tieRm
  by_cases h2 : i' < i ∧ inT S a b i'
  · rw [if_pos h2, if_pos ⟨by omega, h2.2⟩]
  · rw [if_neg h2, if_neg fun g => h2 ⟨by
      have : i' ≠ i := fun e => he (by rw [← e]; exact g.2)
      omega, g.2⟩]
theorem tieC_all {S : KS} {a b i j : Nat} (hi : i < S.n) : tieRc S a b S.n i j = .int .i64 ((tieF S a b).c i) := by
  unfold tieRc tieF inT
  simp only [hi, true_and]
theorem tieM_all {S : KS} {a b i j : Nat} (hi : i < S.n) : tieRm S a b S.n i j = .int .i64 ((tieF S a b).m i) := by
  unfold tieRm tieF inT
  simp only [hi, true_and]
theorem tieC_at {S : KS} {a b i : Nat} : tieRc S a b i i 0 = .int .i64 (S.c i) := by
  unfold tieRc
  rw [if_neg fun g => by omega]
/-- the loop over the elements -/
def TieR (B g1 g2 c1 c2 a b : Nat) (S : KS) (w : World) (gk : Nat) (u : Value) (wr : World) : Prop :=
  ∃ i : Nat, i + gk = S.n ∧ u = .int .i64 i ∧ RowF B 3 1 wr (.slice (some ⟨g1, 0, none⟩) S.n c1) S.n (tieRc S a b i) ∧ RowF B 3 1 wr (.slice (some ⟨g2, 0, none⟩) S.n c2) S.n (tieRm S a b i) ∧ KeptP (fun x => x = g1 ∨ x = g2) w wr
set_option maxRecDepth 100000 in
set_option maxHeartbeats 1000000 in
theorem tie_ref (h : RefAt B w k v1 v2 S) (a b : Int) :
    Calls Try.prog 16 #[.pointer (some ⟨k, 0, none⟩), .int .i64 a, .int .i64 b] w fun e w' => e = .returned (.bool (tieOk S a b)) ∧ MovedR B k v1 v2 (tieS S a b) w w' := by
  have H := Lib.hid h
  by_cases hk : inK S a = true ∧ inK S b = true
  · obtain ⟨hk, hk2⟩ := hk
    obtain ⟨a, ha0⟩ : ∃ c, a.toNat = c := ⟨_, rfl⟩
    obtain ⟨rfl, ha⟩ := inK_no hk ha0
    obtain ⟨b, hb0⟩ : ∃ c, b.toNat = c := ⟨_, rfl⟩
    obtain ⟨rfl, hb⟩ := inK_no hk2 hb0
    have HI := Lib.hid (is_same h a _ hk)
    have HI2 := Lib.hid (is_same h b _ hk2)
    have HA := Lib.hid ha
    have HB := Lib.hid hb
    obtain ⟨g1, c1, rfl, hl1, hm1⟩ := h.rc.there (by omega)
    obtain ⟨g2, c2, rfl, hl2, hm2⟩ := h.rm.there (by omega)
    unfold maxLen at hm1 hm2
    have hra := h.rm.cell1 ha
    have hrb := h.rm.cell1 hb
    have hca := h.rc.cell1 ha
    have hcb := h.rc.cell1 hb
    obtain ⟨hc0, hc1⟩ := h.cells
    have hbg := h.big
    have hgk1 : k ≠ g1 := fun e => h.rc.not_box h.box (by decide) (by rw [e]; rfl)
    have hgk2 : k ≠ g2 := fun e => h.rm.not_box h.box (by decide) (by rw [e]; rfl)
    have hgg : g1 ≠ g2 := fun e => h.apart g1 rfl (by rw [e]; rfl)
    have HTO := Lib.hid (show tieOk S (a : Int) (b : Int) = !decide (S.m a ≠ 0 ∧ S.m b ≠ 0 ∧ S.m a ≠ S.m b) by simp [tieOk, hk, hk2])
    clear hk hk2 h ha0 hb0
    by_cases hno : S.m a ≠ 0 ∧ S.m b ≠ 0 ∧ S.m a ≠ S.m b
    · have f1 : (S.m a != 0) = true := by simpa using hno.1
      have f2 : (S.m b != 0) = true := by simpa using hno.2.1
      have f3 : (S.m a != S.m b) = true := by simpa using hno.2.2
      have HT := Lib.hid (show tieOk S (a : Int) (b : Int) = false by rw [HTO.out, decide_eq_true hno]; rfl)
      clear hno hca hcb
      go_enter Try.func16, Try.ntmps16
      go_wp2_with fail
      go_quiet ((go_at_call 28; (first | (with_reducible exact Calls.quiet_of_same (HI.out _)) | (with_reducible exact Calls.quiet_of_same (HI2.out _)))))
      go_wp2_with fail
      go_ret
      refine ⟨ret_bool HT.out.symm, ?_⟩
      rw [show tieS S (a : Int) (b : Int) = S by unfold tieS; rw [if_neg (by rw [HT.out]; decide)]]
      exact (MovedR.none H.out).drewN _
    · have HT := Lib.hid (show tieOk S (a : Int) (b : Int) = true by rw [HTO.out, decide_eq_false hno]; rfl)
      have H3 : (S.m a != 0) = false ∨ ((S.m a != 0) = true ∧ (S.m b != 0) = false) ∨ ((S.m a != 0) = true ∧ (S.m b != 0) = true ∧ (S.m a != S.m b) = false) := by
        by_cases z1 : S.m a = 0
        · exact .inl (by simpa using z1)
        · by_cases z2 : S.m b = 0
          · exact .inr (.inl ⟨by simpa using z1, by simpa using z2⟩)
          · exact .inr (.inr ⟨by simpa using z1, by simpa using z2, by
              have : S.m a = S.m b := Classical.byContradiction fun z3 => hno ⟨z1, z2, z3⟩
              simpa using this⟩)
      clear hno
      have hmax : (if S.m a < S.m b then S.m b else S.m a) = max (S.m a) (S.m b) := by split <;> omega
      have HMX := Lib.hid hmax
      clear hmax
      rcases H3 with f1 | ⟨f1, f2⟩ | ⟨f1, f2, f3⟩
      all_goals
        go_enter Try.func16, Try.ntmps16
        go_wp2_with fail
        go_quiet ((go_at_call 28; (first | (with_reducible exact Calls.quiet_of_same (HI.out _)) | (with_reducible exact Calls.quiet_of_same (HI2.out _)))))
        go_wp2_with fail
        go_region
        rw [HMX.out]
        go_wp2_with fail
        go_quiet (fail)
        go_wp2_with fail
        clear hra hrb hca hcb hc0 hc1
        go_loopg [10] S.n (TieR B g1 g2 c1 c2 a b S w)
        case atStart => exact ⟨0, by omega, rfl, ((H.out.rc.congr fun i j _ _ => by simp [tieRc]).drewN _).drewN _, ((H.out.rm.congr fun i j _ _ => by simp [tieRm]).drewN _).drewN _, ((KeptP.refl _ _).drewN _).drewN _⟩
        case round =>
          obtain ⟨i, hi, rfl, hr1, hr2, hkp⟩ := hrel
          have HI3 := Lib.hid hi
          have HR1 := Lib.hid hr1
          have HR2 := Lib.hid hr2
          have HKP := Lib.hid hkp
          have hbx := hkp.heap H.out.box (fun e => e.elim hgk1 hgk2)
          have hc0 : wr.cell? ⟨k, 0, none⟩ = some (.slice (some ⟨g1, 0, none⟩) S.n c1) := by rw [Joins.cell_of_block hbx]; rfl
          have hc1 : wr.cell? ⟨k, 1, none⟩ = some (.slice (some ⟨g2, 0, none⟩) S.n c2) := by rw [Joins.cell_of_block hbx]; rfl
          clear hi hr1 hr2 hkp hbx
          by_cases hil : i < S.n
          · have hx := HR1.out.cell1 hil
            rw [tieC_at] at hx
            have hf1 := HR1.out.soft i
            have hy := HR2.out.cell1 hil
            have hf2 := HR2.out.soft i
            by_cases he : inT S a b i
            · have HE := Lib.hid he
              by_cases hlt : S.c b < S.c a
              · have HMN := Lib.hid (show min (S.c a) (S.c b) = S.c b by omega)
                by_cases h1 : S.c i = S.c a
                · have e1 : ((S.c i : Int) == (S.c a : Int)) = true := by simp; omega
                  clear he h1
                  go_wp2_with fail
                  go_roundg (S.n - (i + 1))
                  case measure => have := HI3.out; omega
                  case rel => exact ⟨i + 1, by omega, by go_num, (HR1.out.set1 hil (.int .i64 (S.c b : Nat)) (fun i' => by rw [tieC_yes HE.out i', HMN.out])).other hgg _ _, (HR2.out.other hgg.symm _ _).set1 hil _ (tieM_yes HE.out), (HKP.out.set (.inl (.inl rfl)) _).set (.inl (.inr rfl)) _⟩
                · have e1 : ((S.c i : Int) == (S.c a : Int)) = false := by simp; omega
                  have e2 : ((S.c i : Int) == (S.c b : Int)) = true := by have := he.resolve_left h1; simp; omega
                  clear he h1
                  go_wp2_with fail
                  go_roundg (S.n - (i + 1))
                  case measure => have := HI3.out; omega
                  case rel => exact ⟨i + 1, by omega, by go_num, (HR1.out.set1 hil (.int .i64 (S.c b : Nat)) (fun i' => by rw [tieC_yes HE.out i', HMN.out])).other hgg _ _, (HR2.out.other hgg.symm _ _).set1 hil _ (tieM_yes HE.out), (HKP.out.set (.inl (.inl rfl)) _).set (.inl (.inr rfl)) _⟩
              · have HMN := Lib.hid (show min (S.c a) (S.c b) = S.c a by omega)
                by_cases h1 : S.c i = S.c a
                · have e1 : ((S.c i : Int) == (S.c a : Int)) = true := by simp; omega
                  clear he h1
                  go_wp2_with fail
                  go_roundg (S.n - (i + 1))
                  case measure => have := HI3.out; omega
                  case rel => exact ⟨i + 1, by omega, by go_num, (HR1.out.set1 hil (.int .i64 (S.c a : Nat)) (fun i' => by rw [tieC_yes HE.out i', HMN.out])).other hgg _ _, (HR2.out.other hgg.symm _ _).set1 hil _ (tieM_yes HE.out), (HKP.out.set (.inl (.inl rfl)) _).set (.inl (.inr rfl)) _⟩
                · have e1 : ((S.c i : Int) == (S.c a : Int)) = false := by simp; omega
                  have e2 : ((S.c i : Int) == (S.c b : Int)) = true := by have := he.resolve_left h1; simp; omega
                  clear he h1
                  go_wp2_with fail
                  go_roundg (S.n - (i + 1))
                  case measure => have := HI3.out; omega
                  case rel => exact ⟨i + 1, by omega, by go_num, (HR1.out.set1 hil (.int .i64 (S.c a : Nat)) (fun i' => by rw [tieC_yes HE.out i', HMN.out])).other hgg _ _, (HR2.out.other hgg.symm _ _).set1 hil _ (tieM_yes HE.out), (HKP.out.set (.inl (.inl rfl)) _).set (.inl (.inr rfl)) _⟩
            · have HE := Lib.hid he
              have hno2 : S.c i ≠ S.c a ∧ S.c i ≠ S.c b := ⟨fun g => he (.inl g), fun g => he (.inr g)⟩
              have e1 : ((S.c i : Int) == (S.c a : Int)) = false := by simp; omega
              have e2 : ((S.c i : Int) == (S.c b : Int)) = false := by simp; omega
              clear he hno2
              go_wp2_with fail
              go_roundg (S.n - (i + 1))
              case measure => have := HI3.out; omega
              case rel => exact ⟨i + 1, by omega, by go_num, HR1.out.congr fun i' j' _ _ => tieC_no HE.out i', HR2.out.congr fun i' j' _ _ => tieM_no HE.out i', HKP.out⟩
          · go_wp2_with fail
            go_ret
            obtain rfl : i = S.n := by have := HI3.out; omega
            refine ⟨ret_bool HT.out.symm, ?_⟩
            rw [show tieS S (a : Int) (b : Int) = tieF S a b by unfold tieS; rw [if_pos HT.out]; simp]
            exact ⟨_, _, ⟨ok_tie H.out.ok HA.out HB.out, HR1.out.congr fun i' j' hi' hj' => tieC_all hi', HR2.out.congr fun i' j' hi' hj' => tieM_all hi', HKP.out.heap H.out.box (fun e => e.elim hgk1 hgk2), H.out.low, H.out.big, H.out.apart⟩, HKP.out.mono fun x _ hx => hx.elim (fun e => .inr (.inl (by rw [e]; rfl))) (fun e => .inr (.inr (by rw [e]; rfl))), fun x hx => .inl hx⟩
  · have HT := Lib.hid (show tieOk S a b = false by
      cases hi : inK S a
      · simp [tieOk, hi]
      · have : inK S b = false := by cases hj : inK S b <;> simp_all
        simp [tieOk, this])
    have HS := Lib.hid (show tieS S a b = S by unfold tieS; rw [if_neg (by rw [HT.out]; decide)])
    cases hi : inK S a
    · have HI := Lib.hid (is_same h a _ hi)
      clear hk h hi
      go_enter Try.func16, Try.ntmps16
      go_wp2_with fail
      go_quiet ((go_at_call 28; with_reducible exact Calls.quiet_of_same (HI.out _)))
      go_wp2_with fail
      go_ret
      exact ⟨ret_bool HT.out.symm, by rw [HS.out]; exact (MovedR.none H.out).drewN _⟩
    · cases hj : inK S b
      · have HI := Lib.hid (is_same h a _ hi)
        have HI2 := Lib.hid (is_same h b _ hj)
        clear hk h hi hj
        go_enter Try.func16, Try.ntmps16
        go_wp2_with fail
        go_quiet ((go_at_call 28; (first | (with_reducible exact Calls.quiet_of_same (HI.out _)) | (with_reducible exact Calls.quiet_of_same (HI2.out _)))))
        go_wp2_with fail
        go_ret
        exact ⟨ret_bool HT.out.symm, by rw [HS.out]; exact (MovedR.none H.out).drewN _⟩
      · exact absurd ⟨hi, hj⟩ hk
end
end Go.Proofs.Ytiehfjkiedgkhaa
