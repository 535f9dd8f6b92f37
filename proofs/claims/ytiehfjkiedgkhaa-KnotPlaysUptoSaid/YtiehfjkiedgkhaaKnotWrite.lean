/-
  What the calls that change a knot stand on: common, merge.
-/
import Derived.Test.YtiehfjkiedgkhaaKnotRead
import Derived.StillTailTactics
namespace Go.Proofs.Ytiehfjkiedgkhaa
open Go.RowKit

def comQ (m n : Int) : Int × Bool := if m = n ∨ n = 0 then (m, true) else if m = 0 then (n, true) else (0, false)
theorem common_any (m n : Int) (w : World) : Calls Try.prog 27 #[.int .i64 m, .int .i64 n] w fun e w' => e = .returned (.tuple #[.int .i64 (comQ m n).1, .bool (comQ m n).2]) ∧ w = w' := by
  go_enter Try.func27, Try.ntmps27
  go_wp2
  all_goals go_ret2
  all_goals (refine ⟨?_, rfl⟩; unfold comQ; simp_all)
section
variable {B : Nat} {w : World} {E : Nat → El}
theorem RowF.four {g c n : Nat} (h : RowF B 45 4 w (.slice (some ⟨g, 0, none⟩) n c) n (fun i => encE (E i))) {i : Nat} (hi : i < n) :
    w.cell? ⟨g, i * 4, none⟩ = some (.int .i64 (E i).up) ∧ w.cell? ⟨g, i * 4 + 1, none⟩ = some (.int .i64 (E i).size) ∧ w.cell? ⟨g, i * 4 + 2, none⟩ = some (.int .i64 (E i).least) ∧ w.cell? ⟨g, i * 4 + 3, none⟩ = some (.int .i64 (E i).mark) :=
  ⟨h.cell hi (show 0 < 4 by omega), h.cell hi (show 1 < 4 by omega), h.cell hi (show 2 < 4 by omega), h.cell hi (show 3 < 4 by omega)⟩
def setUp (E : Nat → El) (i u : Nat) : Nat → El := fun j => if j = i then { E i with up := u } else E j
def setSize (E : Nat → El) (i u : Nat) : Nat → El := fun j => if j = i then { E i with size := u } else E j
def setLeast (E : Nat → El) (i u : Nat) : Nat → El := fun j => if j = i then { E i with least := u } else E j
theorem put0 {g c n : Nat} (h : RowF B 45 4 w (.slice (some ⟨g, 0, none⟩) n c) n (fun i => encE (E i))) {i : Nat} (hi : i < n) (u : Nat) :
    RowF B 45 4 (w.setCell ⟨g, i * 4, none⟩ (.int .i64 u)) (.slice (some ⟨g, 0, none⟩) n c) n (fun j => encE (setUp E i u j)) :=
  h.set hi (show 0 < 4 by omega) _ fun i' j' _ hj => by
    by_cases e : i' = i
    · subst e; match j', hj with | 0, _ => simp [setUp, encE] | 1, _ => simp [setUp, encE] | 2, _ => simp [setUp, encE] | 3, _ => simp [setUp, encE]
    · simp [setUp, e]
theorem put1 {g c n : Nat} (h : RowF B 45 4 w (.slice (some ⟨g, 0, none⟩) n c) n (fun i => encE (E i))) {i : Nat} (hi : i < n) (u : Nat) :
    RowF B 45 4 (w.setCell ⟨g, i * 4 + 1, none⟩ (.int .i64 u)) (.slice (some ⟨g, 0, none⟩) n c) n (fun j => encE (setSize E i u j)) :=
  h.set hi (show 1 < 4 by omega) _ fun i' j' _ hj => by
    by_cases e : i' = i
    · subst e; match j', hj with | 0, _ => simp [setSize, encE] | 1, _ => simp [setSize, encE] | 2, _ => simp [setSize, encE] | 3, _ => simp [setSize, encE]
    · simp [setSize, e]
theorem put2 {g c n : Nat} (h : RowF B 45 4 w (.slice (some ⟨g, 0, none⟩) n c) n (fun i => encE (E i))) {i : Nat} (hi : i < n) (u : Nat) :
    RowF B 45 4 (w.setCell ⟨g, i * 4 + 2, none⟩ (.int .i64 u)) (.slice (some ⟨g, 0, none⟩) n c) n (fun j => encE (setLeast E i u j)) :=
  h.set hi (show 2 < 4 by omega) _ fun i' j' _ hj => by
    by_cases e : i' = i
    · subst e; match j', hj with | 0, _ => simp [setLeast, encE] | 1, _ => simp [setLeast, encE] | 2, _ => simp [setLeast, encE] | 3, _ => simp [setLeast, encE]
    · simp [setLeast, e]
theorem put3 {g c n : Nat} (h : RowF B 45 4 w (.slice (some ⟨g, 0, none⟩) n c) n (fun i => encE (E i))) {i : Nat} (hi : i < n) (u : Int) :
    RowF B 45 4 (w.setCell ⟨g, i * 4 + 3, none⟩ (.int .i64 u)) (.slice (some ⟨g, 0, none⟩) n c) n (fun j => encE (markE E i u j)) :=
  h.set hi (show 3 < 4 by omega) _ fun i' j' _ hj => by
    by_cases e : i' = i
    · subst e; match j', hj with | 0, _ => simp [markE, encE] | 1, _ => simp [markE, encE] | 2, _ => simp [markE, encE] | 3, _ => simp [markE, encE]
    · simp [markE, e]
theorem tie_chain {r s : Nat} (hne : r ≠ s) (m : Int) : markE (setLeast (setSize (setUp E s r) r ((E r).size + (E s).size)) r (min (E r).least (E s).least)) r m = tieE E r s m := by
  funext i
  by_cases e : i = s
  · subst e
    simp [markE, setLeast, setSize, setUp, tieE, hne.symm]
  · by_cases e2 : i = r
    · subst e2
      simp [markE, setLeast, setSize, setUp, tieE, hne]
    · simp [markE, setLeast, setSize, setUp, tieE, e, e2]
theorem RowF.drewN {T : TypeId} {s n : Nat} {v : Value} {F : Nat → Nat → Value} (h : RowF B T s w v n F) (q : Nat) : RowF B T s (w.drewN q) v n F := h.under ⟨rfl, rfl, rfl, Nat.le_refl _, fun _ _ => rfl⟩
theorem KeptP.drewN {M : Nat → Prop} {w' : World} (h : KeptP M w w') (q : Nat) : KeptP M w (w'.drewN q) := ⟨h.os, h.tape, h.output, h.size, h.block⟩
/-- what merge leaves -/
def Merged (B : Nat) (g n c : Nat) (E : Nat → El) (w w' : World) : Prop :=
  RowF B 45 4 w' (.slice (some ⟨g, 0, none⟩) n c) n (fun i => encE (E i)) ∧ KeptP (· = g) w w'
set_option maxRecDepth 100000 in
set_option maxHeartbeats 1000000 in
theorem merge_no {g c n r s : Nat} (h : RowF B 45 4 w (.slice (some ⟨g, 0, none⟩) n c) n (fun i => encE (E i))) (hr : r < n) (hs : s < n) (hne : r ≠ s) (hru : (E r).up = r) (hsum : (E r).size + (E s).size ≤ 4194303) (hlt : ¬ (E r).size < (E s).size) (m : Int) :
    Calls Try.prog 29 #[.pointer (some ⟨g, r * 4, none⟩), .pointer (some ⟨g, s * 4, none⟩), .int .i64 m] w fun e w' => e = .returned (.tuple #[]) ∧ Merged B g n c (tieE E r s m) w w' := by
  have R := Lib.hid h
  obtain ⟨r0, r1, _, _⟩ := h.four hr
  obtain ⟨_, s1, _, _⟩ := h.four hs
  have f0 := h.soft (s * 4)
  have HR := Lib.hid hr
  have HS := Lib.hid hs
  have HN := Lib.hid hne
  have HU := Lib.hid hru
  have HL := Lib.hid hlt
  have hlt' : decide ((E r).size < (E s).size) = false := by simpa using hlt
  have HB := Lib.hid hsum
  rw [hru] at r0
  clear h hr hs hne hru hlt hsum
  go_enter Try.func29, Try.ntmps29
  go_wp2_with fail
  go_quiet (fail)
  go_wp2_with fail
  generalize hW : World.setCell _ _ _ = W1
  have R1 := put0 (R.out.drewN nq) HS.out r
  have K1 := (((KeptP.refl (· = g) w).drewN nq).set (a := ⟨g, s * 4, none⟩) (.inl rfl) (.int .i64 r))
  rw [hW] at R1 K1
  clear hW r0 r1 s1 f0 hlt'
  have R2 := Lib.hid R1
  have KK := Lib.hid K1
  obtain ⟨_, r1, _, _⟩ := R1.four HR.out
  obtain ⟨_, s1, _, _⟩ := R1.four HS.out
  have f1 := R1.soft (r * 4 + 1)
  have e1 : (setUp E s r r).size = (E r).size := by simp [setUp, HN.out]
  have e2 : (setUp E s r s).size = (E s).size := by simp [setUp]
  rw [e1] at r1
  rw [e2] at s1
  have hs0 : (E r).size + (E s).size ≤ 4194303 := HB.out
  clear R1 K1 e1 e2
  have hw : IntKind.i64.wrap (((E r).size : Int) + ((E s).size : Int)) = ((E r).size : Int) + ((E s).size : Int) := IntWalk.i64_in _ (by omega)
  go_still_tail 11, (by kernel_rfl)
  change wpList _ _ _ _ _ W1.drew
  clear hw hs0
  go_wp2_with fail
  generalize hW : World.setCell _ _ _ = W2
  have R1 := put1 R2.out HR.out ((E r).size + (E s).size)
  have K1 := (KK.out.set (a := ⟨g, r * 4 + 1, none⟩) (.inl rfl) (.int .i64 (((E r).size + (E s).size : Nat) : Int)))
  rw [Int.natCast_add, hW] at R1 K1
  clear hW r1 s1 f1 R2 KK
  have R2 := Lib.hid R1
  have KK := Lib.hid K1
  obtain ⟨_, _, r1, _⟩ := R1.four HR.out
  obtain ⟨_, _, s1, _⟩ := R1.four HS.out
  have f1 := R1.soft (r * 4 + 2)
  have e1 : (setSize (setUp E s r) r ((E r).size + (E s).size) r).least = (E r).least := by simp [setUp, setSize, HN.out]
  have e2 : (setSize (setUp E s r) r ((E r).size + (E s).size) s).least = (E s).least := by simp [setUp, setSize, HN.out.symm]
  rw [e1] at r1
  rw [e2] at s1
  clear R1 K1 e1 e2
  go_region
  have hmin : (if (E s).least < (E r).least then ((E s).least : Int) else ((E r).least : Int)) = ((min (E r).least (E s).least : Nat) : Int) := by split <;> omega
  rw [hmin]
  clear hmin
  generalize hW : World.setCell _ _ _ = W3
  have R1 := put2 R2.out HR.out (min (E r).least (E s).least)
  have K1 := (KK.out.set (a := ⟨g, r * 4 + 2, none⟩) (.inl rfl) (.int .i64 ((min (E r).least (E s).least : Nat) : Int)))
  rw [hW] at R1 K1
  clear hW r1 s1 f1 R2 KK
  have R2 := Lib.hid R1
  have KK := Lib.hid K1
  have f1 := R1.soft (r * 4 + 3)
  obtain ⟨_, _, _, r1⟩ := R1.four HR.out
  clear R1 K1
  go_wp2_with fail
  go_end0
  refine ⟨rfl, ?_, ?_⟩
  · have := (put3 R2.out HR.out m).drewN 2
    rw [tie_chain HN.out] at this
    exact this
  · exact (KK.out.set (a := ⟨g, r * 4 + 3, none⟩) (.inl rfl) (.int .i64 m)).drewN 2
set_option maxRecDepth 100000 in
set_option maxHeartbeats 1000000 in
theorem merge_yes {g c n r s : Nat} (h : RowF B 45 4 w (.slice (some ⟨g, 0, none⟩) n c) n (fun i => encE (E i))) (hr : r < n) (hs : s < n) (hne : r ≠ s) (hru : (E r).up = r) (hsum : (E r).size + (E s).size ≤ 4194303) (hlt : (E s).size < (E r).size) (m : Int) :
    Calls Try.prog 29 #[.pointer (some ⟨g, s * 4, none⟩), .pointer (some ⟨g, r * 4, none⟩), .int .i64 m] w fun e w' => e = .returned (.tuple #[]) ∧ Merged B g n c (tieE E r s m) w w' := by
  have R := Lib.hid h
  obtain ⟨r0, r1, _, _⟩ := h.four hr
  obtain ⟨_, s1, _, _⟩ := h.four hs
  have f0 := h.soft (s * 4)
  have HR := Lib.hid hr
  have HS := Lib.hid hs
  have HN := Lib.hid hne
  have HU := Lib.hid hru
  have HL := Lib.hid hlt
  have hlt' : decide ((E s).size < (E r).size) = true := by simpa using hlt
  have HB := Lib.hid hsum
  rw [hru] at r0
  clear h hr hs hne hru hlt hsum
  go_enter Try.func29, Try.ntmps29
  go_wp2_with fail
  go_quiet (fail)
  go_wp2_with fail
  generalize hW : World.setCell _ _ _ = W1
  have R1 := put0 (R.out.drewN nq) HS.out r
  have K1 := (((KeptP.refl (· = g) w).drewN nq).set (a := ⟨g, s * 4, none⟩) (.inl rfl) (.int .i64 r))
  rw [hW] at R1 K1
  clear hW r0 r1 s1 f0 hlt'
  have R2 := Lib.hid R1
  have KK := Lib.hid K1
  obtain ⟨_, r1, _, _⟩ := R1.four HR.out
  obtain ⟨_, s1, _, _⟩ := R1.four HS.out
  have f1 := R1.soft (r * 4 + 1)
  have e1 : (setUp E s r r).size = (E r).size := by simp [setUp, HN.out]
  have e2 : (setUp E s r s).size = (E s).size := by simp [setUp]
  rw [e1] at r1
  rw [e2] at s1
  have hs0 : (E r).size + (E s).size ≤ 4194303 := HB.out
  clear R1 K1 e1 e2
  have hw : IntKind.i64.wrap (((E r).size : Int) + ((E s).size : Int)) = ((E r).size : Int) + ((E s).size : Int) := IntWalk.i64_in _ (by omega)
  go_still_tail 11, (by kernel_rfl)
  change wpList _ _ _ _ _ W1.drew
  clear hw hs0
  go_wp2_with fail
  generalize hW : World.setCell _ _ _ = W2
  have R1 := put1 R2.out HR.out ((E r).size + (E s).size)
  have K1 := (KK.out.set (a := ⟨g, r * 4 + 1, none⟩) (.inl rfl) (.int .i64 (((E r).size + (E s).size : Nat) : Int)))
  rw [Int.natCast_add, hW] at R1 K1
  clear hW r1 s1 f1 R2 KK
  have R2 := Lib.hid R1
  have KK := Lib.hid K1
  obtain ⟨_, _, r1, _⟩ := R1.four HR.out
  obtain ⟨_, _, s1, _⟩ := R1.four HS.out
  have f1 := R1.soft (r * 4 + 2)
  have e1 : (setSize (setUp E s r) r ((E r).size + (E s).size) r).least = (E r).least := by simp [setUp, setSize, HN.out]
  have e2 : (setSize (setUp E s r) r ((E r).size + (E s).size) s).least = (E s).least := by simp [setUp, setSize, HN.out.symm]
  rw [e1] at r1
  rw [e2] at s1
  clear R1 K1 e1 e2
  go_region
  have hmin : (if (E s).least < (E r).least then ((E s).least : Int) else ((E r).least : Int)) = ((min (E r).least (E s).least : Nat) : Int) := by split <;> omega
  rw [hmin]
  clear hmin
  generalize hW : World.setCell _ _ _ = W3
  have R1 := put2 R2.out HR.out (min (E r).least (E s).least)
  have K1 := (KK.out.set (a := ⟨g, r * 4 + 2, none⟩) (.inl rfl) (.int .i64 ((min (E r).least (E s).least : Nat) : Int)))
  rw [hW] at R1 K1
  clear hW r1 s1 f1 R2 KK
  have R2 := Lib.hid R1
  have KK := Lib.hid K1
  have f1 := R1.soft (r * 4 + 3)
  obtain ⟨_, _, _, r1⟩ := R1.four HR.out
  clear R1 K1
  go_wp2_with fail
  go_end0
  refine ⟨rfl, ?_, ?_⟩
  · have := (put3 R2.out HR.out m).drewN 2
    rw [tie_chain HN.out] at this
    exact this
  · exact (KK.out.set (a := ⟨g, r * 4 + 3, none⟩) (.inl rfl) (.int .i64 m)).drewN 2
def mergeE (E : Nat → El) (r s : Nat) (m : Int) : Nat → El := if (E r).size < (E s).size then tieE E s r m else tieE E r s m
theorem merge_any {g c n r s : Nat} (h : RowF B 45 4 w (.slice (some ⟨g, 0, none⟩) n c) n (fun i => encE (E i))) (hr : r < n) (hs : s < n) (hne : r ≠ s) (hru : (E r).up = r) (hsu : (E s).up = s) (hsum : (E r).size + (E s).size ≤ 4194303) (m : Int) :
    Calls Try.prog 29 #[.pointer (some ⟨g, r * 4, none⟩), .pointer (some ⟨g, s * 4, none⟩), .int .i64 m] w fun e w' => e = .returned (.tuple #[]) ∧ Merged B g n c (mergeE E r s m) w w' := by
  by_cases hlt : (E r).size < (E s).size
  · have := merge_yes h hs hr hne.symm hsu (by omega) hlt m
    rw [show mergeE E r s m = tieE E s r m by simp [mergeE, hlt]]
    exact this
  · have := merge_no h hr hs hne hru (by omega) hlt m
    rw [show mergeE E r s m = tieE E r s m by simp [mergeE, hlt]]
    exact this
end
end Go.Proofs.Ytiehfjkiedgkhaa
