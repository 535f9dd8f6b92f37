/-
  The operations on memory: append and copy.
-/
import Derived.Test.YtmceablhndldiaaGreatDoorSx11
namespace Go.Sx
open Go.RowKit

section
variable {P : Program} {o : Oper}
theorem growBy_le (n : Nat) : ∀ (r c : Nat), Builtin.growBy n r c ≤ max c (n + (n + 768) / 4)
  | 0, c => by show c ≤ _; omega
  | r + 1, c => by
    show (if c ≥ n then c else Builtin.growBy n r (c + (c + 768) / 4)) ≤ _
    split
    · omega
    · have := growBy_le n r (c + (c + 768) / 4)
      omega
theorem nextcap_le {n c : Nat} (h : c < n) (k : n ≤ 1048576) : Builtin.nextslicecap n c ≤ 4194304 := by
  unfold Builtin.nextslicecap
  split
  · omega
  · split
    · omega
    · have := growBy_le n 4 c
      omega
theorem u8s_VR (ρ : Ren) {b : ByteArray} {s : List Nat} (h : b.data.toList.map UInt8.toNat = s) : VRs ρ (u8s s) (b.data.toList.map fun x => .int .u8 x.toNat) := by
  subst h
  generalize b.data.toList = l
  induction l with
  | nil => exact VRs.nil ρ
  | cons x l ih => exact VRs.cons (VR.int ρ .u8 _) ih
theorem u8s_length : ∀ s : List Nat, (u8s s).length = s.length
  | [] => rfl
  | _ :: s => congrArg Nat.succ (u8s_length s)
/-- what is appended: its length, and a run that yields its cells -/
def SrcOk (P : Program) (size : Nat) (ρ : Ren) (w : World) (n : Nat) (s : Sem (Array Value)) (r : List AV) : Prop :=
  r.length = n * size ∧ ∃ arr, VRs ρ r arr.toList ∧ ∀ w' : World, w'.heap = w.heap → s.run P w' = .ok arr w'
theorem srcOf_ok {size c c' : Nat} {h h' : H} {l : Log} {v : AV} {r : List AV × Nat} (e : srcOf size v c h = .ok r c' h' l) {ρ : Ren} {w : World} (hr : Rel ρ h w) {u : Value} (hu : VR ρ v u) :
    c' = c ∧ h' = h ∧ (∀ w', (Builtin.lenOf u).run P w' = .ok r.2 w') ∧ SrcOk P size ρ w r.2 (Builtin.firstCells size r.2 u) r.1 := by
  cases v with
  | str s =>
    obtain ⟨hb, e⟩ := ifB_ok (show ifB (Nat.beq size 1) (M.pure (u8s s, len s)) fail c h = _ from e)
    obtain ⟨rfl, rfl, rfl, _⟩ := pure_ok e
    have h1 := Nat.eq_of_beq_eq_true hb
    subst h1
    simp only [VR] at hu
    obtain ⟨b, rfl, hs⟩ := hu
    have hl := str_len hs
    refine ⟨rfl, rfl, fun w' => by simp [Builtin.lenOf, hl, len_eq], by rw [u8s_length, len_eq, Nat.mul_one], _, u8s_VR ρ hs, ?_⟩
    have : ∀ w' : World, (Builtin.firstCells 1 (len s) (.string b)).run P w' = .ok (b.data.toList.map fun x => Value.int .u8 x.toNat).toArray w' := fun w' => by
      have h2 : b.extract 0 (len s) = b := by
        rw [len_eq, ← hl]
        exact ByteArray.extract_zero_size
      simp only [Builtin.firstCells, h2, Sem.run_pure]
      congr 1
      apply Array.ext'
      simp
    exact fun w' _ => this w'
  | slice a n m z =>
    cases a with
    | none =>
      obtain ⟨hb, e⟩ := ifB_ok (show ifB (Nat.beq n 0) (M.pure (([] : List AV), 0)) fail c h = _ from e)
      obtain ⟨rfl, rfl, rfl, _⟩ := pure_ok e
      have h1 := Nat.eq_of_beq_eq_true hb
      subst h1
      simp only [VR] at hu
      subst hu
      exact ⟨rfl, rfl, fun w' => rfl, by simp, #[], by simp [VRs], fun w' _ => rfl⟩
    | some p =>
      obtain ⟨q, e2, rfl⟩ := map_ok (show M.map (fun l => (l, n)) (loadN p.1 p.2 (n * size)) c h = _ from e)
      obtain ⟨rfl, rfl, hh⟩ := loadN_ok e2
      simp only [VR] at hu
      obtain ⟨b, s, o', k', g1, rfl, g3, g4, g5, g6⟩ := hu
      rcases hh with ⟨h0, rfl⟩ | ⟨cs, h1, h2⟩
      · refine ⟨rfl, rfl, fun w' => rfl, by simpa using h0.symm, #[], by simp [VRs], fun w' hw => ?_⟩
        show (loadCells ⟨b, o', none⟩ (n * size)).run P w' = _
        rw [h0]
        rfl
      have hlen : q.length = n * size := by
        obtain ⟨rfl, hk⟩ := takeN_eq _ _ _ h2
        rw [List.length_take]
        omega
      obtain ⟨b', s', f1, arr, f2, f3, f4⟩ := hr.run_loadN (P := P) h1 h2
      rw [g1] at f1
      cases f1
      refine ⟨rfl, rfl, fun w' => rfl, hlen, arr.toArray, by simpa using f3, fun w' hw => ?_⟩
      rcases g5 with g5 | g5
      · have : n = 0 := by omega
        subst this
        have f2 : arr.length = 0 * size := f2
        rw [Nat.zero_mul] at f2
        have : arr = [] := List.length_eq_zero_iff.1 f2
        subst this
        show (loadCells ⟨b, o', none⟩ (0 * size)).run P w' = _
        rw [Nat.zero_mul]
        rfl
      · subst g5
        exact f4 w' hw
  | _ => cases e
end
end Go.Sx
