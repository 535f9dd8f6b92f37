/-
  types.Set puts in a variable's place what it stands for, as the reference does.
-/
import Derived.Test.YtmceablhndldiaaGreatDoorTyLives
import Derived.WalkSpells
import Derived.Deep.QuietTactic
import Derived.BigQuiet
import Derived.Test.YtmceablhndldiaaGreatDoorRows
import Derived.Deep.Slices
import Derived.Deep.Fields
import Derived.ChangeSame
import Derived.Carry
namespace Go.Proofs.YtmceablhndldiaaGreatDoor
open Go.ChangeShapes Go.WideShapes Go.Deep Go.RowKit

def i64R (t : Int) : Prop := -9223372036854775808 ≤ t ∧ t ≤ 9223372036854775807
/-- a list of numbers that came in -/
def IntsAt (w : World) (v : Value) (l : List Int) : Prop :=
  ∃ A c, v = .slice A l.length c ∧ l.length ≤ c ∧ c ≤ maxLen ∧ ∀ (i : Nat) x, l[i]? = some x → ∃ a, A = some a ∧ w.cell? (a.add i) = some (.int .i64 x)
theorem IntsAt.under {w w' : World} {v : Value} {l : List Int} (h : IntsAt w v l) (hb : Below w.heap.size w w') : IntsAt w' v l := by
  obtain ⟨A, c, h1, h2, h3, h4⟩ := h
  refine ⟨A, c, h1, h2, h3, fun i x hx => ?_⟩
  obtain ⟨a, ha, hc⟩ := h4 i x hx
  refine ⟨a, ha, ?_⟩
  rw [hb.cell (World.block_lt_of_cell? w _ hc)]
  exact hc
def setT (t : Int) (l : List Int) : Int := if t < 0 ∧ -t ≤ l.length then l.getD (-t - 1).toNat 0 else t
set_option maxHeartbeats 1000000 in
theorem set_any (t : Int) (v : Value) (l : List Int) (w : World) (ht : i64R t) (h : IntsAt w v l) : Calls Tryz.prog 6 #[.int .i64 t, v] w fun e w' => e = .returned (.int .i64 (setT t l)) ∧ w = w' := by
  obtain ⟨A, c, rfl, h1, h2, h3⟩ := h
  unfold i64R at ht
  unfold maxLen at h2
  by_cases h0 : t < 0
  · by_cases hl : -t ≤ l.length
    · obtain ⟨k, hk⟩ : ∃ k : Nat, t = -(k : Int) - 1 := ⟨(-t - 1).toNat, by omega⟩
      subst hk
      have hkl : k < l.length := by omega
      obtain ⟨a, rfl, hc⟩ := h3 k _ (List.getElem?_eq_getElem hkl)
      have hset : setT (-(k : Int) - 1) l = l[k] := by
        unfold setT
        rw [if_pos ⟨h0, hl⟩, show (-(-(k : Int) - 1) - 1).toNat = k by omega, List.getD_eq_getElem?_getD, List.getElem?_eq_getElem hkl]
        rfl
      rw [hset]
      go_enter Tryz.func6, Tryz.ntmps6
      go_wp2
      go_ret
      exact ⟨rfl, rfl⟩
    · have hset : setT t l = t := by unfold setT; rw [if_neg (by omega)]
      rw [hset]
      go_enter Tryz.func6, Tryz.ntmps6
      go_wp2
      go_ret
      exact ⟨rfl, rfl⟩
  · have hset : setT t l = t := by unfold setT; rw [if_neg (by omega)]
    rw [hset]
    go_enter Tryz.func6, Tryz.ntmps6
    go_wp2
    go_ret
    exact ⟨rfl, rfl⟩
set_option maxRecDepth 100000 in
set_option maxHeartbeats 1000000 in
theorem set_ref (t : Int) (v : Value) (l : List Int) (w : World) (ht : i64R t) (h : IntsAt w v l) : Calls Tryz.prog 7 #[.int .i64 t, v] w fun e w' => e = .returned (.int .i64 (setT t l)) ∧ w = w' := by
  obtain ⟨A, c, rfl, h1, h2, h3⟩ := h
  unfold i64R at ht
  unfold maxLen at h2
  by_cases h0 : t < 0
  · by_cases hl : -t ≤ l.length
    · obtain ⟨k, hk⟩ : ∃ k : Nat, t = -(k : Int) - 1 := ⟨(-t - 1).toNat, by omega⟩
      subst hk
      have hkl : k < l.length := by omega
      obtain ⟨a, rfl, hc⟩ := h3 k _ (List.getElem?_eq_getElem hkl)
      have hset : setT (-(k : Int) - 1) l = l[k] := by
        unfold setT
        rw [if_pos ⟨h0, hl⟩, show (-(-(k : Int) - 1) - 1).toNat = k by omega, List.getD_eq_getElem?_getD, List.getElem?_eq_getElem hkl]
        rfl
      have hc' : w.cell? (a.add ((-(-(k : Int) - 1)).toNat - 1)) = some (.int .i64 l[k]) := by rw [show (-(-(k : Int) - 1)).toNat - 1 = k by omega]; exact hc
      rw [hset]
      go_enter Tryz.func7, Tryz.ntmps7
      go_wp2
      go_ret
      exact ⟨rfl, rfl⟩
    · have hset : setT t l = t := by unfold setT; rw [if_neg (by omega)]
      rw [hset]
      by_cases hm : t = -9223372036854775808
      · subst hm
        have hw64 : wrap64 9223372036854775808 = -9223372036854775808 := by decide +kernel
        go_enter Tryz.func7, Tryz.ntmps7
        go_wp2
        go_ret
        exact ⟨rfl, rfl⟩
      · go_enter Tryz.func7, Tryz.ntmps7
        go_wp2
        go_ret
        exact ⟨rfl, rfl⟩
  · have hset : setT t l = t := by unfold setT; rw [if_neg (by omega)]
    rw [hset]
    go_enter Tryz.func7, Tryz.ntmps7
    go_wp2
    go_ret
    exact ⟨rfl, rfl⟩
def Lived (w : World) (e : Ending) (w' : World) : Prop := e = .returned (.bool true) ∧ Below w.heap.size w w'
set_option maxHeartbeats 1000000 in
theorem sets_law (t : Int) (v : Value) (l : List Int) (w : World) (ht : i64R t) (h : IntsAt w v l) : Calls Tryz.prog 3 #[.int .i64 t, v] w (Lived w) := by
  have H := Lib.hid h
  have HT := Lib.hid ht
  clear h ht
  go_enter Tryz.func3, Tryz.ntmps3
  go_wp2_with (first
    | (go_at_call 5; ((with_reducible refine (lives8_any _).mono ?_); rintro e w1 ⟨rfl, hb⟩; have HB := Lib.hid hb; clear hb))
    | (go_at_call 6; ((with_reducible refine (set_any _ _ _ _ HT.out (H.out.under HB.out)).mono ?_); rintro e w2 ⟨rfl, rfl⟩))
    | (go_at_call 7; ((with_reducible refine (set_ref _ _ _ _ HT.out (H.out.under HB.out)).mono ?_); rintro e w2 ⟨rfl, rfl⟩)))
  go_ret
  exact ⟨rfl, HB.out⟩
/-- a list of numbers that came in -/
theorem open_ints {H : Type} {enc : TypeId × Value → H} {W : World} {v : Value} {d : DataW H} {p : List MemPlace} (hone : v.cells = #[v]) (h : DataW.Trod enc Tryz.prog W 0 (fun _ => true) true 23 v d p) :
    ∃ l, IntsAt W v l := by
  obtain ⟨fuel, hf⟩ := h
  rw [hone] at hf
  rcases open_slice Tryz.underlying23 hf with ⟨hv, hx⟩ | ⟨a, len, cap, m, n, D, Pl, hv, _, hl, hcp, hm, hx, hi⟩
  · refine ⟨[], none, 0, by simpa using hv, by simp, by unfold maxLen; omega, fun i o h => by simp at h⟩
  · have hv : v = .slice (some a) len cap := by simpa using hv
    have hmc : len ≤ m := by rw [hm]; split <;> omega
    have hall : ∀ i, ∃ x : Int, i < len → W.cell? (a.add i) = some (.int .i64 x) := by
      intro i
      by_cases hil : i < len
      · obtain ⟨cs, hc, ht⟩ := hi i (by omega)
        obtain ⟨x, h0, _, w0⟩ := DataW.trod_int Tryz.underlying22 ht
        refine ⟨x, fun _ => ?_⟩
        obtain ⟨_, hlc, hat⟩ := World.cells?_some hc
        have h1 : Tryz.prog.cellsOf 22 = 1 := by kernel_rfl
        have := hat 0 (by rw [h1]; omega)
        rw [h1, Nat.mul_one, h0] at this
        simpa [Addr.add] using this
      · exact ⟨0, fun h => absurd h hil⟩
    obtain ⟨F, hF⟩ := Classical.axiomOfChoice hall
    refine ⟨(List.range len).map F, some a, cap, by simpa using hv, by simpa using hl, hcp, fun i o hio => ?_⟩
    obtain ⟨h1, h2⟩ := List.getElem?_eq_some_iff.1 hio
    simp at h1 h2
    subst h2
    exact ⟨a, rfl, hF i h1⟩
theorem cells_slice {P : Program} {W : World} {r : Reach} {b : Nat} {t e : TypeId} {v : Value} (ht : P.underlying t = some (.slice e)) (h : Value.okWide P W r b t v) : v.cells = #[v] := by
  obtain ⟨a, len, cap, rfl⟩ := okWide_slice ht h
  rfl
end Go.Proofs.YtmceablhndldiaaGreatDoor
