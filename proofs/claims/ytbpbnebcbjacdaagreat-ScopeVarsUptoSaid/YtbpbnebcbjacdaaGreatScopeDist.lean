/-
  slices.Grow of no slice at all: a row of the call's own.
  slices.Concat of lists of strings.
  distinct.
-/
import Derived.Test.YtbpbnebcbjacdaaGreatOwnStr
import Derived.Shelf.Spec.SlicesGrow
import Derived.Test.YtbpbnebcbjacdaaGreatScopeIs
namespace Go.Proofs
open Go.Shelf
def Tryz.growS_ren : Go.Shelf.Ren := ⟨fun | 4 => 117 | n => n, fun | 22 => 37 | 25 => 9 | 3 => 3 | 4 => 4 | 9 => 9 | 20 => 20 | 0 => 0 | n => n, fun | n => n⟩
theorem Tryz.growS : Go.Proofs.Lays8.n4 Tryz.prog Tryz.growS_ren := {
  mixed := by kernel_rfl
  f4 := ⟨Tryz.f117.name, by decide, Tryz.func117.trans (congrArg some (by kernel_rfl))⟩
  t0 := Tryz.underlying0
  a0 := Tryz.isAgg0
  z0 := Tryz.sizeOf0
  v0 := Tryz.zeroValue0
  t3 := Tryz.underlying3
  a3 := Tryz.isAgg3
  z3 := Tryz.sizeOf3
  v3 := Tryz.zeroValue3
  t4 := Tryz.underlying4
  a4 := Tryz.isAgg4
  z4 := Tryz.sizeOf4
  v4 := Tryz.zeroValue4
  t9 := Tryz.underlying9
  a9 := Tryz.isAgg9
  z9 := Tryz.sizeOf9
  v9 := Tryz.zeroValue9
  t20 := Tryz.underlying20
  a20 := Tryz.isAgg20
  z20 := Tryz.sizeOf20
  v20 := Tryz.zeroValue20
  t22 := Tryz.underlying37
  a22 := Tryz.isAgg37
  z22 := Tryz.sizeOf37
  v22 := Tryz.zeroValue37 }
end Go.Proofs
namespace Go.Proofs.YtbpbnebcbjacdaaGreat
open Go.RowKit

/-- a row of the call's own -/
def OwnPost (l : List Tx) (w : World) (e : Ending) (w' : World) : Prop := ∃ v, e = .returned v ∧ OwnS w.heap.size w' v l ∧ Below w.heap.size w w'
theorem grow_zero (w : World) : Calls Tryz.prog 117 #[.slice none 0 0, .int .i64 0] w (OwnPost [] w) :=
  (Any8.slices_Grow_room Tryz.growS none 0 0 0 w (by omega) (by omega) (by omega) (by omega)).mono fun e w' ⟨h1, h2⟩ => ⟨_, h1, OwnS.nil _ _, by rw [h2]; exact Below.refl _ _⟩
theorem grow_some {n : Nat} (h0 : 0 < n) (hn : n ≤ 4194304) (w : World) : Calls Tryz.prog 117 #[.slice none 0 0, .int .i64 n] w (OwnPost [] w) := by
  obtain ⟨i0, hi, hz0, hz1, hz2⟩ := info_parts str_info
  refine (Any8.slices_Grow_grow Tryz.growS i0 (.string ⟨#[]⟩) hi hz0 (by omega) none 0 0 n [] w (by omega) (by omega) (by rw [hz2]; omega) (by omega) (by simp) (by simp) (by simp)).mono fun e w' ⟨h1, h2⟩ => ⟨_, h1, ?_, ?_⟩
  · have ht : Tryz.growS_ren.t 25 = 9 := rfl
    rw [ht] at h2 ⊢
    have hge := grownCap_ge w (0 + n) 0 9
    have hcm : grownCap w (0 + n) 0 9 ≤ maxLen := grownCap_le_maxLen w _ _ _ (by unfold maxLen; omega)
    rw [h2]
    refine ⟨⟨rfl, .inr ⟨w.heap.size, _, _, rfl, Nat.le_refl _, heap_alloc_new w.drew _, Nat.zero_le _, hcm, ?_, by simp⟩⟩, by simp⟩
    simp [Builtin.zeroCells, Value.cells] at hge ⊢
    omega
  · rw [h2]
    exact (Below.refl _ w).drew.alloc (Nat.le_refl _) _
end Go.Proofs.YtbpbnebcbjacdaaGreat
namespace Go.Proofs.YtbpbnebcbjacdaaGreat
open Go.RowKit

theorem grow_any {n : Nat} (hn : n ≤ 4194304) (w : World) : Calls Tryz.prog 117 #[.slice none 0 0, .int .i64 n] w (OwnPost [] w) := by
  cases n with
  | zero => exact grow_zero w
  | succ n => exact grow_some (by omega) hn w
/-- a slice of slices of strings -/
def ListsAt (w : World) (v : Value) (ls : List (List Tx)) : Prop := SliceAt w (fun L l => ∃ x, L = [x] ∧ StrsAt w x l) v ls
theorem flatten_snoc {X : Type} {ls : List (List X)} {k : Nat} {x : List X} (h : ls[k]? = some x) : (ls.take (k + 1)).flatten = (ls.take k).flatten ++ x := by
  rw [take_snoc h]; simp
theorem flatten_le {X : Type} (ls : List (List X)) (k : Nat) : (ls.take k).flatten.length ≤ ls.flatten.length := by
  have h : ls.flatten = (ls.take k).flatten ++ (ls.drop k).flatten := by rw [← List.flatten_append, List.take_append_drop]
  rw [h, List.length_append]; omega
set_option maxHeartbeats 4000000 in
set_option maxRecDepth 100000 in
theorem concat_any {w : World} {A : Option Addr} {c : Nat} {ls : List (List Tx)} (h : ListsAt w (.slice A ls.length c) ls) (hlen : ls.flatten.length ≤ 2097152) :
    Calls Tryz.prog 94 #[.slice A ls.length c] w (OwnPost ls.flatten w) := by
  obtain ⟨A', c', e, hc, hm, he⟩ := h
  injection e with e1 e2 e3
  subst e1 e3
  have hll : ls.length ≤ 9223372036854775807 := by have h : ls.length ≤ c := hc; unfold maxLen at hm; omega
  have HE := Lib.hid he
  clear hc hm he e2
  go_enter Tryz.func94, Tryz.ntmps94
  go_wp2_with fail
  go_loopg [3, 11] ls.length (fun g n i wr => ∃ k : Nat, k + g = ls.length ∧ i = .int .i64 k ∧ n = .int .i64 ((ls.take k).flatten.length : Nat) ∧ wr = w)
  case atStart => exact ⟨0, by omega, rfl, rfl, rfl⟩
  case round =>
    obtain ⟨k, hkg, rfl, rfl, rfl⟩ := hrel
    have HK := Lib.hid hkg
    have hkl : k ≤ ls.length := by omega
    clear hkg
    by_cases hlt : k < ls.length
    · obtain ⟨l, hl⟩ : ∃ l, ls[k]? = some l := ⟨_, List.getElem?_eq_getElem hlt⟩
      have HT := Lib.hid (flatten_snoc hl)
      have hlen1 : (ls.take k).flatten.length + l.length ≤ 2097152 := by
        have h1 := flatten_le ls (k + 1)
        rw [flatten_snoc hl, List.length_append] at h1
        omega
      obtain ⟨L, hE, x, rfl, hx⟩ := HE.out k l hl
      obtain ⟨xA, xc, rfl, _⟩ := hx
      obtain ⟨a, rfl, _, _, q0⟩ := elem1 hE
      simp only [Nat.mul_one] at q0
      generalize hN : (ls.take k).flatten.length = N at *
      clear hE hl
      have hN0 : ¬ ((N : Int) + (l.length : Int) < 0) := by omega
      go_wp2_with fail
      go_roundg (ls.length - (k + 1))
      case measure => have := HK.out; omega
      case rel => exact ⟨k + 1, by omega, by go_num, by rw [HT.out, List.length_append, hN]; go_num, rfl⟩
    · have hke : k = ls.length := by omega
      subst hke
      obtain ⟨V, rfl⟩ : ∃ W, W = wr := ⟨_, rfl⟩
      have HG := Lib.hid (grow_any (n := ls.flatten.length) (by omega) V)
      rw [List.take_length]
      generalize hN : ls.flatten.length = N at *
      clear hlt hkl
      go_wp2_with (go_at_call 117; (with_reducible refine HG.out.mono ?_); rintro e w1 ⟨v1, rfl, ho, hb⟩; have HO := Lib.hid ho; have HB := Lib.hid hb; clear ho hb)
      have hbw := HB.out.size
      go_loopg [6, 27] ls.length (fun g v i wq => ∃ k : Nat, k + g = ls.length ∧ i = .int .i64 k ∧ OwnS V.heap.size wq v (ls.take k).flatten ∧ Below V.heap.size V wq)
      case atStart => exact ⟨0, by omega, rfl, by simpa using HO.out, HB.out⟩
      case round =>
        obtain ⟨wq, rfl⟩ : ∃ W, W = wr := ⟨_, rfl⟩
        obtain ⟨k, hkg, rfl, ho, hb⟩ := hrel
        have HK := Lib.hid hkg
        have HO2 := Lib.hid ho
        have HB2 := Lib.hid hb
        have hsz2 := hb.size
        have hkl : k ≤ ls.length := by omega
        clear hkg ho hb
        by_cases hlt : k < ls.length
        · obtain ⟨l, hl⟩ : ∃ l, ls[k]? = some l := ⟨_, List.getElem?_eq_getElem hlt⟩
          have HT := Lib.hid (flatten_snoc hl)
          have hlen1 : (ls.take k).flatten.length + l.length ≤ 4194304 := by
            have h1 := flatten_le ls (k + 1)
            rw [flatten_snoc hl, List.length_append] at h1
            omega
          obtain ⟨L, hE, x, rfl, hx⟩ := HE.out k l hl
          have HX := Lib.hid (hx.under HB2.out)
          obtain ⟨xA, xc, rfl, _⟩ := hx
          obtain ⟨a, rfl, _, _, q0⟩ := elem1 (hE.under HB2.out)
          simp only [Nat.mul_one] at q0
          clear hE hl
          go_wp2_with (at_builtin; refine append_strs rfl _ _ rfl rfl rfl HO2.out HX.out hlen1 hsz2 ?_; (intro v5 w5 h5; obtain ⟨ho5, hb5, _⟩ := h5; have HO5 := Lib.hid ho5; have HB5 := Lib.hid (HB2.out.trans hb5); clear ho5 hb5))
          go_roundg (ls.length - (k + 1))
          case measure => have := HK.out; omega
          case rel => exact ⟨k + 1, by omega, by go_num, by rw [HT.out]; exact HO5.out, HB5.out⟩
        · have hke : k = ls.length := by omega
          have HOe := Lib.hid (show OwnS V.heap.size _ _ ls.flatten by have := HO2.out; rwa [hke, List.take_length] at this)
          clear hke
          go_wp2_with fail
          go_ret
          exact ⟨_, rfl, HOe.out, HB2.out⟩
end Go.Proofs.YtbpbnebcbjacdaaGreat
namespace Go.Proofs.YtbpbnebcbjacdaaGreat
open Go.RowKit
open Go.ChangeMaps Go.MapKept
open Go.Maps

theorem ListsAt.under {w w' : World} {v : Value} {ls : List (List Tx)} (h : ListsAt w v ls) (hb : Below w.heap.size w w') : ListsAt w' v ls :=
  SliceAt.mono h hb (fun _ _ ⟨x, hx, hs⟩ => ⟨x, hx, hs.under hb⟩)
theorem sh_nil : ∀ p ∈ ([] : List (Tx × Value)), ShS p.2 := fun _ hp => absurd hp (List.not_mem_nil)
set_option maxHeartbeats 4000000 in
set_option maxRecDepth 100000 in
theorem distinct_any {w : World} {A : Option Addr} {c : Nat} {ls : List (List Tx)} (h : ListsAt w (.slice A ls.length c) ls) (hlen : ls.flatten.length ≤ 2097152) :
    Calls Tryz.prog 74 #[.slice A ls.length c] w (BoolPost (recOk [] ls.flatten) w) := by
  have hmm := @run_makeMap Tryz.prog
  have HA := Lib.hid h
  clear h
  go_enter Tryz.func74, Tryz.ntmps74
  have hal := Lib.hid ((Below.refl w.heap.size w).alloc (Nat.le_refl _) (.map #[] 0))
  go_wp2_with (first
    | (go_at_call 94
       (with_reducible refine (concat_any (HA.out.under hal.out) hlen).mono ?_)
       rintro e w1 ⟨v1, rfl, ho, hb⟩
       have hz : w.heap.size + 1 ≤ w1.heap.size := by have := hb.size; simpa using this
       have HM1 := Lib.hid ((MapAt.made w).under hb)
       have HS1 := Lib.hid ho.strs
       have HB1 := Lib.hid (hal.out.trans (hb.mono (by simp)))
       clear ho hb)
    | (go_at_call 94
       (with_reducible refine (concat_any HA.out hlen).mono ?_)
       rintro e w1 ⟨v1, rfl, ho, hb⟩
       have hz := hb.size
       have HM1 := Lib.hid (MapAt.made w1)
       have HS1 := Lib.hid (ho.strs.under ((Below.refl _ w1).alloc (Nat.le_refl _) (.map #[] 0)))
       have HB1 := Lib.hid (hb.trans ((Below.refl _ w1).alloc hz (.map #[] 0)))
       clear ho hb)
    | (go_at_call 43
       (with_reducible refine (recordS_any (l := []) HM1.out sh_nil HS1.out).mono ?_)
       rintro e w7 ⟨he, hk, _⟩
       subst he
       have HF := Lib.hid (HB1.out.trans (hk.below (B := w.heap.size) (by intro b hb; rw [List.mem_singleton] at hb; omega) (by first | omega | (simp; omega))))
       clear hk))
  all_goals (go_ret; exact ⟨rfl, HF.out⟩)
end Go.Proofs.YtbpbnebcbjacdaaGreat
