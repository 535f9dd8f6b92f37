import Derived.Shelf.Spec.SlicesGrow
import Derived.Test.YtkfacdofkfabnaaGreatDoorKm31
set_option maxHeartbeats 4000000
set_option maxRecDepth 100000
namespace Go.Proofs
open Go.RowKit (zH zO zD zK zW zA zB zG)
open _root_.Go.Proofs.Tryz
open Go.Shelf
def growS_ren : Go.Shelf.Ren := ⟨λ | 4 => 176 | n => n, λ | 22 => 33 | 25 => 9 | 3 => 3 | 4 => 4 | 9 => 9 | 20 => 20 | 0 => 0 | n => n, λ | n => n⟩
theorem growS : Go.Proofs.Lays8.n4 prog growS_ren := {
 mixed := by kernel_rfl
 f4 := ⟨f176.name, by decide, func176.trans (congrArg some zK)⟩
 t0 := underlying0
 a0 := isAgg0
 z0 := sizeOf0
 v0 := zeroValue0
 t3 := underlying3
 a3 := isAgg3
 z3 := sizeOf3
 v3 := zeroValue3
 t4 := underlying4
 a4 := isAgg4
 z4 := sizeOf4
 v4 := zeroValue4
 t9 := underlying9
 a9 := isAgg9
 z9 := sizeOf9
 v9 := zeroValue9
 t20 := underlying20
 a20 := isAgg20
 z20 := sizeOf20
 v20 := zeroValue20
 t22 := underlying33
 a22 := isAgg33
 z22 := sizeOf33
 v22 := zeroValue33 }
end Go.Proofs
namespace Go.Proofs.YtkfacdofkfabnaaGreatDoor
open _root_.Go.Proofs.Tryz
open Go.RowKit
def pq (l : List Tx) (w : World) (e : Ending) (w' : World) : Prop := ∃ v, e = .returned v /\ fw w.heap.size w' v l /\ Below w.heap.size w w'
theorem Cl (w : World) : Calls prog 176 #[.slice none 0 0, .int .i64 0] w (pq [] w) :=
 (Any8.slices_Grow_room growS none 0 0 0 w zO zO zO zO).mono λ e w' ⟨h1, h2⟩ => ⟨_, h1, fw.nil _ _, by rw [h2]; exact Below.refl _ _⟩
theorem Cm {n : Nat} (h0 : 0 < n) (hn : n <= 4194304) (w : World) : Calls prog 176 #[.slice none 0 0, .int .i64 n] w (pq [] w) := by
 obtain ⟨i0, hi, hz0, hz1, hz2⟩ := info_parts lZ; refine (Any8.slices_Grow_grow growS i0 (.string ⟨#[]⟩) hi hz0 zO none 0 0 n [] w zO zO (by rw [hz2]; omega) zO (by simp) (by simp) (by simp)).mono λ e w' ⟨h1, h2⟩ => ⟨_, h1, ?_, ?_⟩
 . have ht : growS_ren.t 25 = 9 := rfl; rw [ht] at h2 ⊢; have hge := grownCap_ge w (0 + n) 0 9; have hcm : grownCap w (0 + n) 0 9 <= maxLen := grownCap_le_maxLen w _ _ _ (by unfold maxLen; omega); rw [h2]; refine ⟨⟨rfl, .inr ⟨w.heap.size, _, _, rfl, Nat.le_refl _, heap_alloc_new w.drew _, Nat.zero_le _, hcm, ?_, by simp⟩⟩, by simp⟩; simp [Builtin.zeroCells, Value.cells] at hge ⊢; omega
 . rw [h2]; exact (Below.refl _ w).drew.alloc (Nat.le_refl _) _
theorem Em {n : Nat} (hn : n <= 4194304) (w : World) : Calls prog 176 #[.slice none 0 0, .int .i64 n] w (pq [] w) := by
 cases n with
 | zero => exact Cl w
 | succ n => exact Cm zO hn w
def nr (w : World) (v : Value) (ls : List (List Tx)) : Prop := aw w (λ L l => ∃ x, L = [x] /\ aH w x l) v ls
theorem gz {X : Type} {ls : List (List X)} {k : Nat} {x : List X} (h : ls[k]? = some x) : (ls.take (k + 1)).flatten = (ls.take k).flatten ++ x := by
 rw [bo h]; simp
theorem qw {X : Type} (ls : List (List X)) (k : Nat) : (ls.take k).flatten.length <= ls.flatten.length := by
 have h : ls.flatten = (ls.take k).flatten ++ (ls.drop k).flatten := (by rw [<- List.flatten_append, List.take_append_drop]); rw [h, List.length_append]; omega
theorem qK {w : World} {A : Option Addr} {c : Nat} {ls : List (List Tx)} (h : nr w (.slice A ls.length c) ls) (hlen : ls.flatten.length <= 2097152) :
  Calls prog 142 #[.slice A ls.length c] w (pq ls.flatten w) := by
 obtain ⟨A', c', e, hc, hm, he⟩ := h; injection e with e1 e2 e3; subst e1 e3; have hll : ls.length <= 9223372036854775807 := (by have h : ls.length <= c := hc; unfold maxLen at hm; omega); have HE := zH he; clear hc hm he e2; go_enter func142, ntmps142
 go_wp2_with fail
 go_loopg [3, 11] ls.length (λ g n i wr => ∃ k : Nat, k + g = ls.length /\ i = .int .i64 k /\ n = .int .i64 ((ls.take k).flatten.length : Nat) /\ wr = w)
 case atStart => exact ⟨0, by omega, rfl, rfl, rfl⟩
 case round =>
  obtain ⟨k, hkg, rfl, rfl, rfl⟩ := hrel; have HK := zH hkg; have hkl : k <= ls.length := zO; clear hkg; by_cases hlt : k < ls.length
  . obtain ⟨l, hl⟩ := zG hlt; have HT := zH (gz hl); have hlen1 : (ls.take k).flatten.length + l.length <= 2097152 := by
     have h1 := qw ls (k + 1); rw [gz hl, List.length_append] at h1; omega
    obtain ⟨L, hE, x, rfl, hx⟩ := HE.o k l hl; obtain ⟨xA, xc, rfl, _⟩ := hx; obtain ⟨a, rfl, _, _, q0⟩ := et hE; simp only [Nat.mul_one] at q0; generalize hN : (ls.take k).flatten.length = N at *; clear hE hl; have hN0 : ¬ ((N : Int) + (l.length : Int) < 0) := zO; go_wp2_with fail
    go_roundg (ls.length - (k + 1))
    case measure => have := HK.o; omega
    case rel => exact ⟨k + 1, by omega, by go_num, by rw [HT.o, List.length_append, hN]; go_num, rfl⟩
  . have hke : k = ls.length := by omega
    subst hke; obtain ⟨V, rfl⟩ := zW wr; have HG := zH (Em (n := ls.flatten.length) zO V); rw [List.take_length]; generalize hN : ls.flatten.length = N at *; clear hlt hkl; go_wp2_with (go_at_call 176; (with_reducible refine HG.o.mono ?_); rintro e w1 ⟨v1, rfl, ho, hb⟩; have HO := zH ho; have HB := zH hb; clear ho hb)
    have hbw := HB.o.size; go_loopg [6, 27] ls.length (λ g v i wq => ∃ k : Nat, k + g = ls.length /\ i = .int .i64 k /\ fw V.heap.size wq v (ls.take k).flatten /\ Below V.heap.size V wq)
    case atStart => exact ⟨0, by omega, rfl, by simpa using HO.o, HB.o⟩
    case round =>
     obtain ⟨wq, rfl⟩ := zW wr; obtain ⟨k, hkg, rfl, ho, hb⟩ := hrel; have HK := zH hkg; have HO2 := zH ho; have HB2 := zH hb; have hsz2 := hb.size; have hkl : k <= ls.length := zO; clear hkg ho hb; by_cases hlt : k < ls.length
     . obtain ⟨l, hl⟩ := zG hlt; have HT := zH (gz hl); have hlen1 : (ls.take k).flatten.length + l.length <= 4194304 := by
        have h1 := qw ls (k + 1); rw [gz hl, List.length_append] at h1; omega
       obtain ⟨L, hE, x, rfl, hx⟩ := HE.o k l hl; have HX := zH (hx.under HB2.o); obtain ⟨xA, xc, rfl, _⟩ := hx; obtain ⟨a, rfl, _, _, q0⟩ := et (hE.under HB2.o); simp only [Nat.mul_one] at q0; clear hE hl; go_wp2_with (at_builtin; refine kr rfl _ _ rfl rfl rfl HO2.o HX.o hlen1 hsz2 ?_; (intro v5 w5 h5; obtain ⟨ho5, hb5, _⟩ := h5; have HO5 := zH ho5; have HB5 := zH (HB2.o.trans hb5); clear ho5 hb5))
       go_roundg (ls.length - (k + 1))
       case measure => have := HK.o; omega
       case rel => exact ⟨k + 1, by omega, by go_num, by rw [HT.o]; exact HO5.o, HB5.o⟩
     . have hke : k = ls.length := by omega
       have HOe := zH (show fw V.heap.size _ _ ls.flatten by have := HO2.o; rwa [hke, List.take_length] at this); clear hke; go_wp2_with fail
       go_ret; exact ⟨_, rfl, HOe.o, HB2.o⟩
end Go.Proofs.YtkfacdofkfabnaaGreatDoor
namespace Go.Proofs.YtkfacdofkfabnaaGreatDoor
open _root_.Go.Proofs.Tryz
open Go.RowKit
open Go.ChangeMaps Go.MapKept
open Go.Maps
theorem nr.under {w w' : World} {v : Value} {ls : List (List Tx)} (h : nr w v ls) (hb : Below w.heap.size w w') : nr w' v ls :=
 aw.mono h hb (λ _ _ ⟨x, hx, hs⟩ => ⟨x, hx, hs.under hb⟩)
theorem Dn : ∀ p ∈ ([] : List (Tx × Value)), ShS p.2 := λ _ hp => absurd hp (List.not_mem_nil)
theorem mU {w : World} {A : Option Addr} {c : Nat} {ls : List (List Tx)} (h : nr w (.slice A ls.length c) ls) (hlen : ls.flatten.length <= 2097152) :
  Calls prog 104 #[.slice A ls.length c] w (aA (bg [] ls.flatten) w) := by
 have hmm := @run_makeMap prog; have HA := zH h; clear h; go_enter func104, ntmps104
 have hal := zH (zA w (.map #[] 0))
 go_wp2_with (first
  | (go_at_call 142; (with_reducible refine (qK (HA.o.under hal.o) hlen).mono ?_); rintro e w1 ⟨v1, rfl, ho, hb⟩; have hz : w.heap.size + 1 <= w1.heap.size := (by have := hb.size; simpa using this); have HM1 := zH ((aP.made w).under hb); have HS1 := zH ho.strs; have HB1 := zH (hal.o.trans (hb.mono (by simp))); clear ho hb)
  | (go_at_call 142; (with_reducible refine (qK HA.o hlen).mono ?_); rintro e w1 ⟨v1, rfl, ho, hb⟩; have hz := hb.size; have HM1 := zH (aP.made w1); have HS1 := zH (ho.strs.under ((Below.refl _ w1).alloc (Nat.le_refl _) (.map #[] 0))); have HB1 := zH (hb.trans ((Below.refl _ w1).alloc hz (.map #[] 0))); clear ho hb)
  | (go_at_call 51; (with_reducible refine (dr (l := []) HM1.o Dn HS1.o).mono ?_); rintro e w7 ⟨he, hk, _⟩; subst he; have HF := zH (HB1.o.trans (hk.below (B := w.heap.size) (by intro b hb; rw [List.mem_singleton] at hb; omega) (by first | omega | (simp; omega)))); clear hk))
 all_goals (go_ret; exact ⟨rfl, HF.o⟩)
end Go.Proofs.YtkfacdofkfabnaaGreatDoor
