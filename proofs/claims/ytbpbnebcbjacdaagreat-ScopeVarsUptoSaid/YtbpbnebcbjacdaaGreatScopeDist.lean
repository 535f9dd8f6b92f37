/-
  distinct.
-/
import Derived.Test.YtbpbnebcbjacdaaGreatScopeCat
namespace Go.Proofs.YtbpbnebcbjacdaaGreat
open Go.RowKit
open Go.ChangeMaps Go.MapKept
open Go.Maps

theorem ListsAt.under {w w' : World} {v : Value} {ls : List (List Tx)} (h : ListsAt w v ls) (hb : Below w.heap.size w w') : ListsAt w' v ls :=
  SliceAt.mono h hb (fun _ _ ⟨x, hx, hs⟩ => ⟨x, hx, hs.under hb⟩)
theorem sh_nil : ∀ p ∈ ([] : List (Tx × Value)), ShS p.2 := fun _ hp => absurd hp (List.not_mem_nil)
set_option maxHeartbeats 4000000 in
set_option maxRecDepth 100000 in
theorem distinct_any {w : World} {A : Option Addr} {c : Nat} {ls : List (List Tx)} (h : ListsAt w (.slice A ls.length c) ls) (hlen : ls.flatten.length ≤ 2097152) :
    Calls Tryz.prog 74 #[.slice A ls.length c] w (BoolPost (recOk [] ls.flatten) w) := by
  have hmm := @run_makeMap Tryz.prog
  have HA := Lib.hid h
  clear h
  go_enter Tryz.func74, Tryz.ntmps74
  have hal := Lib.hid ((Below.refl w.heap.size w).alloc (Nat.le_refl _) (.map #[] 0))
  go_wp2_with (first
    | (go_at_call 94
       (with_reducible refine (concat_any (HA.out.under hal.out) hlen).mono ?_)
       rintro e w1 ⟨v1, rfl, ho, hb⟩
       have hz : w.heap.size + 1 ≤ w1.heap.size := by have := hb.size; simpa using this
       have HM1 := Lib.hid ((MapAt.made w).under hb)
       have HS1 := Lib.hid ho.strs
       have HB1 := Lib.hid (hal.out.trans (hb.mono (by simp)))
       clear ho hb)
    | (go_at_call 94
       (with_reducible refine (concat_any HA.out hlen).mono ?_)
       rintro e w1 ⟨v1, rfl, ho, hb⟩
       have hz := hb.size
       have HM1 := Lib.hid (MapAt.made w1)
       have HS1 := Lib.hid (ho.strs.under ((Below.refl _ w1).alloc (Nat.le_refl _) (.map #[] 0)))
       have HB1 := Lib.hid (hb.trans ((Below.refl _ w1).alloc hz (.map #[] 0)))
       clear ho hb)
    | (go_at_call 43
       (with_reducible refine (recordS_any (l := []) HM1.out sh_nil HS1.out).mono ?_)
       rintro e w7 ⟨he, hk, _⟩
       subst he
       have HF := Lib.hid (HB1.out.trans (hk.below (B := w.heap.size) (by intro b hb; rw [List.mem_singleton] at hb; omega) (by first | omega | (simp; omega))))
       clear hk))
  all_goals (go_ret; exact ⟨rfl, HF.out⟩)
end Go.Proofs.YtbpbnebcbjacdaaGreat
