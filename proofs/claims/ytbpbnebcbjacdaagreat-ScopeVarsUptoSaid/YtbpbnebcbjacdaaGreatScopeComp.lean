/-
  complete.
-/
import Derived.Test.YtbpbnebcbjacdaaGreatScopeNode
namespace Go.Proofs.YtbpbnebcbjacdaaGreat
open Go.RowKit
open Go.ChangeMaps Go.MapKept
open Go.Maps

section
variable {S P e1 c1 n1 t1 f1 v1 : Nat} {nd : Value × Value × Value × Value × Value} {s : SNode}
set_option maxHeartbeats 2000000 in
set_option maxRecDepth 100000 in
theorem complete_any {w : World} (h : NScope w S P e1 c1 n1 t1 f1 v1 nd s) {va : Value} {l : List Tx} (ha : StrsAt w va l) (hne : l ≠ []) : Calls Tryz.prog 121 #[.pointer (some ⟨S, 0, none⟩), va] w (BoolPost (completeQ s l) w) := by
  have HS := Lib.hid h
  have HA := Lib.hid ha
  obtain ⟨lc, hmc, hrc⟩ := h.prog.mc
  have hPl := lt_of_heap h.prog.box
  have hSl := lt_of_heap h.box
  obtain ⟨x0, x1, x2, x3⟩ := h.prog.row
  obtain ⟨y0, y1, y2, y3, y4, y5, y6, y7⟩ := row8 h.box
  obtain ⟨A, ca, rfl, hc, hm, he⟩ := ha
  have hll : l.length ≤ 9223372036854775807 := by unfold maxLen at hm; omega
  obtain ⟨c, r, rfl⟩ := List.exists_cons_of_ne_nil hne
  obtain ⟨L0, hE0, rfl, hcl⟩ := he 0 c rfl
  obtain ⟨a, rfl, hab, _, q0⟩ := elem1 hE0
  simp only [Nat.zero_mul] at q0
  rw [add_zero] at q0
  have hpos : 0 < (c :: r).length := by simp
  cases hg : getA s.prog.cons c with
  | none =>
    have HQ := Lib.hid (show completeQ s (c :: r) = false by simp only [completeQ, hg])
    have hrun := fun (W : World) (hW : Below w.heap.size w W) => (hmc.under hW).look_no Tryz.underlying82 (zeroE W) hcl (by have := getA_none hg; rw [← hrc.1] at this; exact this)
    have HRUN := Lib.hid hrun
    have KEEP := Lib.hid (show ∀ W, Below w.heap.size w W → W.cell? ⟨S, 0, none⟩ = some (.pointer (some ⟨P, 0, none⟩)) ∧ W.cell? ⟨P, 1, none⟩ = some (.map (some c1)) ∧ W.cell? a = some (.string (str c)) ∧ (Instr.lookup 82 (.map (some c1)) (.string (str c)) true).run Tryz.prog W = .ok (.tuple #[.agg #[.string ⟨#[]⟩, .slice none 0 0], .bool false]) W from
      fun W hW => ⟨(hW.cell (p := ⟨S, 0, none⟩) hSl).trans y0, (hW.cell (p := ⟨P, 1, none⟩) hPl).trans x1, (hW.cell (p := a) hab).trans q0, HRUN.out W hW⟩)
    generalize (c :: r).length = nn at *
    clear h hc hm he hE0 hne hg hmc hrc hrun hcl
    go_enter Tryz.func121, Tryz.ntmps121
    go_wp2_with fail
    refine wp_region_held_drew (S := (fun W => W.cell? ⟨S, 0, none⟩ = some (.pointer (some ⟨P, 0, none⟩)) ∧ W.cell? ⟨P, 1, none⟩ = some (.map (some c1)) ∧ W.cell? a = some (.string (str c)) ∧ (Instr.lookup 82 (.map (some c1)) (.string (str c)) true).run Tryz.prog W = .ok (.tuple #[.agg #[.string ⟨#[]⟩, .slice none 0 0], .bool false]) W)) (by kernel_rfl) ?_ (fun hHeld => ?_)
    · exact KEEP.out _ (Below.refl _ _).drew
    refine take_at 0 (v := ?_) rfl (by kernel_rfl) (by kernel_rfl) (by kernel_rfl) (fun _ _ _ h => h) (by rfl) ?_ (by assumption) ?_
    rotate_left
    · intro w hSw; (try dsimp only at hSw); go_simp; (try rw [if_neg (by assumption)]); (try rw [if_pos (by omega)]); (try simp only [hSw]); (try with_reducible rfl)
    try simp only [Act.put, List.setIfInBounds_toArray, List.set_cons_zero, List.set_cons_succ]
    refine take_at 1 (v := ?_) rfl (by kernel_rfl) (by kernel_rfl) (by kernel_rfl) (fun _ _ _ h => h) (by rfl) ?_ (by assumption) ?_
    rotate_left
    · intro w hSw; (try dsimp only at hSw); go_simp; (try rw [if_neg (by assumption)]); (try rw [if_pos (by omega)]); (try simp only [hSw]); (try with_reducible rfl)
    try simp only [Act.put, List.setIfInBounds_toArray, List.set_cons_zero, List.set_cons_succ]
    refine take_at 2 (v := ?_) rfl (by kernel_rfl) (by kernel_rfl) (by kernel_rfl) (fun _ _ _ h => h) (by rfl) ?_ (by assumption) ?_
    rotate_left
    · intro w hSw; (try dsimp only at hSw); go_simp; (try rw [if_neg (by assumption)]); (try rw [if_pos (by omega)]); (try simp only [hSw]); (try with_reducible rfl)
    try simp only [Act.put, List.setIfInBounds_toArray, List.set_cons_zero, List.set_cons_succ]
    refine take_at 3 (v := ?_) rfl (by kernel_rfl) (by kernel_rfl) (by kernel_rfl) (fun _ _ _ h => h) (by rfl) ?_ (by assumption) ?_
    rotate_left
    · intro w hSw; (try dsimp only at hSw); go_simp; (try rw [if_neg (by assumption)]); (try rw [if_pos (by omega)]); (try simp only [hSw]); (try with_reducible rfl)
    try simp only [Act.put, List.setIfInBounds_toArray, List.set_cons_zero, List.set_cons_succ]
    refine take_at 4 (v := ?_) rfl (by kernel_rfl) (by kernel_rfl) (by kernel_rfl) (fun _ _ _ h => h) (by rfl) ?_ (by assumption) ?_
    rotate_left
    · intro w hSw; (try dsimp only at hSw); go_simp; (try rw [if_neg (by assumption)]); (try rw [if_pos (by omega)]); (try simp only [hSw]); (try with_reducible rfl)
    try simp only [Act.put, List.setIfInBounds_toArray, List.set_cons_zero, List.set_cons_succ]
    refine take_at 5 (v := ?_) rfl (by kernel_rfl) (by kernel_rfl) (by kernel_rfl) (fun _ _ _ h => h) (by rfl) ?_ (by assumption) ?_
    rotate_left
    · intro w hSw; (try dsimp only at hSw); go_simp; (try rw [if_neg (by assumption)]); (try rw [if_pos (by omega)]); (try simp only [hSw]); (try with_reducible rfl)
    try simp only [Act.put, List.setIfInBounds_toArray, List.set_cons_zero, List.set_cons_succ]
    refine take_at 6 (v := ?_) rfl (by kernel_rfl) (by kernel_rfl) (by kernel_rfl) (fun _ _ _ h => h) (by rfl) ?_ (by assumption) ?_
    rotate_left
    · intro w hSw; (try dsimp only at hSw); go_simp; (try rw [if_neg (by assumption)]); (try rw [if_pos (by omega)]); (try simp only [hSw]); (try with_reducible rfl)
    try simp only [Act.put, List.setIfInBounds_toArray, List.set_cons_zero, List.set_cons_succ]
    refine take_at 7 (v := ?_) rfl (by kernel_rfl) (by kernel_rfl) (by kernel_rfl) (fun _ _ _ h => h) (by rfl) ?_ (by assumption) ?_
    rotate_left
    · intro w hSw; (try dsimp only at hSw); go_simp; (try rw [if_neg (by assumption)]); (try rw [if_pos (by omega)]); (try simp only [hSw]); (try with_reducible rfl)
    try simp only [Act.put, List.setIfInBounds_toArray, List.set_cons_zero, List.set_cons_succ]
    refine take_at 8 (v := ?_) rfl (by kernel_rfl) (by kernel_rfl) (by kernel_rfl) (fun _ _ _ h => h) (by rfl) ?_ (by assumption) ?_
    rotate_left
    · intro w hSw; (try dsimp only at hSw); go_simp; (try rw [if_neg (by assumption)]); (try rw [if_pos (by omega)]); (try simp only [hSw]); (try with_reducible rfl)
    try simp only [Act.put, List.setIfInBounds_toArray, List.set_cons_zero, List.set_cons_succ]
    refine take_at 9 (v := ?_) rfl (by kernel_rfl) (by kernel_rfl) (by kernel_rfl) (fun _ _ _ h => h) (by rfl) ?_ (by assumption) ?_
    rotate_left
    · intro w hSw; (try dsimp only at hSw); go_simp; (try rw [if_neg (by assumption)]); (try rw [if_pos (by omega)]); (try simp only [hSw]); (try with_reducible rfl)
    try simp only [Act.put, List.setIfInBounds_toArray, List.set_cons_zero, List.set_cons_succ]
    refine take_at 10 (v := ?_) rfl (by kernel_rfl) (by kernel_rfl) (by kernel_rfl) (fun _ _ _ h => h) (by rfl) ?_ (by assumption) ?_
    rotate_left
    · intro w hSw; (try dsimp only at hSw); go_simp; (try rw [if_neg (by assumption)]); (try rw [if_pos (by omega)]); (try simp only [hSw]); (try with_reducible rfl)
    try simp only [Act.put, List.setIfInBounds_toArray, List.set_cons_zero, List.set_cons_succ]
    refine take_at 11 (v := ?_) rfl (by kernel_rfl) (by kernel_rfl) (by kernel_rfl) (fun _ _ _ h => h) (by rfl) ?_ (by assumption) ?_
    rotate_left
    · intro w hSw; (try dsimp only at hSw); go_simp; (try rw [if_neg (by assumption)]); (try rw [if_pos (by omega)]); (try simp only [hSw]); (try with_reducible rfl)
    try simp only [Act.put, List.setIfInBounds_toArray, List.set_cons_zero, List.set_cons_succ]
    refine take_at 12 (v := ?_) rfl (by kernel_rfl) (by kernel_rfl) (by kernel_rfl) (fun _ _ _ h => h) (by rfl) ?_ (by assumption) ?_
    rotate_left
    · intro w hSw; (try dsimp only at hSw); go_simp; (try rw [if_neg (by assumption)]); (try rw [if_pos (by omega)]); (try simp only [hSw]); (try with_reducible rfl)
    try simp only [Act.put, List.setIfInBounds_toArray, List.set_cons_zero, List.set_cons_succ]
    refine take_at 13 (v := ?_) rfl (by kernel_rfl) (by kernel_rfl) (by kernel_rfl) (fun _ _ _ h => h) (by rfl) ?_ (by assumption) ?_
    rotate_left
    · intro w hSw; (try dsimp only at hSw); go_simp; (try rw [if_neg (by assumption)]); (try rw [if_pos (by omega)]); (try simp only [hSw]); (try with_reducible rfl)
    try simp only [Act.put, List.setIfInBounds_toArray, List.set_cons_zero, List.set_cons_succ]
    refine only_at 14 (by kernel_rfl) rfl (fun K hK => ?_)
    go_simp
    refine hK.out _ _ (KEEP.out _ ?_) (fun hHeld => ?_)
    · (repeat (first | exact Below.refl _ _ | exact Below.refl _ _ | refine Below.drew ?_ | refine Below.alloc ?_ (by simp) _ | refine Below.setCell ?_ (by simp) _))
    clear hK K
    try simp only [Act.put, List.setIfInBounds_toArray, List.set_cons_zero, List.set_cons_succ]
    refine only_at 15 (by kernel_rfl) rfl (fun K hK => ?_)
    go_simp
    refine hK.out _ _ (KEEP.out _ ?_) (fun hHeld => ?_)
    · (repeat (first | exact Below.refl _ _ | exact Below.refl _ _ | refine Below.drew ?_ | refine Below.alloc ?_ (by simp) _ | refine Below.setCell ?_ (by simp) _))
    clear hK K
    try simp only [Act.put, List.setIfInBounds_toArray, List.set_cons_zero, List.set_cons_succ]
    refine take_at 16 (v := ?_) rfl (by kernel_rfl) (by kernel_rfl) (by kernel_rfl) (fun _ _ _ h => h) (by rfl) ?_ (by assumption) ?_
    rotate_left
    · intro w hSw; (try dsimp only at hSw); go_simp; (try rw [if_neg (by assumption)]); (try rw [if_pos (by omega)]); (try simp only [hSw]); (try with_reducible rfl)
    try simp only [Act.put, List.setIfInBounds_toArray, List.set_cons_zero, List.set_cons_succ]
    refine wpAnyH_done (by kernel_rfl) ?_ _
    go_wp2_with fail
    go_ret
    exact ⟨ret_bool HQ.out.symm, ((Below.refl _ w).alloc (Nat.le_refl _) _).drew⟩
  | some cs =>
    have HQ := Lib.hid (show completeQ s (c :: r) = ((c :: r) == cs) by simp only [completeQ, hg])
    obtain ⟨v, hv, sE, AE, mE, jE, rfl, hse⟩ := hrc.find hg
    have HEQ := Lib.hid (equalS_any HA.out hse)
    have hrun := fun (W : World) (hW : Below w.heap.size w W) => (hmc.under hW).look_yes Tryz.underlying82 hv
    have HRUN := Lib.hid hrun
    have KEEP := Lib.hid (show ∀ W, Below w.heap.size w W → W.cell? ⟨S, 0, none⟩ = some (.pointer (some ⟨P, 0, none⟩)) ∧ W.cell? ⟨P, 1, none⟩ = some (.map (some c1)) ∧ W.cell? a = some (.string (str c)) ∧ (Instr.lookup 82 (.map (some c1)) (.string (str c)) true).run Tryz.prog W = .ok (.tuple #[.agg #[.string sE, .slice AE mE jE], .bool true]) W from
      fun W hW => ⟨(hW.cell (p := ⟨S, 0, none⟩) hSl).trans y0, (hW.cell (p := ⟨P, 1, none⟩) hPl).trans x1, (hW.cell (p := a) hab).trans q0, HRUN.out W hW⟩)
    generalize (c :: r).length = nn at *
    clear h hc hm he hE0 hne hg hmc hrc hrun hcl hv hse
    go_enter Tryz.func121, Tryz.ntmps121
    go_wp2_with fail
    refine wp_region_held_drew (S := (fun W => W.cell? ⟨S, 0, none⟩ = some (.pointer (some ⟨P, 0, none⟩)) ∧ W.cell? ⟨P, 1, none⟩ = some (.map (some c1)) ∧ W.cell? a = some (.string (str c)) ∧ (Instr.lookup 82 (.map (some c1)) (.string (str c)) true).run Tryz.prog W = .ok (.tuple #[.agg #[.string sE, .slice AE mE jE], .bool true]) W)) (by kernel_rfl) ?_ (fun hHeld => ?_)
    · exact KEEP.out _ (Below.refl _ _).drew
    refine take_at 0 (v := ?_) rfl (by kernel_rfl) (by kernel_rfl) (by kernel_rfl) (fun _ _ _ h => h) (by rfl) ?_ (by assumption) ?_
    rotate_left
    · intro w hSw; (try dsimp only at hSw); go_simp; (try rw [if_neg (by assumption)]); (try rw [if_pos (by omega)]); (try simp only [hSw]); (try with_reducible rfl)
    try simp only [Act.put, List.setIfInBounds_toArray, List.set_cons_zero, List.set_cons_succ]
    refine take_at 1 (v := ?_) rfl (by kernel_rfl) (by kernel_rfl) (by kernel_rfl) (fun _ _ _ h => h) (by rfl) ?_ (by assumption) ?_
    rotate_left
    · intro w hSw; (try dsimp only at hSw); go_simp; (try rw [if_neg (by assumption)]); (try rw [if_pos (by omega)]); (try simp only [hSw]); (try with_reducible rfl)
    try simp only [Act.put, List.setIfInBounds_toArray, List.set_cons_zero, List.set_cons_succ]
    refine take_at 2 (v := ?_) rfl (by kernel_rfl) (by kernel_rfl) (by kernel_rfl) (fun _ _ _ h => h) (by rfl) ?_ (by assumption) ?_
    rotate_left
    · intro w hSw; (try dsimp only at hSw); go_simp; (try rw [if_neg (by assumption)]); (try rw [if_pos (by omega)]); (try simp only [hSw]); (try with_reducible rfl)
    try simp only [Act.put, List.setIfInBounds_toArray, List.set_cons_zero, List.set_cons_succ]
    refine take_at 3 (v := ?_) rfl (by kernel_rfl) (by kernel_rfl) (by kernel_rfl) (fun _ _ _ h => h) (by rfl) ?_ (by assumption) ?_
    rotate_left
    · intro w hSw; (try dsimp only at hSw); go_simp; (try rw [if_neg (by assumption)]); (try rw [if_pos (by omega)]); (try simp only [hSw]); (try with_reducible rfl)
    try simp only [Act.put, List.setIfInBounds_toArray, List.set_cons_zero, List.set_cons_succ]
    refine take_at 4 (v := ?_) rfl (by kernel_rfl) (by kernel_rfl) (by kernel_rfl) (fun _ _ _ h => h) (by rfl) ?_ (by assumption) ?_
    rotate_left
    · intro w hSw; (try dsimp only at hSw); go_simp; (try rw [if_neg (by assumption)]); (try rw [if_pos (by omega)]); (try simp only [hSw]); (try with_reducible rfl)
    try simp only [Act.put, List.setIfInBounds_toArray, List.set_cons_zero, List.set_cons_succ]
    refine take_at 5 (v := ?_) rfl (by kernel_rfl) (by kernel_rfl) (by kernel_rfl) (fun _ _ _ h => h) (by rfl) ?_ (by assumption) ?_
    rotate_left
    · intro w hSw; (try dsimp only at hSw); go_simp; (try rw [if_neg (by assumption)]); (try rw [if_pos (by omega)]); (try simp only [hSw]); (try with_reducible rfl)
    try simp only [Act.put, List.setIfInBounds_toArray, List.set_cons_zero, List.set_cons_succ]
    refine take_at 6 (v := ?_) rfl (by kernel_rfl) (by kernel_rfl) (by kernel_rfl) (fun _ _ _ h => h) (by rfl) ?_ (by assumption) ?_
    rotate_left
    · intro w hSw; (try dsimp only at hSw); go_simp; (try rw [if_neg (by assumption)]); (try rw [if_pos (by omega)]); (try simp only [hSw]); (try with_reducible rfl)
    try simp only [Act.put, List.setIfInBounds_toArray, List.set_cons_zero, List.set_cons_succ]
    refine take_at 7 (v := ?_) rfl (by kernel_rfl) (by kernel_rfl) (by kernel_rfl) (fun _ _ _ h => h) (by rfl) ?_ (by assumption) ?_
    rotate_left
    · intro w hSw; (try dsimp only at hSw); go_simp; (try rw [if_neg (by assumption)]); (try rw [if_pos (by omega)]); (try simp only [hSw]); (try with_reducible rfl)
    try simp only [Act.put, List.setIfInBounds_toArray, List.set_cons_zero, List.set_cons_succ]
    refine take_at 8 (v := ?_) rfl (by kernel_rfl) (by kernel_rfl) (by kernel_rfl) (fun _ _ _ h => h) (by rfl) ?_ (by assumption) ?_
    rotate_left
    · intro w hSw; (try dsimp only at hSw); go_simp; (try rw [if_neg (by assumption)]); (try rw [if_pos (by omega)]); (try simp only [hSw]); (try with_reducible rfl)
    try simp only [Act.put, List.setIfInBounds_toArray, List.set_cons_zero, List.set_cons_succ]
    refine take_at 9 (v := ?_) rfl (by kernel_rfl) (by kernel_rfl) (by kernel_rfl) (fun _ _ _ h => h) (by rfl) ?_ (by assumption) ?_
    rotate_left
    · intro w hSw; (try dsimp only at hSw); go_simp; (try rw [if_neg (by assumption)]); (try rw [if_pos (by omega)]); (try simp only [hSw]); (try with_reducible rfl)
    try simp only [Act.put, List.setIfInBounds_toArray, List.set_cons_zero, List.set_cons_succ]
    refine take_at 10 (v := ?_) rfl (by kernel_rfl) (by kernel_rfl) (by kernel_rfl) (fun _ _ _ h => h) (by rfl) ?_ (by assumption) ?_
    rotate_left
    · intro w hSw; (try dsimp only at hSw); go_simp; (try rw [if_neg (by assumption)]); (try rw [if_pos (by omega)]); (try simp only [hSw]); (try with_reducible rfl)
    try simp only [Act.put, List.setIfInBounds_toArray, List.set_cons_zero, List.set_cons_succ]
    refine take_at 11 (v := ?_) rfl (by kernel_rfl) (by kernel_rfl) (by kernel_rfl) (fun _ _ _ h => h) (by rfl) ?_ (by assumption) ?_
    rotate_left
    · intro w hSw; (try dsimp only at hSw); go_simp; (try rw [if_neg (by assumption)]); (try rw [if_pos (by omega)]); (try simp only [hSw]); (try with_reducible rfl)
    try simp only [Act.put, List.setIfInBounds_toArray, List.set_cons_zero, List.set_cons_succ]
    refine take_at 12 (v := ?_) rfl (by kernel_rfl) (by kernel_rfl) (by kernel_rfl) (fun _ _ _ h => h) (by rfl) ?_ (by assumption) ?_
    rotate_left
    · intro w hSw; (try dsimp only at hSw); go_simp; (try rw [if_neg (by assumption)]); (try rw [if_pos (by omega)]); (try simp only [hSw]); (try with_reducible rfl)
    try simp only [Act.put, List.setIfInBounds_toArray, List.set_cons_zero, List.set_cons_succ]
    refine take_at 13 (v := ?_) rfl (by kernel_rfl) (by kernel_rfl) (by kernel_rfl) (fun _ _ _ h => h) (by rfl) ?_ (by assumption) ?_
    rotate_left
    · intro w hSw; (try dsimp only at hSw); go_simp; (try rw [if_neg (by assumption)]); (try rw [if_pos (by omega)]); (try simp only [hSw]); (try with_reducible rfl)
    try simp only [Act.put, List.setIfInBounds_toArray, List.set_cons_zero, List.set_cons_succ]
    refine only_at 14 (by kernel_rfl) rfl (fun K hK => ?_)
    go_simp
    refine hK.out _ _ (KEEP.out _ ?_) (fun hHeld => ?_)
    · (repeat (first | exact Below.refl _ _ | exact Below.refl _ _ | refine Below.drew ?_ | refine Below.alloc ?_ (by simp) _ | refine Below.setCell ?_ (by simp) _))
    clear hK K
    try simp only [Act.put, List.setIfInBounds_toArray, List.set_cons_zero, List.set_cons_succ]
    refine only_at 15 (by kernel_rfl) rfl (fun K hK => ?_)
    go_simp
    refine hK.out _ _ (KEEP.out _ ?_) (fun hHeld => ?_)
    · (repeat (first | exact Below.refl _ _ | exact Below.refl _ _ | refine Below.drew ?_ | refine Below.alloc ?_ (by simp) _ | refine Below.setCell ?_ (by simp) _))
    clear hK K
    try simp only [Act.put, List.setIfInBounds_toArray, List.set_cons_zero, List.set_cons_succ]
    refine take_at 16 (v := ?_) rfl (by kernel_rfl) (by kernel_rfl) (by kernel_rfl) (fun _ _ _ h => h) (by rfl) ?_ (by assumption) ?_
    rotate_left
    · intro w hSw; (try dsimp only at hSw); go_simp; (try rw [if_neg (by assumption)]); (try rw [if_pos (by omega)]); (try simp only [hSw]); (try with_reducible rfl)
    try simp only [Act.put, List.setIfInBounds_toArray, List.set_cons_zero, List.set_cons_succ]
    refine wpAnyH_done (by kernel_rfl) ?_ _
    go_wp2_with (go_at_call 128
                 have hal : Below w.heap.size w (w.alloc (.cells #[.string sE, .slice AE mE jE] 46)).drew := ((Below.refl _ w).alloc (Nat.le_refl _) _).drew
                 (with_reducible refine (HEQ.out _ hal).mono ?_)
                 rintro e w7 ⟨rfl, hb7⟩
                 have HB := Lib.hid (hal.trans (hb7.mono hal.size))
                 clear hal hb7)
    go_ret
    exact ⟨ret_bool HQ.out.symm, HB.out⟩
end
end Go.Proofs.YtbpbnebcbjacdaaGreat
