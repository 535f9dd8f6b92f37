/-
  The scope of a node in memory; passable, complete.
  complete.
-/
import Derived.Test.YtbpbnebcbjacdaaGreatScopeEnum
namespace Go.Proofs.YtbpbnebcbjacdaaGreat
open Go.RowKit
open Go.ChangeMaps Go.MapKept
open Go.Maps

theorem row8 {w : World} {N : Nat} {T0 : TypeId} {v0 v1 v2 v3 v4 v5 v6 v7 : Value} (h : w.heap[N]? = some (.cells #[v0, v1, v2, v3, v4, v5, v6, v7] T0 (0, 0))) :
    w.cell? ⟨N, 0, none⟩ = some v0 ∧ w.cell? ⟨N, 1, none⟩ = some v1 ∧ w.cell? ⟨N, 2, none⟩ = some v2 ∧ w.cell? ⟨N, 3, none⟩ = some v3 ∧ w.cell? ⟨N, 4, none⟩ = some v4 ∧ w.cell? ⟨N, 5, none⟩ = some v5 ∧ w.cell? ⟨N, 6, none⟩ = some v6 ∧ w.cell? ⟨N, 7, none⟩ = some v7 := by simp [World.cell?, h]
theorem getA_some {X : Type} {l : List (Tx × X)} {s : Tx} {x : X} (h : getA l s = some x) : ∃ i : Nat, l[i]? = some (s, x) := by
  unfold getA at h
  cases hf : l.find? (fun p => p.1 == s) with
  | none => rw [hf] at h; cases h
  | some p =>
    rw [hf] at h
    cases h
    have h1 := List.find?_some hf
    obtain ⟨i, hi⟩ := List.getElem?_of_mem (List.mem_of_find?_eq_some hf)
    obtain ⟨a, b⟩ := p
    simp only [beq_iff_eq] at h1
    subst h1
    exact ⟨i, hi⟩
theorem getA_none {X : Type} {l : List (Tx × X)} {s : Tx} (h : getA l s = none) : s ∉ l.map Prod.fst := by
  unfold getA at h
  rw [Option.map_eq_none_iff, List.find?_eq_none] at h
  intro hm
  obtain ⟨p, hp, rfl⟩ := List.mem_map.1 hm
  exact h p hp (by simp)
theorem pair_at {X Y : Type} {l : List (Tx × X)} {m : List (Tx × Y)} (h : l.map Prod.fst = m.map Prod.fst) {i : Nat} {s : Tx} {y : Y} (hi : m[i]? = some (s, y)) : ∃ x, l[i]? = some (s, x) := by
  have h1 : (l.map Prod.fst)[i]? = some s := by rw [h, List.getElem?_map, hi]; rfl
  rw [List.getElem?_map] at h1
  cases hl : l[i]? with
  | none => rw [hl] at h1; cases h1
  | some p =>
    rw [hl] at h1
    obtain ⟨a, b⟩ := p
    cases h1
    exact ⟨b, rfl⟩
theorem NodesR.find {l : List (Tx × Value)} {ns : List (Tx × QNode)} (h : NodesR l ns) {s : Tx} {q : QNode} (hg : getA ns s = some q) : ∃ v, (s, v) ∈ l ∧ NodeV v q := by
  obtain ⟨i, hi⟩ := getA_some hg
  obtain ⟨v, hv⟩ := pair_at h.1 hi
  exact ⟨v, List.mem_of_getElem? hv, h.2 i _ _ hv hi⟩
theorem ConsR.find {w : World} {l : List (Tx × Value)} {cs : List (Tx × List Tx)} (h : ConsR w l cs) {s : Tx} {q : List Tx} (hg : getA cs s = some q) : ∃ v, (s, v) ∈ l ∧ EnumV w v q := by
  obtain ⟨i, hi⟩ := getA_some hg
  obtain ⟨v, hv⟩ := pair_at h.1 hi
  exact ⟨v, List.mem_of_getElem? hv, h.2 i _ _ hv hi⟩
/-- the scope of a node: block S, over that of the program; its maps f and v -/
structure NScope (w : World) (S P e c n t f v : Nat) (nd : Value × Value × Value × Value × Value) (s : SNode) : Prop where
  prog : ScopeAt w P e c n t s.prog
  box : w.heap[S]? = some (.cells #[.pointer (some ⟨P, 0, none⟩), nd.1, nd.2.1, nd.2.2.1, nd.2.2.2.1, nd.2.2.2.2, .map (some f), .map (some v)] 92 (0, 0))
  mf : MapAt w f (withV unitV s.funs)
  mv : ∃ l, MapAt w v l ∧ keysOf l = s.vars ∧ ∀ p ∈ l, ShI p.2
  nf : f ≠ e ∧ f ≠ c ∧ f ≠ n ∧ f ≠ t
  nv : v ≠ e ∧ v ≠ c ∧ v ≠ n ∧ v ≠ t ∧ v ≠ f
theorem NScope.under {w w' : World} {S P e c n t f v : Nat} {nd : Value × Value × Value × Value × Value} {s : SNode} (h : NScope w S P e c n t f v nd s) (hb : Below w.heap.size w w') : NScope w' S P e c n t f v nd s := by
  obtain ⟨l, h1, h2, h3⟩ := h.mv
  exact ⟨h.prog.under hb, box_next hb h.box, h.mf.under hb, ⟨l, h1.under hb, h2, h3⟩, h.nf, h.nv⟩
section
variable {S P e1 c1 n1 t1 f1 v1 : Nat} {nd : Value × Value × Value × Value × Value} {s : SNode}
set_option maxHeartbeats 2000000 in
set_option maxRecDepth 100000 in
theorem passable_any {w : World} (h : NScope w S P e1 c1 n1 t1 f1 v1 nd s) {x : Tx} (hl : x.length ≤ maxLen) : Calls Tryz.prog 135 #[.pointer (some ⟨S, 0, none⟩), .string (str x)] w (BoolPost (passQ s x) w) := by
  have HS := Lib.hid h
  have HL := Lib.hid hl
  obtain ⟨ln, hmn, hrn⟩ := h.prog.mn
  have hPl := lt_of_heap h.prog.box
  have hSl := lt_of_heap h.box
  have HMN := Lib.hid hmn
  cases hg : getA s.prog.nodes x with
  | none =>
    have hrun := hmn.look_no Tryz.underlying83 (zeroN w) hl (by have := getA_none hg; rw [← hrn.1] at this; exact this)
    have HQ := Lib.hid (show passQ s x = s.funs.contains x by rw [passQ, hg]; simp)
    obtain ⟨x0, x1, x2, x3⟩ := h.prog.row
    obtain ⟨y0, y1, y2, y3, y4, y5, y6, y7⟩ := row8 h.box
    clear h hl hg hmn hrn
    cases hc : s.funs.contains x
    · have HC := Lib.hid hc
      clear hc
      go_enter Tryz.func135, Tryz.ntmps135
      go_wp2_with (go_at_call 71
                   have hal : Below w.heap.size w (w.alloc (.cells #[.string ⟨#[]⟩, .slice none 0 0, .slice none 0 0, .slice none 0 0, .slice none 0 0] 41)) := (Below.refl _ w).alloc (Nat.le_refl _) _
                   (with_reducible refine (knownS_any (HS.out.under hal).mf (sh_unit _) HL.out).mono ?_)
                   rintro e w7 ⟨he, hb7⟩
                   rw [keys_unit, HC.out] at he
                   subst he
                   have HB := Lib.hid (hal.trans (hb7.mono hal.size))
                   clear hal hb7)
      go_ret
      exact ⟨ret_bool (by rw [HQ.out, HC.out]), HB.out⟩
    · have HC := Lib.hid hc
      clear hc
      go_enter Tryz.func135, Tryz.ntmps135
      go_wp2_with (go_at_call 71
                   have hal : Below w.heap.size w (w.alloc (.cells #[.string ⟨#[]⟩, .slice none 0 0, .slice none 0 0, .slice none 0 0, .slice none 0 0] 41)) := (Below.refl _ w).alloc (Nat.le_refl _) _
                   (with_reducible refine (knownS_any (HS.out.under hal).mf (sh_unit _) HL.out).mono ?_)
                   rintro e w7 ⟨he, hb7⟩
                   rw [keys_unit, HC.out] at he
                   subst he
                   obtain ⟨z0, z1, z2, z3, z4⟩ := row5 (box_next hb7 (heap_alloc_new w (.cells #[.string ⟨#[]⟩, .slice none 0 0, .slice none 0 0, .slice none 0 0, .slice none 0 0] 41)))
                   have HB := Lib.hid (hal.trans (hb7.mono hal.size))
                   clear hal hb7)
      go_ret
      exact ⟨ret_bool (by rw [HQ.out, HC.out]), HB.out⟩
  | some q =>
    obtain ⟨v, hv, sN, A1, c1', A2, c2', A3, c3', A4, m4, c4', rfl⟩ := hrn.find hg
    have hrun := hmn.look_yes Tryz.underlying83 hv
    have HQ := Lib.hid (show passQ s x = (s.funs.contains x || q.funs.isEmpty) by rw [passQ, hg])
    obtain ⟨x0, x1, x2, x3⟩ := h.prog.row
    obtain ⟨y0, y1, y2, y3, y4, y5, y6, y7⟩ := row8 h.box
    clear h hl hg hmn hrn hv
    cases hc : s.funs.contains x
    · have HC := Lib.hid hc
      clear hc
      cases hq : q.funs with
      | nil =>
        have HE := Lib.hid (show q.funs.isEmpty = true by rw [hq]; rfl)
        have hd : ((q.funs.length : Int) == 0) = true := by rw [hq]; rfl
        clear hq
        go_enter Tryz.func135, Tryz.ntmps135
        go_wp2_with (go_at_call 71
                     have hal : Below w.heap.size w (w.alloc (.cells #[.string sN, .slice A1 q.funs.length c1', .slice A2 q.ins.length c2', .slice A3 q.outs.length c3', .slice A4 m4 c4'] 41)) := (Below.refl _ w).alloc (Nat.le_refl _) _
                     (with_reducible refine (knownS_any (HS.out.under hal).mf (sh_unit _) HL.out).mono ?_)
                     rintro e w7 ⟨he, hb7⟩
                     rw [keys_unit, HC.out] at he
                     subst he
                     obtain ⟨z0, z1, z2, z3, z4⟩ := row5 (box_next hb7 (heap_alloc_new w (.cells #[.string sN, .slice A1 q.funs.length c1', .slice A2 q.ins.length c2', .slice A3 q.outs.length c3', .slice A4 m4 c4'] 41)))
                     have HB := Lib.hid (hal.trans (hb7.mono hal.size))
                     clear hal hb7)
        go_ret
        exact ⟨ret_bool (by rw [HQ.out, HC.out, HE.out]; rfl), HB.out⟩
      | cons a b =>
        have HE := Lib.hid (show q.funs.isEmpty = false by rw [hq]; rfl)
        have hd : ((q.funs.length : Int) == 0) = false := by rw [hq]; simp; omega
        clear hq
        go_enter Tryz.func135, Tryz.ntmps135
        go_wp2_with (go_at_call 71
                     have hal : Below w.heap.size w (w.alloc (.cells #[.string sN, .slice A1 q.funs.length c1', .slice A2 q.ins.length c2', .slice A3 q.outs.length c3', .slice A4 m4 c4'] 41)) := (Below.refl _ w).alloc (Nat.le_refl _) _
                     (with_reducible refine (knownS_any (HS.out.under hal).mf (sh_unit _) HL.out).mono ?_)
                     rintro e w7 ⟨he, hb7⟩
                     rw [keys_unit, HC.out] at he
                     subst he
                     obtain ⟨z0, z1, z2, z3, z4⟩ := row5 (box_next hb7 (heap_alloc_new w (.cells #[.string sN, .slice A1 q.funs.length c1', .slice A2 q.ins.length c2', .slice A3 q.outs.length c3', .slice A4 m4 c4'] 41)))
                     have HB := Lib.hid (hal.trans (hb7.mono hal.size))
                     clear hal hb7)
        go_ret
        exact ⟨ret_bool (by rw [HQ.out, HC.out, HE.out]; rfl), HB.out⟩
    · have HC := Lib.hid hc
      clear hc
      go_enter Tryz.func135, Tryz.ntmps135
      go_wp2_with (go_at_call 71
                   have hal : Below w.heap.size w (w.alloc (.cells #[.string sN, .slice A1 q.funs.length c1', .slice A2 q.ins.length c2', .slice A3 q.outs.length c3', .slice A4 m4 c4'] 41)) := (Below.refl _ w).alloc (Nat.le_refl _) _
                   (with_reducible refine (knownS_any (HS.out.under hal).mf (sh_unit _) HL.out).mono ?_)
                   rintro e w7 ⟨he, hb7⟩
                   rw [keys_unit, HC.out] at he
                   subst he
                   obtain ⟨z0, z1, z2, z3, z4⟩ := row5 (box_next hb7 (heap_alloc_new w (.cells #[.string sN, .slice A1 q.funs.length c1', .slice A2 q.ins.length c2', .slice A3 q.outs.length c3', .slice A4 m4 c4'] 41)))
                   have HB := Lib.hid (hal.trans (hb7.mono hal.size))
                   clear hal hb7)
      go_ret
      exact ⟨ret_bool (by rw [HQ.out, HC.out]; rfl), HB.out⟩
end
end Go.Proofs.YtbpbnebcbjacdaaGreat
namespace Go.Proofs.YtbpbnebcbjacdaaGreat
open Go.RowKit
open Go.ChangeMaps Go.MapKept
open Go.Maps

section
variable {S P e1 c1 n1 t1 f1 v1 : Nat} {nd : Value × Value × Value × Value × Value} {s : SNode}
set_option maxHeartbeats 2000000 in
set_option maxRecDepth 100000 in
theorem complete_any {w : World} (h : NScope w S P e1 c1 n1 t1 f1 v1 nd s) {va : Value} {l : List Tx} (ha : StrsAt w va l) (hne : l ≠ []) : Calls Tryz.prog 121 #[.pointer (some ⟨S, 0, none⟩), va] w (BoolPost (completeQ s l) w) := by
  have HS := Lib.hid h
  have HA := Lib.hid ha
  obtain ⟨lc, hmc, hrc⟩ := h.prog.mc
  have hPl := lt_of_heap h.prog.box
  have hSl := lt_of_heap h.box
  obtain ⟨x0, x1, x2, x3⟩ := h.prog.row
  obtain ⟨y0, y1, y2, y3, y4, y5, y6, y7⟩ := row8 h.box
  obtain ⟨A, ca, rfl, hc, hm, he⟩ := ha
  have hll : l.length ≤ 9223372036854775807 := by unfold maxLen at hm; omega
  obtain ⟨c, r, rfl⟩ := List.exists_cons_of_ne_nil hne
  obtain ⟨L0, hE0, rfl, hcl⟩ := he 0 c rfl
  obtain ⟨a, rfl, hab, _, q0⟩ := elem1 hE0
  simp only [Nat.zero_mul] at q0
  rw [add_zero] at q0
  have hpos : 0 < (c :: r).length := by simp
  cases hg : getA s.prog.cons c with
  | none =>
    have HQ := Lib.hid (show completeQ s (c :: r) = false by simp only [completeQ, hg])
    have hrun := fun (W : World) (hW : Below w.heap.size w W) => (hmc.under hW).look_no Tryz.underlying82 (zeroE W) hcl (by have := getA_none hg; rw [← hrc.1] at this; exact this)
    have HRUN := Lib.hid hrun
    have KEEP := Lib.hid (show ∀ W, Below w.heap.size w W → W.cell? ⟨S, 0, none⟩ = some (.pointer (some ⟨P, 0, none⟩)) ∧ W.cell? ⟨P, 1, none⟩ = some (.map (some c1)) ∧ W.cell? a = some (.string (str c)) ∧ (Instr.lookup 82 (.map (some c1)) (.string (str c)) true).run Tryz.prog W = .ok (.tuple #[.agg #[.string ⟨#[]⟩, .slice none 0 0], .bool false]) W from
      fun W hW => ⟨(hW.cell (p := ⟨S, 0, none⟩) hSl).trans y0, (hW.cell (p := ⟨P, 1, none⟩) hPl).trans x1, (hW.cell (p := a) hab).trans q0, HRUN.out W hW⟩)
    generalize (c :: r).length = nn at *
    clear h hc hm he hE0 hne hg hmc hrc hrun hcl
    go_enter Tryz.func121, Tryz.ntmps121
    go_wp2_with fail
    refine wp_region_held_drew (S := (fun W => W.cell? ⟨S, 0, none⟩ = some (.pointer (some ⟨P, 0, none⟩)) ∧ W.cell? ⟨P, 1, none⟩ = some (.map (some c1)) ∧ W.cell? a = some (.string (str c)) ∧ (Instr.lookup 82 (.map (some c1)) (.string (str c)) true).run Tryz.prog W = .ok (.tuple #[.agg #[.string ⟨#[]⟩, .slice none 0 0], .bool false]) W)) (by kernel_rfl) ?_ (fun hHeld => ?_)
    · exact KEEP.out _ (Below.refl _ _).drew
    refine take_at 0 (v := ?_) rfl (by kernel_rfl) (by kernel_rfl) (by kernel_rfl) (fun _ _ _ h => h) (by rfl) ?_ (by assumption) ?_
    rotate_left
    · intro w hSw; (try dsimp only at hSw); go_simp; (try rw [if_neg (by assumption)]); (try rw [if_pos (by omega)]); (try simp only [hSw]); (try with_reducible rfl)
    try simp only [Act.put, List.setIfInBounds_toArray, List.set_cons_zero, List.set_cons_succ]
    refine take_at 1 (v := ?_) rfl (by kernel_rfl) (by kernel_rfl) (by kernel_rfl) (fun _ _ _ h => h) (by rfl) ?_ (by assumption) ?_
    rotate_left
    · intro w hSw; (try dsimp only at hSw); go_simp; (try rw [if_neg (by assumption)]); (try rw [if_pos (by omega)]); (try simp only [hSw]); (try with_reducible rfl)
    try simp only [Act.put, List.setIfInBounds_toArray, List.set_cons_zero, List.set_cons_succ]
    refine take_at 2 (v := ?_) rfl (by kernel_rfl) (by kernel_rfl) (by kernel_rfl) (fun _ _ _ h => h) (by rfl) ?_ (by assumption) ?_
    rotate_left
    · intro w hSw; (try dsimp only at hSw); go_simp; (try rw [if_neg (by assumption)]); (try rw [if_pos (by omega)]); (try simp only [hSw]); (try with_reducible rfl)
    try simp only [Act.put, List.setIfInBounds_toArray, List.set_cons_zero, List.set_cons_succ]
    refine take_at 3 (v := ?_) rfl (by kernel_rfl) (by kernel_rfl) (by kernel_rfl) (fun _ _ _ h => h) (by rfl) ?_ (by assumption) ?_
    rotate_left
    · intro w hSw; (try dsimp only at hSw); go_simp; (try rw [if_neg (by assumption)]); (try rw [if_pos (by omega)]); (try simp only [hSw]); (try with_reducible rfl)
    try simp only [Act.put, List.setIfInBounds_toArray, List.set_cons_zero, List.set_cons_succ]
    refine take_at 4 (v := ?_) rfl (by kernel_rfl) (by kernel_rfl) (by kernel_rfl) (fun _ _ _ h => h) (by rfl) ?_ (by assumption) ?_
    rotate_left
    · intro w hSw; (try dsimp only at hSw); go_simp; (try rw [if_neg (by assumption)]); (try rw [if_pos (by omega)]); (try simp only [hSw]); (try with_reducible rfl)
    try simp only [Act.put, List.setIfInBounds_toArray, List.set_cons_zero, List.set_cons_succ]
    refine take_at 5 (v := ?_) rfl (by kernel_rfl) (by kernel_rfl) (by kernel_rfl) (fun _ _ _ h => h) (by rfl) ?_ (by assumption) ?_
    rotate_left
    · intro w hSw; (try dsimp only at hSw); go_simp; (try rw [if_neg (by assumption)]); (try rw [if_pos (by omega)]); (try simp only [hSw]); (try with_reducible rfl)
    try simp only [Act.put, List.setIfInBounds_toArray, List.set_cons_zero, List.set_cons_succ]
    refine take_at 6 (v := ?_) rfl (by kernel_rfl) (by kernel_rfl) (by kernel_rfl) (fun _ _ _ h => h) (by rfl) ?_ (by assumption) ?_
    rotate_left
    · intro w hSw; (try dsimp only at hSw); go_simp; (try rw [if_neg (by assumption)]); (try rw [if_pos (by omega)]); (try simp only [hSw]); (try with_reducible rfl)
    try simp only [Act.put, List.setIfInBounds_toArray, List.set_cons_zero, List.set_cons_succ]
    refine take_at 7 (v := ?_) rfl (by kernel_rfl) (by kernel_rfl) (by kernel_rfl) (fun _ _ _ h => h) (by rfl) ?_ (by assumption) ?_
    rotate_left
    · intro w hSw; (try dsimp only at hSw); go_simp; (try rw [if_neg (by assumption)]); (try rw [if_pos (by omega)]); (try simp only [hSw]); (try with_reducible rfl)
    try simp only [Act.put, List.setIfInBounds_toArray, List.set_cons_zero, List.set_cons_succ]
    refine take_at 8 (v := ?_) rfl (by kernel_rfl) (by kernel_rfl) (by kernel_rfl) (fun _ _ _ h => h) (by rfl) ?_ (by assumption) ?_
    rotate_left
    · intro w hSw; (try dsimp only at hSw); go_simp; (try rw [if_neg (by assumption)]); (try rw [if_pos (by omega)]); (try simp only [hSw]); (try with_reducible rfl)
    try simp only [Act.put, List.setIfInBounds_toArray, List.set_cons_zero, List.set_cons_succ]
    refine take_at 9 (v := ?_) rfl (by kernel_rfl) (by kernel_rfl) (by kernel_rfl) (fun _ _ _ h => h) (by rfl) ?_ (by assumption) ?_
    rotate_left
    · intro w hSw; (try dsimp only at hSw); go_simp; (try rw [if_neg (by assumption)]); (try rw [if_pos (by omega)]); (try simp only [hSw]); (try with_reducible rfl)
    try simp only [Act.put, List.setIfInBounds_toArray, List.set_cons_zero, List.set_cons_succ]
    refine take_at 10 (v := ?_) rfl (by kernel_rfl) (by kernel_rfl) (by kernel_rfl) (fun _ _ _ h => h) (by rfl) ?_ (by assumption) ?_
    rotate_left
    · intro w hSw; (try dsimp only at hSw); go_simp; (try rw [if_neg (by assumption)]); (try rw [if_pos (by omega)]); (try simp only [hSw]); (try with_reducible rfl)
    try simp only [Act.put, List.setIfInBounds_toArray, List.set_cons_zero, List.set_cons_succ]
    refine take_at 11 (v := ?_) rfl (by kernel_rfl) (by kernel_rfl) (by kernel_rfl) (fun _ _ _ h => h) (by rfl) ?_ (by assumption) ?_
    rotate_left
    · intro w hSw; (try dsimp only at hSw); go_simp; (try rw [if_neg (by assumption)]); (try rw [if_pos (by omega)]); (try simp only [hSw]); (try with_reducible rfl)
    try simp only [Act.put, List.setIfInBounds_toArray, List.set_cons_zero, List.set_cons_succ]
    refine take_at 12 (v := ?_) rfl (by kernel_rfl) (by kernel_rfl) (by kernel_rfl) (fun _ _ _ h => h) (by rfl) ?_ (by assumption) ?_
    rotate_left
    · intro w hSw; (try dsimp only at hSw); go_simp; (try rw [if_neg (by assumption)]); (try rw [if_pos (by omega)]); (try simp only [hSw]); (try with_reducible rfl)
    try simp only [Act.put, List.setIfInBounds_toArray, List.set_cons_zero, List.set_cons_succ]
    refine take_at 13 (v := ?_) rfl (by kernel_rfl) (by kernel_rfl) (by kernel_rfl) (fun _ _ _ h => h) (by rfl) ?_ (by assumption) ?_
    rotate_left
    · intro w hSw; (try dsimp only at hSw); go_simp; (try rw [if_neg (by assumption)]); (try rw [if_pos (by omega)]); (try simp only [hSw]); (try with_reducible rfl)
    try simp only [Act.put, List.setIfInBounds_toArray, List.set_cons_zero, List.set_cons_succ]
    refine only_at 14 (by kernel_rfl) rfl (fun K hK => ?_)
    go_simp
    refine hK.out _ _ (KEEP.out _ ?_) (fun hHeld => ?_)
    · (repeat (first | exact Below.refl _ _ | exact Below.refl _ _ | refine Below.drew ?_ | refine Below.alloc ?_ (by simp) _ | refine Below.setCell ?_ (by simp) _))
    clear hK K
    try simp only [Act.put, List.setIfInBounds_toArray, List.set_cons_zero, List.set_cons_succ]
    refine only_at 15 (by kernel_rfl) rfl (fun K hK => ?_)
    go_simp
    refine hK.out _ _ (KEEP.out _ ?_) (fun hHeld => ?_)
    · (repeat (first | exact Below.refl _ _ | exact Below.refl _ _ | refine Below.drew ?_ | refine Below.alloc ?_ (by simp) _ | refine Below.setCell ?_ (by simp) _))
    clear hK K
    try simp only [Act.put, List.setIfInBounds_toArray, List.set_cons_zero, List.set_cons_succ]
    refine take_at 16 (v := ?_) rfl (by kernel_rfl) (by kernel_rfl) (by kernel_rfl) (fun _ _ _ h => h) (by rfl) ?_ (by assumption) ?_
    rotate_left
    · intro w hSw; (try dsimp only at hSw); go_simp; (try rw [if_neg (by assumption)]); (try rw [if_pos (by omega)]); (try simp only [hSw]); (try with_reducible rfl)
    try simp only [Act.put, List.setIfInBounds_toArray, List.set_cons_zero, List.set_cons_succ]
    refine wpAnyH_done (by kernel_rfl) ?_ _
    go_wp2_with fail
    go_ret
    exact ⟨ret_bool HQ.out.symm, ((Below.refl _ w).alloc (Nat.le_refl _) _).drew⟩
  | some cs =>
    have HQ := Lib.hid (show completeQ s (c :: r) = ((c :: r) == cs) by simp only [completeQ, hg])
    obtain ⟨v, hv, sE, AE, mE, jE, rfl, hse⟩ := hrc.find hg
    have HEQ := Lib.hid (equalS_any HA.out hse)
    have hrun := fun (W : World) (hW : Below w.heap.size w W) => (hmc.under hW).look_yes Tryz.underlying82 hv
    have HRUN := Lib.hid hrun
    have KEEP := Lib.hid (show ∀ W, Below w.heap.size w W → W.cell? ⟨S, 0, none⟩ = some (.pointer (some ⟨P, 0, none⟩)) ∧ W.cell? ⟨P, 1, none⟩ = some (.map (some c1)) ∧ W.cell? a = some (.string (str c)) ∧ (Instr.lookup 82 (.map (some c1)) (.string (str c)) true).run Tryz.prog W = .ok (.tuple #[.agg #[.string sE, .slice AE mE jE], .bool true]) W from
      fun W hW => ⟨(hW.cell (p := ⟨S, 0, none⟩) hSl).trans y0, (hW.cell (p := ⟨P, 1, none⟩) hPl).trans x1, (hW.cell (p := a) hab).trans q0, HRUN.out W hW⟩)
    generalize (c :: r).length = nn at *
    clear h hc hm he hE0 hne hg hmc hrc hrun hcl hv hse
    go_enter Tryz.func121, Tryz.ntmps121
    go_wp2_with fail
    refine wp_region_held_drew (S := (fun W => W.cell? ⟨S, 0, none⟩ = some (.pointer (some ⟨P, 0, none⟩)) ∧ W.cell? ⟨P, 1, none⟩ = some (.map (some c1)) ∧ W.cell? a = some (.string (str c)) ∧ (Instr.lookup 82 (.map (some c1)) (.string (str c)) true).run Tryz.prog W = .ok (.tuple #[.agg #[.string sE, .slice AE mE jE], .bool true]) W)) (by kernel_rfl) ?_ (fun hHeld => ?_)
    · exact KEEP.out _ (Below.refl _ _).drew
    refine take_at 0 (v := ?_) rfl (by kernel_rfl) (by kernel_rfl) (by kernel_rfl) (fun _ _ _ h => h) (by rfl) ?_ (by assumption) ?_
    rotate_left
    · intro w hSw; (try dsimp only at hSw); go_simp; (try rw [if_neg (by assumption)]); (try rw [if_pos (by omega)]); (try simp only [hSw]); (try with_reducible rfl)
    try simp only [Act.put, List.setIfInBounds_toArray, List.set_cons_zero, List.set_cons_succ]
    refine take_at 1 (v := ?_) rfl (by kernel_rfl) (by kernel_rfl) (by kernel_rfl) (fun _ _ _ h => h) (by rfl) ?_ (by assumption) ?_
    rotate_left
    · intro w hSw; (try dsimp only at hSw); go_simp; (try rw [if_neg (by assumption)]); (try rw [if_pos (by omega)]); (try simp only [hSw]); (try with_reducible rfl)
    try simp only [Act.put, List.setIfInBounds_toArray, List.set_cons_zero, List.set_cons_succ]
    refine take_at 2 (v := ?_) rfl (by kernel_rfl) (by kernel_rfl) (by kernel_rfl) (fun _ _ _ h => h) (by rfl) ?_ (by assumption) ?_
    rotate_left
    · intro w hSw; (try dsimp only at hSw); go_simp; (try rw [if_neg (by assumption)]); (try rw [if_pos (by omega)]); (try simp only [hSw]); (try with_reducible rfl)
    try simp only [Act.put, List.setIfInBounds_toArray, List.set_cons_zero, List.set_cons_succ]
    refine take_at 3 (v := ?_) rfl (by kernel_rfl) (by kernel_rfl) (by kernel_rfl) (fun _ _ _ h => h) (by rfl) ?_ (by assumption) ?_
    rotate_left
    · intro w hSw; (try dsimp only at hSw); go_simp; (try rw [if_neg (by assumption)]); (try rw [if_pos (by omega)]); (try simp only [hSw]); (try with_reducible rfl)
    try simp only [Act.put, List.setIfInBounds_toArray, List.set_cons_zero, List.set_cons_succ]
    refine take_at 4 (v := ?_) rfl (by kernel_rfl) (by kernel_rfl) (by kernel_rfl) (fun _ _ _ h => h) (by rfl) ?_ (by assumption) ?_
    rotate_left
    · intro w hSw; (try dsimp only at hSw); go_simp; (try rw [if_neg (by assumption)]); (try rw [if_pos (by omega)]); (try simp only [hSw]); (try with_reducible rfl)
    try simp only [Act.put, List.setIfInBounds_toArray, List.set_cons_zero, List.set_cons_succ]
    refine take_at 5 (v := ?_) rfl (by kernel_rfl) (by kernel_rfl) (by kernel_rfl) (fun _ _ _ h => h) (by rfl) ?_ (by assumption) ?_
    rotate_left
    · intro w hSw; (try dsimp only at hSw); go_simp; (try rw [if_neg (by assumption)]); (try rw [if_pos (by omega)]); (try simp only [hSw]); (try with_reducible rfl)
    try simp only [Act.put, List.setIfInBounds_toArray, List.set_cons_zero, List.set_cons_succ]
    refine take_at 6 (v := ?_) rfl (by kernel_rfl) (by kernel_rfl) (by kernel_rfl) (fun _ _ _ h => h) (by rfl) ?_ (by assumption) ?_
    rotate_left
    · intro w hSw; (try dsimp only at hSw); go_simp; (try rw [if_neg (by assumption)]); (try rw [if_pos (by omega)]); (try simp only [hSw]); (try with_reducible rfl)
    try simp only [Act.put, List.setIfInBounds_toArray, List.set_cons_zero, List.set_cons_succ]
    refine take_at 7 (v := ?_) rfl (by kernel_rfl) (by kernel_rfl) (by kernel_rfl) (fun _ _ _ h => h) (by rfl) ?_ (by assumption) ?_
    rotate_left
    · intro w hSw; (try dsimp only at hSw); go_simp; (try rw [if_neg (by assumption)]); (try rw [if_pos (by omega)]); (try simp only [hSw]); (try with_reducible rfl)
    try simp only [Act.put, List.setIfInBounds_toArray, List.set_cons_zero, List.set_cons_succ]
    refine take_at 8 (v := ?_) rfl (by kernel_rfl) (by kernel_rfl) (by kernel_rfl) (fun _ _ _ h => h) (by rfl) ?_ (by assumption) ?_
    rotate_left
    · intro w hSw; (try dsimp only at hSw); go_simp; (try rw [if_neg (by assumption)]); (try rw [if_pos (by omega)]); (try simp only [hSw]); (try with_reducible rfl)
    try simp only [Act.put, List.setIfInBounds_toArray, List.set_cons_zero, List.set_cons_succ]
    refine take_at 9 (v := ?_) rfl (by kernel_rfl) (by kernel_rfl) (by kernel_rfl) (fun _ _ _ h => h) (by rfl) ?_ (by assumption) ?_
    rotate_left
    · intro w hSw; (try dsimp only at hSw); go_simp; (try rw [if_neg (by assumption)]); (try rw [if_pos (by omega)]); (try simp only [hSw]); (try with_reducible rfl)
    try simp only [Act.put, List.setIfInBounds_toArray, List.set_cons_zero, List.set_cons_succ]
    refine take_at 10 (v := ?_) rfl (by kernel_rfl) (by kernel_rfl) (by kernel_rfl) (fun _ _ _ h => h) (by rfl) ?_ (by assumption) ?_
    rotate_left
    · intro w hSw; (try dsimp only at hSw); go_simp; (try rw [if_neg (by assumption)]); (try rw [if_pos (by omega)]); (try simp only [hSw]); (try with_reducible rfl)
    try simp only [Act.put, List.setIfInBounds_toArray, List.set_cons_zero, List.set_cons_succ]
    refine take_at 11 (v := ?_) rfl (by kernel_rfl) (by kernel_rfl) (by kernel_rfl) (fun _ _ _ h => h) (by rfl) ?_ (by assumption) ?_
    rotate_left
    · intro w hSw; (try dsimp only at hSw); go_simp; (try rw [if_neg (by assumption)]); (try rw [if_pos (by omega)]); (try simp only [hSw]); (try with_reducible rfl)
    try simp only [Act.put, List.setIfInBounds_toArray, List.set_cons_zero, List.set_cons_succ]
    refine take_at 12 (v := ?_) rfl (by kernel_rfl) (by kernel_rfl) (by kernel_rfl) (fun _ _ _ h => h) (by rfl) ?_ (by assumption) ?_
    rotate_left
    · intro w hSw; (try dsimp only at hSw); go_simp; (try rw [if_neg (by assumption)]); (try rw [if_pos (by omega)]); (try simp only [hSw]); (try with_reducible rfl)
    try simp only [Act.put, List.setIfInBounds_toArray, List.set_cons_zero, List.set_cons_succ]
    refine take_at 13 (v := ?_) rfl (by kernel_rfl) (by kernel_rfl) (by kernel_rfl) (fun _ _ _ h => h) (by rfl) ?_ (by assumption) ?_
    rotate_left
    · intro w hSw; (try dsimp only at hSw); go_simp; (try rw [if_neg (by assumption)]); (try rw [if_pos (by omega)]); (try simp only [hSw]); (try with_reducible rfl)
    try simp only [Act.put, List.setIfInBounds_toArray, List.set_cons_zero, List.set_cons_succ]
    refine only_at 14 (by kernel_rfl) rfl (fun K hK => ?_)
    go_simp
    refine hK.out _ _ (KEEP.out _ ?_) (fun hHeld => ?_)
    · (repeat (first | exact Below.refl _ _ | exact Below.refl _ _ | refine Below.drew ?_ | refine Below.alloc ?_ (by simp) _ | refine Below.setCell ?_ (by simp) _))
    clear hK K
    try simp only [Act.put, List.setIfInBounds_toArray, List.set_cons_zero, List.set_cons_succ]
    refine only_at 15 (by kernel_rfl) rfl (fun K hK => ?_)
    go_simp
    refine hK.out _ _ (KEEP.out _ ?_) (fun hHeld => ?_)
    · (repeat (first | exact Below.refl _ _ | exact Below.refl _ _ | refine Below.drew ?_ | refine Below.alloc ?_ (by simp) _ | refine Below.setCell ?_ (by simp) _))
    clear hK K
    try simp only [Act.put, List.setIfInBounds_toArray, List.set_cons_zero, List.set_cons_succ]
    refine take_at 16 (v := ?_) rfl (by kernel_rfl) (by kernel_rfl) (by kernel_rfl) (fun _ _ _ h => h) (by rfl) ?_ (by assumption) ?_
    rotate_left
    · intro w hSw; (try dsimp only at hSw); go_simp; (try rw [if_neg (by assumption)]); (try rw [if_pos (by omega)]); (try simp only [hSw]); (try with_reducible rfl)
    try simp only [Act.put, List.setIfInBounds_toArray, List.set_cons_zero, List.set_cons_succ]
    refine wpAnyH_done (by kernel_rfl) ?_ _
    go_wp2_with (go_at_call 128
                 have hal : Below w.heap.size w (w.alloc (.cells #[.string sE, .slice AE mE jE] 46)).drew := ((Below.refl _ w).alloc (Nat.le_refl _) _).drew
                 (with_reducible refine (HEQ.out _ hal).mono ?_)
                 rintro e w7 ⟨rfl, hb7⟩
                 have HB := Lib.hid (hal.trans (hb7.mono hal.size))
                 clear hal hb7)
    go_ret
    exact ⟨ret_bool HQ.out.symm, HB.out⟩
end
end Go.Proofs.YtbpbnebcbjacdaaGreat
