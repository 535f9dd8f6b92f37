/-
  call, and the closure that it hands on.
  The place of a kid.
-/
import Derived.Test.YtbpbnebcbjacdaaGreatScopeFn
import Derived.Test.YtbpbnebcbjacdaaGreatTreeFn
namespace Go.Proofs.YtbpbnebcbjacdaaGreat
open Go.RowKit
open Go.ChangeMaps Go.MapKept
open Go.Maps

theorem enter134 : EntersP 134 := enters_of Tryz.func134 (by kernel_rfl) rfl
section
variable {S P e1 c1 n1 t1 f1 v1 : Nat} {nd : Value × Value × Value × Value × Value} {s : SNode}
set_option maxHeartbeats 1000000 in
theorem callC_any {w0 : World} (h : NScope w0 S P e1 c1 n1 t1 f1 v1 nd s) {N : Nat} (hN : w0.heap[N]? = some (.cells #[.pointer (some ⟨S, 0, none⟩)] 89 (0, 0))) {x : Tx} (hl : x.length ≤ maxLen) :
    ∀ w, Below w0.heap.size w0 w → Calls Tryz.prog 134 #[.string (str x), .pointer (some ⟨N, 0, none⟩)] w (BoolPost (!passQ s x) w) := by
  intro w hw
  have H := Lib.hid (passable_any (h.under hw) hl)
  have x0 := row1 (box_next hw hN)
  clear h hN hl hw
  go_enter Tryz.func134, Tryz.ntmps134
  go_wp2_with (go_at_call 135; (with_reducible refine H.out.mono ?_); rintro e w1 ⟨rfl, hb1⟩)
  go_ret
  exact ⟨rfl, hb1⟩
theorem row1' {w : World} {N : Nat} {T0 : TypeId} {v0 : Value} (h : w.heap[N]? = some (.cells #[v0] T0 (0, 0))) : w.cell? ⟨N, 0, none⟩ = some v0 ∧ True := ⟨row1 h, trivial⟩
theorem len_eq0 (l : List Tx) : ((l.length : Int) == 0) = l.isEmpty := by
  cases l with
  | nil => rfl
  | cons a b => simp; omega
set_option maxHeartbeats 8000000 in
set_option maxRecDepth 100000 in
theorem callN_any {w : World} (h : NScope w S P e1 c1 n1 t1 f1 v1 nd s) {op n : Int} {nm : Tx} {A B : Option Addr} {cs : List Tx} {ca k kc : Nat} (hnm : nm.length ≤ maxLen) (hcs : StrsAt w (.slice A cs.length ca) cs) (results : Int) :
    Calls Tryz.prog 122 #[.pointer (some ⟨S, 0, none⟩), .agg #[.int .i64 op, .string (str nm), .int .i64 n, .slice A cs.length ca, .slice B k kc], .int .i64 results] w (BoolPost (callQ s nm cs k results) w) := by
  have HS := Lib.hid h
  have HNM := Lib.hid hnm
  have HCS := Lib.hid hcs
  have hmf : ∀ (fn : Fn) (first cap : Array Value) (w : World), (Instr.makeFunc fn first cap).run Tryz.prog w = .ok (.func fn first cap) w := fun _ _ _ _ => rfl
  have hlc : cs.length ≤ 9223372036854775807 := by obtain ⟨_, _, e, h1, h2, _⟩ := hcs; injection e with _ _ e3; unfold maxLen at h2; omega
  clear h hnm hcs
  go_enter Tryz.func122, Tryz.ntmps122
  go_wp2_with fail
  have a1 : Below w.heap.size w (w.alloc (.cells #[.pointer (some ⟨S, 0, none⟩)] 89)) := (Below.refl _ w).alloc (Nat.le_refl _) _
  have HV := Lib.hid (a1.alloc (by simp) (.cells #[.int .i64 op, .string (str nm), .int .i64 n, .slice A cs.length ca, .slice B k kc] 50))
  have B1 := Lib.hid (alloc_below (o := .cells #[.int .i64 op, .string (str nm), .int .i64 n, .slice A cs.length ca, .slice B k kc] 50) (heap_alloc_new w (.cells #[.pointer (some ⟨S, 0, none⟩)] 89)))
  have B2 := Lib.hid (show ((w.alloc (.cells #[.pointer (some ⟨S, 0, none⟩)] 89)).alloc (.cells #[.int .i64 op, .string (str nm), .int .i64 n, .slice A cs.length ca, .slice B k kc] 50)).heap[w.heap.size + 1]? = some (.cells #[.int .i64 op, .string (str nm), .int .i64 n, .slice A cs.length ca, .slice B k kc] 50 (0, 0)) from alloc_at (by simp))
  generalize (w.alloc (.cells #[.pointer (some ⟨S, 0, none⟩)] 89)).alloc (.cells #[.int .i64 op, .string (str nm), .int .i64 n, .slice A cs.length ca, .slice B k kc] 50) = V at *
  clear a1
  have HSV := Lib.hid (HS.out.under HV.out)
  have x0 := row1 B1.out
  obtain ⟨y0, y1, y2, y3, y4, y5, y6, y7⟩ := row8 HSV.out.box
  obtain ⟨z0, z1, z2, z3, z4⟩ := row5 B2.out
  refine wp_region_held_drew (S := (fun W => W.cell? ⟨w.heap.size, 0, none⟩ = some (.pointer (some ⟨S, 0, none⟩)) ∧ W.cell? ⟨S, 6, none⟩ = some (.map (some f1)) ∧ W.cell? ⟨w.heap.size + 1, 1, none⟩ = some (.string (str nm)))) (by kernel_rfl) ?_ (fun hHeld => ?_)
  · (try dsimp only); go_keep
  refine take_at 0 (v := ?_) rfl (by kernel_rfl) (by kernel_rfl) (by kernel_rfl) (fun _ _ _ h => h) (by rfl) ?_ (by assumption) ?_
  rotate_left
  · intro w hSw; (try dsimp only at hSw); go_simp; (try rw [if_neg (by assumption)]); (try rw [if_pos (by omega)]); (try simp only [hSw]); (try with_reducible rfl)
  try simp only [Act.put, List.setIfInBounds_toArray, List.set_cons_zero, List.set_cons_succ]
  refine take_at 1 (v := ?_) rfl (by kernel_rfl) (by kernel_rfl) (by kernel_rfl) (fun _ _ _ h => h) (by rfl) ?_ (by assumption) ?_
  rotate_left
  · intro w hSw; (try dsimp only at hSw); go_simp; (try rw [if_neg (by assumption)]); (try rw [if_pos (by omega)]); (try simp only [hSw]); (try with_reducible rfl)
  try simp only [Act.put, List.setIfInBounds_toArray, List.set_cons_zero, List.set_cons_succ]
  refine take_at 2 (v := ?_) rfl (by kernel_rfl) (by kernel_rfl) (by kernel_rfl) (fun _ _ _ h => h) (by rfl) ?_ (by assumption) ?_
  rotate_left
  · intro w hSw; (try dsimp only at hSw); go_simp; (try rw [if_neg (by assumption)]); (try rw [if_pos (by omega)]); (try simp only [hSw]); (try with_reducible rfl)
  try simp only [Act.put, List.setIfInBounds_toArray, List.set_cons_zero, List.set_cons_succ]
  refine take_at 3 (v := ?_) rfl (by kernel_rfl) (by kernel_rfl) (by kernel_rfl) (fun _ _ _ h => h) (by rfl) ?_ (by assumption) ?_
  rotate_left
  · intro w hSw; (try dsimp only at hSw); go_simp; (try rw [if_neg (by assumption)]); (try rw [if_pos (by omega)]); (try simp only [hSw]); (try with_reducible rfl)
  try simp only [Act.put, List.setIfInBounds_toArray, List.set_cons_zero, List.set_cons_succ]
  refine take_at 4 (v := ?_) rfl (by kernel_rfl) (by kernel_rfl) (by kernel_rfl) (fun _ _ _ h => h) (by rfl) ?_ (by assumption) ?_
  rotate_left
  · intro w hSw; (try dsimp only at hSw); go_simp; (try rw [if_neg (by assumption)]); (try rw [if_pos (by omega)]); (try simp only [hSw]); (try with_reducible rfl)
  try simp only [Act.put, List.setIfInBounds_toArray, List.set_cons_zero, List.set_cons_succ]
  refine take_at 5 (v := ?_) rfl (by kernel_rfl) (by kernel_rfl) (by kernel_rfl) (fun _ _ _ h => h) (by rfl) ?_ (by assumption) ?_
  rotate_left
  · intro w hSw; (try dsimp only at hSw); go_simp; (try rw [if_neg (by assumption)]); (try rw [if_pos (by omega)]); (try simp only [hSw]); (try with_reducible rfl)
  try simp only [Act.put, List.setIfInBounds_toArray, List.set_cons_zero, List.set_cons_succ]
  refine only_at 6 (by kernel_rfl) rfl (fun K hK => ?_)
  go_simp
  (go_at_call 71
   (with_reducible refine (knownS_any (HSV.out.under (Below.refl _ V).drew).mf (sh_unit _) HNM.out).mono ?_)
   rintro e w7 ⟨he, hb7⟩
   rw [keys_unit] at he
   subst he
   obtain ⟨V', rfl⟩ : ∃ W, W = w7 := ⟨_, rfl⟩
   have HV' := Lib.hid ((Below.refl V.heap.size V).drew.trans hb7)
   have B1' := Lib.hid (box_next HV'.out B1.out)
   have B2' := Lib.hid (box_next HV'.out B2.out)
   have HS' := Lib.hid (HSV.out.under HV'.out)
   have x0 := row1 B1'.out
   obtain ⟨y0, y1, y2, y3, y4, y5, y6, y7⟩ := row8 HS'.out.box
   obtain ⟨z0, z1, z2, z3, z4⟩ := row5 B2'.out
   clear hb7)
  refine hK.out _ _ ?_ (fun hHeld => ?_)
  · (try dsimp only); go_keep
  clear hK K
  try simp only [Act.put, List.setIfInBounds_toArray, List.set_cons_zero, List.set_cons_succ]
  refine wpAnyH_done (by kernel_rfl) ?_ _
  cases hc : s.funs.contains nm
  · have HCF := Lib.hid hc
    clear hc
    obtain ⟨ln, hmn, hrn⟩ := HS'.out.prog.mn
    have HMN := Lib.hid hmn
    cases hg : getA s.prog.nodes nm with
    | none =>
      have HQ := Lib.hid (show callQ s nm cs k results = false by rw [callQ, HCF.out, hg]; rfl)
      have hkn : nm ∉ ln.map Prod.fst := by have := getA_none hg; rw [← hrn.1] at this; exact this
      clear hg hmn hrn
      go_wp2_with fail
      have HRUN := Lib.hid (fun (W : World) (hW : Below V'.heap.size V' W) => (HMN.out.under hW).look_no Tryz.underlying83 (zeroN W) HNM.out hkn)
      have KEEP := Lib.hid (show ∀ W, Below V'.heap.size V' W → (fun W => W.cell? ⟨w.heap.size, 0, none⟩ = some (.pointer (some ⟨S, 0, none⟩)) ∧ W.cell? ⟨S, 0, none⟩ = some (.pointer (some ⟨P, 0, none⟩)) ∧ W.cell? ⟨P, 2, none⟩ = some (.map (some n1)) ∧ W.cell? ⟨w.heap.size + 1, 1, none⟩ = some (.string (str nm)) ∧ (Instr.lookup 83 (.map (some n1)) (.string (str nm)) true).run Tryz.prog W = .ok (.tuple #[.agg #[.string ⟨#[]⟩, .slice none 0 0, .slice none 0 0, .slice none 0 0, .slice none 0 0], .bool false]) W) W from
        fun W hW => by
          obtain ⟨a1, _⟩ := row1' (box_next hW B1'.out)
          obtain ⟨b0, _⟩ := row8 (box_next hW HS'.out.box)
          obtain ⟨_, _, d2, _⟩ := (HS'.out.under hW).prog.row
          obtain ⟨_, g1, _⟩ := row5 (box_next hW B2'.out)
          exact ⟨a1, b0, d2, g1, HRUN.out W hW⟩)
      refine wp_region_held_drew (S := (fun W => W.cell? ⟨w.heap.size, 0, none⟩ = some (.pointer (some ⟨S, 0, none⟩)) ∧ W.cell? ⟨S, 0, none⟩ = some (.pointer (some ⟨P, 0, none⟩)) ∧ W.cell? ⟨P, 2, none⟩ = some (.map (some n1)) ∧ W.cell? ⟨w.heap.size + 1, 1, none⟩ = some (.string (str nm)) ∧ (Instr.lookup 83 (.map (some n1)) (.string (str nm)) true).run Tryz.prog W = .ok (.tuple #[.agg #[.string ⟨#[]⟩, .slice none 0 0, .slice none 0 0, .slice none 0 0, .slice none 0 0], .bool false]) W)) (by kernel_rfl) ?_ (fun hHeld => ?_)
      · exact KEEP.out _ (Below.refl _ _).drew
      refine take_at 0 (v := ?_) rfl (by kernel_rfl) (by kernel_rfl) (by kernel_rfl) (fun _ _ _ h => h) (by rfl) ?_ (by assumption) ?_
      rotate_left
      · intro w hSw; (try dsimp only at hSw); go_simp; (try rw [if_neg (by assumption)]); (try rw [if_pos (by omega)]); (try simp only [hSw]); (try with_reducible rfl)
      try simp only [Act.put, List.setIfInBounds_toArray, List.set_cons_zero, List.set_cons_succ]
      refine take_at 1 (v := ?_) rfl (by kernel_rfl) (by kernel_rfl) (by kernel_rfl) (fun _ _ _ h => h) (by rfl) ?_ (by assumption) ?_
      rotate_left
      · intro w hSw; (try dsimp only at hSw); go_simp; (try rw [if_neg (by assumption)]); (try rw [if_pos (by omega)]); (try simp only [hSw]); (try with_reducible rfl)
      try simp only [Act.put, List.setIfInBounds_toArray, List.set_cons_zero, List.set_cons_succ]
      refine take_at 2 (v := ?_) rfl (by kernel_rfl) (by kernel_rfl) (by kernel_rfl) (fun _ _ _ h => h) (by rfl) ?_ (by assumption) ?_
      rotate_left
      · intro w hSw; (try dsimp only at hSw); go_simp; (try rw [if_neg (by assumption)]); (try rw [if_pos (by omega)]); (try simp only [hSw]); (try with_reducible rfl)
      try simp only [Act.put, List.setIfInBounds_toArray, List.set_cons_zero, List.set_cons_succ]
      refine take_at 3 (v := ?_) rfl (by kernel_rfl) (by kernel_rfl) (by kernel_rfl) (fun _ _ _ h => h) (by rfl) ?_ (by assumption) ?_
      rotate_left
      · intro w hSw; (try dsimp only at hSw); go_simp; (try rw [if_neg (by assumption)]); (try rw [if_pos (by omega)]); (try simp only [hSw]); (try with_reducible rfl)
      try simp only [Act.put, List.setIfInBounds_toArray, List.set_cons_zero, List.set_cons_succ]
      refine take_at 4 (v := ?_) rfl (by kernel_rfl) (by kernel_rfl) (by kernel_rfl) (fun _ _ _ h => h) (by rfl) ?_ (by assumption) ?_
      rotate_left
      · intro w hSw; (try dsimp only at hSw); go_simp; (try rw [if_neg (by assumption)]); (try rw [if_pos (by omega)]); (try simp only [hSw]); (try with_reducible rfl)
      try simp only [Act.put, List.setIfInBounds_toArray, List.set_cons_zero, List.set_cons_succ]
      refine take_at 5 (v := ?_) rfl (by kernel_rfl) (by kernel_rfl) (by kernel_rfl) (fun _ _ _ h => h) (by rfl) ?_ (by assumption) ?_
      rotate_left
      · intro w hSw; (try dsimp only at hSw); go_simp; (try rw [if_neg (by assumption)]); (try rw [if_pos (by omega)]); (try simp only [hSw]); (try with_reducible rfl)
      try simp only [Act.put, List.setIfInBounds_toArray, List.set_cons_zero, List.set_cons_succ]
      refine take_at 6 (v := ?_) rfl (by kernel_rfl) (by kernel_rfl) (by kernel_rfl) (fun _ _ _ h => h) (by rfl) ?_ (by assumption) ?_
      rotate_left
      · intro w hSw; (try dsimp only at hSw); go_simp; (try rw [if_neg (by assumption)]); (try rw [if_pos (by omega)]); (try simp only [hSw]); (try with_reducible rfl)
      try simp only [Act.put, List.setIfInBounds_toArray, List.set_cons_zero, List.set_cons_succ]
      refine take_at 7 (v := ?_) rfl (by kernel_rfl) (by kernel_rfl) (by kernel_rfl) (fun _ _ _ h => h) (by rfl) ?_ (by assumption) ?_
      rotate_left
      · intro w hSw; (try dsimp only at hSw); go_simp; (try rw [if_neg (by assumption)]); (try rw [if_pos (by omega)]); (try simp only [hSw]); (try with_reducible rfl)
      try simp only [Act.put, List.setIfInBounds_toArray, List.set_cons_zero, List.set_cons_succ]
      refine take_at 8 (v := ?_) rfl (by kernel_rfl) (by kernel_rfl) (by kernel_rfl) (fun _ _ _ h => h) (by rfl) ?_ (by assumption) ?_
      rotate_left
      · intro w hSw; (try dsimp only at hSw); go_simp; (try rw [if_neg (by assumption)]); (try rw [if_pos (by omega)]); (try simp only [hSw]); (try with_reducible rfl)
      try simp only [Act.put, List.setIfInBounds_toArray, List.set_cons_zero, List.set_cons_succ]
      refine take_at 9 (v := ?_) rfl (by kernel_rfl) (by kernel_rfl) (by kernel_rfl) (fun _ _ _ h => h) (by rfl) ?_ (by assumption) ?_
      rotate_left
      · intro w hSw; (try dsimp only at hSw); go_simp; (try rw [if_neg (by assumption)]); (try rw [if_pos (by omega)]); (try simp only [hSw]); (try with_reducible rfl)
      try simp only [Act.put, List.setIfInBounds_toArray, List.set_cons_zero, List.set_cons_succ]
      refine take_at 10 (v := ?_) rfl (by kernel_rfl) (by kernel_rfl) (by kernel_rfl) (fun _ _ _ h => h) (by rfl) ?_ (by assumption) ?_
      rotate_left
      · intro w hSw; (try dsimp only at hSw); go_simp; (try rw [if_neg (by assumption)]); (try rw [if_pos (by omega)]); (try simp only [hSw]); (try with_reducible rfl)
      try simp only [Act.put, List.setIfInBounds_toArray, List.set_cons_zero, List.set_cons_succ]
      refine take_at 11 (v := ?_) rfl (by kernel_rfl) (by kernel_rfl) (by kernel_rfl) (fun _ _ _ h => h) (by rfl) ?_ (by assumption) ?_
      rotate_left
      · intro w hSw; (try dsimp only at hSw); go_simp; (try rw [if_neg (by assumption)]); (try rw [if_pos (by omega)]); (try simp only [hSw]); (try with_reducible rfl)
      try simp only [Act.put, List.setIfInBounds_toArray, List.set_cons_zero, List.set_cons_succ]
      refine take_at 12 (v := ?_) rfl (by kernel_rfl) (by kernel_rfl) (by kernel_rfl) (fun _ _ _ h => h) (by rfl) ?_ (by assumption) ?_
      rotate_left
      · intro w hSw; (try dsimp only at hSw); go_simp; (try rw [if_neg (by assumption)]); (try rw [if_pos (by omega)]); (try simp only [hSw]); (try with_reducible rfl)
      try simp only [Act.put, List.setIfInBounds_toArray, List.set_cons_zero, List.set_cons_succ]
      refine only_at 13 (by kernel_rfl) rfl (fun K hK => ?_)
      go_simp
      refine hK.out _ _ (KEEP.out _ ?_) (fun hHeld => ?_)
      · (repeat (first | exact Below.refl _ _ | exact Below.refl _ _ | refine Below.drew ?_ | refine Below.alloc ?_ (by simp) _ | refine Below.setCell ?_ (by simp) _))
      clear hK K
      try simp only [Act.put, List.setIfInBounds_toArray, List.set_cons_zero, List.set_cons_succ]
      refine only_at 14 (by kernel_rfl) rfl (fun K hK => ?_)
      go_simp
      refine hK.out _ _ (KEEP.out _ ?_) (fun hHeld => ?_)
      · (repeat (first | exact Below.refl _ _ | exact Below.refl _ _ | refine Below.drew ?_ | refine Below.alloc ?_ (by simp) _ | refine Below.setCell ?_ (by simp) _))
      clear hK K
      try simp only [Act.put, List.setIfInBounds_toArray, List.set_cons_zero, List.set_cons_succ]
      refine take_at 15 (v := ?_) rfl (by kernel_rfl) (by kernel_rfl) (by kernel_rfl) (fun _ _ _ h => h) (by rfl) ?_ (by assumption) ?_
      rotate_left
      · intro w hSw; (try dsimp only at hSw); go_simp; (try rw [if_neg (by assumption)]); (try rw [if_pos (by omega)]); (try simp only [hSw]); (try with_reducible rfl)
      try simp only [Act.put, List.setIfInBounds_toArray, List.set_cons_zero, List.set_cons_succ]
      refine wpAnyH_done (by kernel_rfl) ?_ _
      have HV2 := Lib.hid (show Below V'.heap.size V' (V'.alloc (.cells #[.string ⟨#[]⟩, .slice none 0 0, .slice none 0 0, .slice none 0 0, .slice none 0 0] 41)).drew from ((Below.refl _ V').alloc (Nat.le_refl _) _).drew)
      have BN := Lib.hid (show (V'.alloc (.cells #[.string ⟨#[]⟩, .slice none 0 0, .slice none 0 0, .slice none 0 0, .slice none 0 0] 41)).drew.heap[V'.heap.size]? = some (.cells #[.string ⟨#[]⟩, .slice none 0 0, .slice none 0 0, .slice none 0 0, .slice none 0 0] 41 (0, 0)) from heap_alloc_new V' _)
      generalize (V'.alloc (.cells #[.string ⟨#[]⟩, .slice none 0 0, .slice none 0 0, .slice none 0 0, .slice none 0 0] 41)).drew = V2 at *
      have B22 := Lib.hid (box_next HV2.out B2'.out)
      obtain ⟨r0, r1, r2, r3, r4⟩ := row5 B22.out
      obtain ⟨s0, s1, s2, s3, s4⟩ := row5 BN.out

      go_wp2_with fail
      go_ret
      exact ⟨ret_bool HQ.out.symm, (HV.out.trans (HV'.out.mono HV.out.size)).trans (HV2.out.mono (Nat.le_trans HV.out.size HV'.out.size))⟩
    | some q =>
      obtain ⟨v, hv, sN, A1, c1', A2, c2', A3, c3', A4, m4, c4', rfl⟩ := hrn.find hg
      have HCQ := Lib.hid (show callQ s nm cs k results = (q.ins.length == k && (q.funs.length == cs.length && ((q.outs.length : Int) == results && cs.all (passQ s)))) by rw [callQ, HCF.out, hg]; rfl)
      clear hg hmn hrn
      go_wp2_with fail
      have HRUN := Lib.hid (fun (W : World) (hW : Below V'.heap.size V' W) => (HMN.out.under hW).look_yes Tryz.underlying83 hv)
      have KEEP := Lib.hid (show ∀ W, Below V'.heap.size V' W → (fun W => W.cell? ⟨w.heap.size, 0, none⟩ = some (.pointer (some ⟨S, 0, none⟩)) ∧ W.cell? ⟨S, 0, none⟩ = some (.pointer (some ⟨P, 0, none⟩)) ∧ W.cell? ⟨P, 2, none⟩ = some (.map (some n1)) ∧ W.cell? ⟨w.heap.size + 1, 1, none⟩ = some (.string (str nm)) ∧ (Instr.lookup 83 (.map (some n1)) (.string (str nm)) true).run Tryz.prog W = .ok (.tuple #[.agg #[.string sN, .slice A1 q.funs.length c1', .slice A2 q.ins.length c2', .slice A3 q.outs.length c3', .slice A4 m4 c4'], .bool true]) W) W from
        fun W hW => by
          obtain ⟨a1, _⟩ := row1' (box_next hW B1'.out)
          obtain ⟨b0, _⟩ := row8 (box_next hW HS'.out.box)
          obtain ⟨_, _, d2, _⟩ := (HS'.out.under hW).prog.row
          obtain ⟨_, g1, _⟩ := row5 (box_next hW B2'.out)
          exact ⟨a1, b0, d2, g1, HRUN.out W hW⟩)
      refine wp_region_held_drew (S := (fun W => W.cell? ⟨w.heap.size, 0, none⟩ = some (.pointer (some ⟨S, 0, none⟩)) ∧ W.cell? ⟨S, 0, none⟩ = some (.pointer (some ⟨P, 0, none⟩)) ∧ W.cell? ⟨P, 2, none⟩ = some (.map (some n1)) ∧ W.cell? ⟨w.heap.size + 1, 1, none⟩ = some (.string (str nm)) ∧ (Instr.lookup 83 (.map (some n1)) (.string (str nm)) true).run Tryz.prog W = .ok (.tuple #[.agg #[.string sN, .slice A1 q.funs.length c1', .slice A2 q.ins.length c2', .slice A3 q.outs.length c3', .slice A4 m4 c4'], .bool true]) W)) (by kernel_rfl) ?_ (fun hHeld => ?_)
      · exact KEEP.out _ (Below.refl _ _).drew
      refine take_at 0 (v := ?_) rfl (by kernel_rfl) (by kernel_rfl) (by kernel_rfl) (fun _ _ _ h => h) (by rfl) ?_ (by assumption) ?_
      rotate_left
      · intro w hSw; (try dsimp only at hSw); go_simp; (try rw [if_neg (by assumption)]); (try rw [if_pos (by omega)]); (try simp only [hSw]); (try with_reducible rfl)
      try simp only [Act.put, List.setIfInBounds_toArray, List.set_cons_zero, List.set_cons_succ]
      refine take_at 1 (v := ?_) rfl (by kernel_rfl) (by kernel_rfl) (by kernel_rfl) (fun _ _ _ h => h) (by rfl) ?_ (by assumption) ?_
      rotate_left
      · intro w hSw; (try dsimp only at hSw); go_simp; (try rw [if_neg (by assumption)]); (try rw [if_pos (by omega)]); (try simp only [hSw]); (try with_reducible rfl)
      try simp only [Act.put, List.setIfInBounds_toArray, List.set_cons_zero, List.set_cons_succ]
      refine take_at 2 (v := ?_) rfl (by kernel_rfl) (by kernel_rfl) (by kernel_rfl) (fun _ _ _ h => h) (by rfl) ?_ (by assumption) ?_
      rotate_left
      · intro w hSw; (try dsimp only at hSw); go_simp; (try rw [if_neg (by assumption)]); (try rw [if_pos (by omega)]); (try simp only [hSw]); (try with_reducible rfl)
      try simp only [Act.put, List.setIfInBounds_toArray, List.set_cons_zero, List.set_cons_succ]
      refine take_at 3 (v := ?_) rfl (by kernel_rfl) (by kernel_rfl) (by kernel_rfl) (fun _ _ _ h => h) (by rfl) ?_ (by assumption) ?_
      rotate_left
      · intro w hSw; (try dsimp only at hSw); go_simp; (try rw [if_neg (by assumption)]); (try rw [if_pos (by omega)]); (try simp only [hSw]); (try with_reducible rfl)
      try simp only [Act.put, List.setIfInBounds_toArray, List.set_cons_zero, List.set_cons_succ]
      refine take_at 4 (v := ?_) rfl (by kernel_rfl) (by kernel_rfl) (by kernel_rfl) (fun _ _ _ h => h) (by rfl) ?_ (by assumption) ?_
      rotate_left
      · intro w hSw; (try dsimp only at hSw); go_simp; (try rw [if_neg (by assumption)]); (try rw [if_pos (by omega)]); (try simp only [hSw]); (try with_reducible rfl)
      try simp only [Act.put, List.setIfInBounds_toArray, List.set_cons_zero, List.set_cons_succ]
      refine take_at 5 (v := ?_) rfl (by kernel_rfl) (by kernel_rfl) (by kernel_rfl) (fun _ _ _ h => h) (by rfl) ?_ (by assumption) ?_
      rotate_left
      · intro w hSw; (try dsimp only at hSw); go_simp; (try rw [if_neg (by assumption)]); (try rw [if_pos (by omega)]); (try simp only [hSw]); (try with_reducible rfl)
      try simp only [Act.put, List.setIfInBounds_toArray, List.set_cons_zero, List.set_cons_succ]
      refine take_at 6 (v := ?_) rfl (by kernel_rfl) (by kernel_rfl) (by kernel_rfl) (fun _ _ _ h => h) (by rfl) ?_ (by assumption) ?_
      rotate_left
      · intro w hSw; (try dsimp only at hSw); go_simp; (try rw [if_neg (by assumption)]); (try rw [if_pos (by omega)]); (try simp only [hSw]); (try with_reducible rfl)
      try simp only [Act.put, List.setIfInBounds_toArray, List.set_cons_zero, List.set_cons_succ]
      refine take_at 7 (v := ?_) rfl (by kernel_rfl) (by kernel_rfl) (by kernel_rfl) (fun _ _ _ h => h) (by rfl) ?_ (by assumption) ?_
      rotate_left
      · intro w hSw; (try dsimp only at hSw); go_simp; (try rw [if_neg (by assumption)]); (try rw [if_pos (by omega)]); (try simp only [hSw]); (try with_reducible rfl)
      try simp only [Act.put, List.setIfInBounds_toArray, List.set_cons_zero, List.set_cons_succ]
      refine take_at 8 (v := ?_) rfl (by kernel_rfl) (by kernel_rfl) (by kernel_rfl) (fun _ _ _ h => h) (by rfl) ?_ (by assumption) ?_
      rotate_left
      · intro w hSw; (try dsimp only at hSw); go_simp; (try rw [if_neg (by assumption)]); (try rw [if_pos (by omega)]); (try simp only [hSw]); (try with_reducible rfl)
      try simp only [Act.put, List.setIfInBounds_toArray, List.set_cons_zero, List.set_cons_succ]
      refine take_at 9 (v := ?_) rfl (by kernel_rfl) (by kernel_rfl) (by kernel_rfl) (fun _ _ _ h => h) (by rfl) ?_ (by assumption) ?_
      rotate_left
      · intro w hSw; (try dsimp only at hSw); go_simp; (try rw [if_neg (by assumption)]); (try rw [if_pos (by omega)]); (try simp only [hSw]); (try with_reducible rfl)
      try simp only [Act.put, List.setIfInBounds_toArray, List.set_cons_zero, List.set_cons_succ]
      refine take_at 10 (v := ?_) rfl (by kernel_rfl) (by kernel_rfl) (by kernel_rfl) (fun _ _ _ h => h) (by rfl) ?_ (by assumption) ?_
      rotate_left
      · intro w hSw; (try dsimp only at hSw); go_simp; (try rw [if_neg (by assumption)]); (try rw [if_pos (by omega)]); (try simp only [hSw]); (try with_reducible rfl)
      try simp only [Act.put, List.setIfInBounds_toArray, List.set_cons_zero, List.set_cons_succ]
      refine take_at 11 (v := ?_) rfl (by kernel_rfl) (by kernel_rfl) (by kernel_rfl) (fun _ _ _ h => h) (by rfl) ?_ (by assumption) ?_
      rotate_left
      · intro w hSw; (try dsimp only at hSw); go_simp; (try rw [if_neg (by assumption)]); (try rw [if_pos (by omega)]); (try simp only [hSw]); (try with_reducible rfl)
      try simp only [Act.put, List.setIfInBounds_toArray, List.set_cons_zero, List.set_cons_succ]
      refine take_at 12 (v := ?_) rfl (by kernel_rfl) (by kernel_rfl) (by kernel_rfl) (fun _ _ _ h => h) (by rfl) ?_ (by assumption) ?_
      rotate_left
      · intro w hSw; (try dsimp only at hSw); go_simp; (try rw [if_neg (by assumption)]); (try rw [if_pos (by omega)]); (try simp only [hSw]); (try with_reducible rfl)
      try simp only [Act.put, List.setIfInBounds_toArray, List.set_cons_zero, List.set_cons_succ]
      refine only_at 13 (by kernel_rfl) rfl (fun K hK => ?_)
      go_simp
      refine hK.out _ _ (KEEP.out _ ?_) (fun hHeld => ?_)
      · (repeat (first | exact Below.refl _ _ | exact Below.refl _ _ | refine Below.drew ?_ | refine Below.alloc ?_ (by simp) _ | refine Below.setCell ?_ (by simp) _))
      clear hK K
      try simp only [Act.put, List.setIfInBounds_toArray, List.set_cons_zero, List.set_cons_succ]
      refine only_at 14 (by kernel_rfl) rfl (fun K hK => ?_)
      go_simp
      refine hK.out _ _ (KEEP.out _ ?_) (fun hHeld => ?_)
      · (repeat (first | exact Below.refl _ _ | exact Below.refl _ _ | refine Below.drew ?_ | refine Below.alloc ?_ (by simp) _ | refine Below.setCell ?_ (by simp) _))
      clear hK K
      try simp only [Act.put, List.setIfInBounds_toArray, List.set_cons_zero, List.set_cons_succ]
      refine take_at 15 (v := ?_) rfl (by kernel_rfl) (by kernel_rfl) (by kernel_rfl) (fun _ _ _ h => h) (by rfl) ?_ (by assumption) ?_
      rotate_left
      · intro w hSw; (try dsimp only at hSw); go_simp; (try rw [if_neg (by assumption)]); (try rw [if_pos (by omega)]); (try simp only [hSw]); (try with_reducible rfl)
      try simp only [Act.put, List.setIfInBounds_toArray, List.set_cons_zero, List.set_cons_succ]
      refine wpAnyH_done (by kernel_rfl) ?_ _
      have HV2 := Lib.hid (show Below V'.heap.size V' (V'.alloc (.cells #[.string sN, .slice A1 q.funs.length c1', .slice A2 q.ins.length c2', .slice A3 q.outs.length c3', .slice A4 m4 c4'] 41)).drew from ((Below.refl _ V').alloc (Nat.le_refl _) _).drew)
      have BN := Lib.hid (show (V'.alloc (.cells #[.string sN, .slice A1 q.funs.length c1', .slice A2 q.ins.length c2', .slice A3 q.outs.length c3', .slice A4 m4 c4'] 41)).drew.heap[V'.heap.size]? = some (.cells #[.string sN, .slice A1 q.funs.length c1', .slice A2 q.ins.length c2', .slice A3 q.outs.length c3', .slice A4 m4 c4'] 41 (0, 0)) from heap_alloc_new V' _)
      generalize (V'.alloc (.cells #[.string sN, .slice A1 q.funs.length c1', .slice A2 q.ins.length c2', .slice A3 q.outs.length c3', .slice A4 m4 c4'] 41)).drew = V2 at *
      have B22 := Lib.hid (box_next HV2.out B2'.out)
      obtain ⟨r0, r1, r2, r3, r4⟩ := row5 B22.out
      obtain ⟨s0, s1, s2, s3, s4⟩ := row5 BN.out
      by_cases hA : q.ins.length = k
      · have bA : ((q.ins.length : Int) == (k : Int)) = true := by simp [hA]
        have HA := Lib.hid (show (q.ins.length == k) = true by simp [hA])
        clear hA
        by_cases hB : q.funs.length = cs.length
        · have bB : ((q.funs.length : Int) == (cs.length : Int)) = true := by simp [hB]
          have HB := Lib.hid (show (q.funs.length == cs.length) = true by simp [hB])
          clear hB
          by_cases hC : (q.outs.length : Int) = results
          · have bC : ((q.outs.length : Int) == results) = true := by simp [hC]
            have HC := Lib.hid bC
            clear hC
            have HW2 := Lib.hid (HV'.out.trans (HV2.out.mono HV'.out.size))
            have HCL := Lib.hid (containsFS_any (HCS.out.under (HV.out.trans (HW2.out.mono HV.out.size))) enter134 (f := fun x => !passQ s x) (cap := #[.pointer (some ⟨w.heap.size, 0, none⟩)]) (fun x _ hx => callC_any (HS'.out.under HV2.out) (box_next HV2.out B1'.out) hx))
            have HFIN := Lib.hid (show (!cs.any (fun x => !passQ s x)) = callQ s nm cs k results by rw [HCQ.out, HA.out, HB.out, HC.out]; simp [List.any_eq_not_all_not])
            go_wp2_with (go_at_call 75
                         (with_reducible refine (HCL.out _ (Below.refl _ _)).mono ?_)
                         rintro e w7 ⟨rfl, hb7⟩)
            go_ret
            exact ⟨ret_bool HFIN.out, ((HV.out.trans (HV'.out.mono HV.out.size)).trans (HV2.out.mono (Nat.le_trans HV.out.size HV'.out.size))).trans (hb7.mono (Nat.le_trans (Nat.le_trans HV.out.size HV'.out.size) HV2.out.size))⟩
          · have bC : ((q.outs.length : Int) == results) = false := by simp [hC]
            have HQ := Lib.hid (show callQ s nm cs k results = false by rw [HCQ.out, HA.out, HB.out, bC]; rfl)
            clear hC
            go_wp2_with fail
            go_ret
            exact ⟨ret_bool HQ.out.symm, (HV.out.trans (HV'.out.mono HV.out.size)).trans (HV2.out.mono (Nat.le_trans HV.out.size HV'.out.size))⟩
        · have bB : ((q.funs.length : Int) == (cs.length : Int)) = false := by simp; omega
          have HQ := Lib.hid (show callQ s nm cs k results = false by rw [HCQ.out, HA.out, beq_eq_false_iff_ne.2 hB]; rfl)
          clear hB
          go_wp2_with fail
          go_ret
          exact ⟨ret_bool HQ.out.symm, (HV.out.trans (HV'.out.mono HV.out.size)).trans (HV2.out.mono (Nat.le_trans HV.out.size HV'.out.size))⟩
      · have bA : ((q.ins.length : Int) == (k : Int)) = false := by simp; omega
        have HQ := Lib.hid (show callQ s nm cs k results = false by rw [HCQ.out, beq_eq_false_iff_ne.2 hA]; rfl)
        clear hA
        go_wp2_with fail
        go_ret
        exact ⟨ret_bool HQ.out.symm, (HV.out.trans (HV'.out.mono HV.out.size)).trans (HV2.out.mono (Nat.le_trans HV.out.size HV'.out.size))⟩
  · have HCF := Lib.hid hc
    have HQ := Lib.hid (show callQ s nm cs k results = ((cs.length : Int) == 0) by rw [callQ, if_pos hc, len_eq0])
    clear hc
    go_wp2_with fail
    go_ret
    exact ⟨ret_bool HQ.out.symm, HV.out.trans (HV'.out.mono HV.out.size)⟩
end
end Go.Proofs.YtbpbnebcbjacdaaGreat
namespace Go.Proofs.YtbpbnebcbjacdaaGreat
open Go.RowKit

def kidR (op r i : Int) : Int := if op = 15 ∧ i = 0 then r else 1
def KidPost (op r i : Int) (u : Bool) (w : World) (e : Ending) (w' : World) : Prop := e = .returned (.agg #[.int .i64 (kidR op r i), .bool (u || op == 13)]) ∧ Below w.heap.size w w'
theorem place_size : (Tryz.prog.info? 116).map (·.size) = some 2 := by kernel_rfl
set_option maxRecDepth 100000 in
theorem kid_results {tmps : Array Value} {w : World} {N : Nat} {x0 x1 : Value} (hp : tmps.getD 6 undef = .pointer (some ⟨N, 0, none⟩)) (hg : w.heap[N]? = some (.cells #[x0, x1] 116 (0, 0))) :
    (results Tryz.f102 tmps).run Tryz.prog w = .ok (.agg #[x0, x1]) w :=
  results_cell_row Tryz.results102 tmps w N 116 _ (0, 0) _ hp hg Tryz.underlying116 rfl place_size
set_option maxHeartbeats 2000000 in
set_option maxRecDepth 100000 in
theorem kid_any (op r i n : Int) (u : Bool) (s0 : ByteArray) (A B : Option Addr) (m1 j1 m2 j2 : Nat) (w : World) : Calls Tryz.prog 102 #[.agg #[.int .i64 r, .bool u], .agg #[.int .i64 op, .string s0, .int .i64 n, .slice A m1 j1, .slice B m2 j2], .int .i64 i] w (KidPost op r i u w) := by
  cases u
  · by_cases h15 : op = 15
    · subst h15
      by_cases hi : i = 0
      · subst hi
        have HR := Lib.hid (show kidR 15 r 0 = r by simp [kidR])
        go_enter Tryz.func102, Tryz.ntmps102
        go_wp2_with fail
        exact bodyPost_ret (kid_results rfl (alloc_below (alloc_at (by simp)))) rfl ⟨by rw [HR.out]; rfl, (((((Below.refl _ w).alloc (Nat.le_refl _) _).alloc (by simp) _).alloc (by simp; omega) _).alloc (by simp; omega) _)⟩
      · have hb : (i == 0) = false := by simp [hi]
        have HR := Lib.hid (show kidR 15 r i = 1 by simp [kidR, hi])
        clear hi
        go_enter Tryz.func102, Tryz.ntmps102
        go_wp2_with fail
        exact bodyPost_ret (kid_results rfl (alloc_below (alloc_at (by simp)))) rfl ⟨by rw [HR.out]; rfl, (((((Below.refl _ w).alloc (Nat.le_refl _) _).alloc (by simp) _).alloc (by simp; omega) _).alloc (by simp; omega) _)⟩
    · have hb : (op == 15) = false := by simp [h15]
      have HR := Lib.hid (show kidR op r i = 1 by simp [kidR, h15])
      clear h15
      go_enter Tryz.func102, Tryz.ntmps102
      go_wp2_with fail
      exact bodyPost_ret (kid_results rfl (alloc_below (alloc_at (by simp)))) rfl ⟨by rw [HR.out]; simp, (((((Below.refl _ w).alloc (Nat.le_refl _) _).alloc (by simp) _).alloc (by simp; omega) _).alloc (by simp; omega) _)⟩
  · by_cases h15 : op = 15
    · subst h15
      by_cases hi : i = 0
      · subst hi
        have HR := Lib.hid (show kidR 15 r 0 = r by simp [kidR])
        go_enter Tryz.func102, Tryz.ntmps102
        go_wp2_with fail
        exact bodyPost_ret (kid_results rfl (alloc_below (alloc_at (by simp)))) rfl ⟨by rw [HR.out]; simp, (((((Below.refl _ w).alloc (Nat.le_refl _) _).alloc (by simp) _).alloc (by simp; omega) _).alloc (by simp; omega) _)⟩
      · have hb : (i == 0) = false := by simp [hi]
        have HR := Lib.hid (show kidR 15 r i = 1 by simp [kidR, hi])
        clear hi
        go_enter Tryz.func102, Tryz.ntmps102
        go_wp2_with fail
        exact bodyPost_ret (kid_results rfl (alloc_below (alloc_at (by simp)))) rfl ⟨by rw [HR.out]; simp, (((((Below.refl _ w).alloc (Nat.le_refl _) _).alloc (by simp) _).alloc (by simp; omega) _).alloc (by simp; omega) _)⟩
    · have hb : (op == 15) = false := by simp [h15]
      have HR := Lib.hid (show kidR op r i = 1 by simp [kidR, h15])
      clear h15
      go_enter Tryz.func102, Tryz.ntmps102
      go_wp2_with fail
      exact bodyPost_ret (kid_results rfl (alloc_below (alloc_at (by simp)))) rfl ⟨by rw [HR.out]; simp, (((((Below.refl _ w).alloc (Nat.le_refl _) _).alloc (by simp) _).alloc (by simp; omega) _).alloc (by simp; omega) _)⟩
end Go.Proofs.YtbpbnebcbjacdaaGreat
