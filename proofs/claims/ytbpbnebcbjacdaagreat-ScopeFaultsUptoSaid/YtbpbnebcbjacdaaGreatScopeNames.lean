/-
  names: may an expression stand where it stands, but for what is inside its kids?
-/
import Derived.Test.YtbpbnebcbjacdaaGreatScopeKid
namespace Go.Proofs.YtbpbnebcbjacdaaGreat
open Go.RowKit
open Go.ChangeMaps Go.MapKept
open Go.Maps

section
variable {S P e1 c1 n1 t1 f1 v1 : Nat} {nd : Value × Value × Value × Value × Value} {s : SNode}
set_option maxHeartbeats 8000000 in
set_option maxRecDepth 100000 in
theorem names4 {w : World} (h : NScope w S P e1 c1 n1 t1 f1 v1 nd s) {n : Int} {nm : Tx} {A B : Option Addr} {cs : List Tx} {ca k kc : Nat} (hnm : nm.length ≤ maxLen) (hcs : StrsAt w (.slice A cs.length ca) cs) (r : Int) (u : Bool) :
    Calls Tryz.prog 101 #[.pointer (some ⟨S, 0, none⟩), .agg #[.int .i64 4, .string (str nm), .int .i64 n, .slice A cs.length ca, .slice B k kc], .agg #[.int .i64 r, .bool u]] w (BoolPost (usesName s 4 nm cs k r u) w) := by
  have HS := Lib.hid h
  have HNM := Lib.hid hnm
  have HCS := Lib.hid hcs
  have hlc : cs.length ≤ 9223372036854775807 := by obtain ⟨_, _, e, h1, h2, _⟩ := hcs; injection e with _ _ e3; unfold maxLen at h2; omega
  clear h hnm hcs
  obtain ⟨b, hb⟩ : ∃ b, s.vars.contains nm = b := ⟨_, rfl⟩
  have HBQ := Lib.hid hb
  have HQ := Lib.hid (show usesName s 4 nm cs k r u = b by rw [← hb]; simp [usesName])
  clear hb
  go_enter Tryz.func101, Tryz.ntmps101
  go_wp2_with fail
  have a1 : Below w.heap.size w (w.alloc (.cells #[.int .i64 4, .string (str nm), .int .i64 n, .slice A cs.length ca, .slice B k kc] 50)) := (Below.refl _ w).alloc (Nat.le_refl _) _
  have HV := Lib.hid (a1.alloc (by simp) (.cells #[.int .i64 r, .bool u] 116))
  have B1 := Lib.hid (alloc_below (o := .cells #[.int .i64 r, .bool u] 116) (heap_alloc_new w (.cells #[.int .i64 4, .string (str nm), .int .i64 n, .slice A cs.length ca, .slice B k kc] 50)))
  have B2 := Lib.hid (show ((w.alloc (.cells #[.int .i64 4, .string (str nm), .int .i64 n, .slice A cs.length ca, .slice B k kc] 50)).alloc (.cells #[.int .i64 r, .bool u] 116)).heap[w.heap.size + 1]? = some (.cells #[.int .i64 r, .bool u] 116 (0, 0)) from alloc_at (by simp))
  generalize (w.alloc (.cells #[.int .i64 4, .string (str nm), .int .i64 n, .slice A cs.length ca, .slice B k kc] 50)).alloc (.cells #[.int .i64 r, .bool u] 116) = V at *
  clear a1
  have HSV := Lib.hid (HS.out.under HV.out)
  have KEEP := Lib.hid (show ∀ W, Below V.heap.size V W → (fun W => W.cell? ⟨S, 0, none⟩ = some (.pointer (some ⟨P, 0, none⟩)) ∧ W.cell? ⟨S, 7, none⟩ = some (.map (some v1)) ∧ W.cell? ⟨P, 1, none⟩ = some (.map (some c1)) ∧ W.cell? ⟨w.heap.size, 1, none⟩ = some (.string (str nm)) ∧ W.cell? ⟨w.heap.size, 3, none⟩ = some (.slice A cs.length ca) ∧ W.cell? ⟨w.heap.size + 1, 1, none⟩ = some (.bool u)) W from
    fun W hW => by
      obtain ⟨b0, _, _, _, _, _, _, b7⟩ := row8 (box_next hW HSV.out.box)
      obtain ⟨_, d1, _, _⟩ := (HSV.out.under hW).prog.row
      obtain ⟨_, g1, _, g3, _⟩ := row5 (box_next hW B1.out)
      obtain ⟨_, j1⟩ := row2 (box_next hW B2.out)
      exact ⟨b0, b7, d1, g1, g3, j1⟩)
  obtain ⟨lv, hmv, hkv, hsv⟩ := HSV.out.mv
  have HMV := Lib.hid hmv
  have HKV := Lib.hid hkv
  have HSH := Lib.hid hsv
  clear hmv hkv hsv
  refine wp_region_held_drew (S := (fun W => W.cell? ⟨S, 0, none⟩ = some (.pointer (some ⟨P, 0, none⟩)) ∧ W.cell? ⟨S, 7, none⟩ = some (.map (some v1)) ∧ W.cell? ⟨P, 1, none⟩ = some (.map (some c1)) ∧ W.cell? ⟨w.heap.size, 1, none⟩ = some (.string (str nm)) ∧ W.cell? ⟨w.heap.size, 3, none⟩ = some (.slice A cs.length ca) ∧ W.cell? ⟨w.heap.size + 1, 1, none⟩ = some (.bool u))) (by kernel_rfl) ?_ (fun hHeld => ?_)
  · exact KEEP.out _ (Below.refl _ _).drew
  refine take_now 0 rfl ?_
  try simp only [Act.put, setA, setZ, setS]
  refine take_now 1 rfl ?_
  try simp only [Act.put, setA, setZ, setS]
  refine take_now 2 rfl ?_
  try simp only [Act.put, setA, setZ, setS]
  refine take_now 3 rfl ?_
  try simp only [Act.put, setA, setZ, setS]
  refine take_now 4 rfl ?_
  try simp only [Act.put, setA, setZ, setS]
  refine take_now 5 rfl ?_
  try simp only [Act.put, setA, setZ, setS]
  refine only_at 6 (by kernel_rfl) rfl (fun K hK => ?_)
  go_simp
  (go_at_call 96
   (with_reducible refine (knownI_any (HMV.out.under (Below.refl V.heap.size V).drew) HSH.out HNM.out).mono ?_)
   rintro e w7 ⟨he, hb7⟩
   rw [HKV.out, HBQ.out] at he
   subst he
   obtain ⟨G1w, rfl⟩ : ∃ W, W = w7 := ⟨_, rfl⟩
   have G1 := Lib.hid (((Below.refl V.heap.size V).drew).trans (hb7.mono ((Below.refl V.heap.size V).drew).size))
   clear hb7)
  refine hK.out _ _ (KEEP.out _ ?_) (fun hHeld => ?_)
  · (repeat (first | exact Below.refl _ _ | exact G1.out | refine Below.drew ?_ | refine Below.alloc ?_ (by simp) _ | refine Below.setCell ?_ (by simp) _))
  clear hK K
  try simp only [Act.put, setA, setZ, setS]
  refine take_now 7 rfl ?_
  try simp only [Act.put, setA, setZ, setS]
  refine wpAnyH_done (by kernel_rfl) ?_ _
  go_wp2_with fail
  go_ret
  exact ⟨ret_bool HQ.out.symm, HV.out.trans (G1.out.mono HV.out.size)⟩
set_option maxHeartbeats 8000000 in
set_option maxRecDepth 100000 in
theorem names3 {w : World} (h : NScope w S P e1 c1 n1 t1 f1 v1 nd s) {n : Int} {nm : Tx} {A B : Option Addr} {cs : List Tx} {ca k kc : Nat} (hnm : nm.length ≤ maxLen) (hcs : StrsAt w (.slice A cs.length ca) cs) (r : Int) (u : Bool) :
    Calls Tryz.prog 101 #[.pointer (some ⟨S, 0, none⟩), .agg #[.int .i64 3, .string (str nm), .int .i64 n, .slice A cs.length ca, .slice B k kc], .agg #[.int .i64 r, .bool u]] w (BoolPost (usesName s 3 nm cs k r u) w) := by
  have HS := Lib.hid h
  have HNM := Lib.hid hnm
  have HCS := Lib.hid hcs
  have hlc : cs.length ≤ 9223372036854775807 := by obtain ⟨_, _, e, h1, h2, _⟩ := hcs; injection e with _ _ e3; unfold maxLen at h2; omega
  clear h hnm hcs
  obtain ⟨b, hb⟩ : ∃ b, s.prog.conKeys.contains nm = b := ⟨_, rfl⟩
  have HBQ := Lib.hid hb
  have HQ := Lib.hid (show usesName s 3 nm cs k r u = b by rw [← hb]; simp [usesName])
  clear hb
  go_enter Tryz.func101, Tryz.ntmps101
  go_wp2_with fail
  have a1 : Below w.heap.size w (w.alloc (.cells #[.int .i64 3, .string (str nm), .int .i64 n, .slice A cs.length ca, .slice B k kc] 50)) := (Below.refl _ w).alloc (Nat.le_refl _) _
  have HV := Lib.hid (a1.alloc (by simp) (.cells #[.int .i64 r, .bool u] 116))
  have B1 := Lib.hid (alloc_below (o := .cells #[.int .i64 r, .bool u] 116) (heap_alloc_new w (.cells #[.int .i64 3, .string (str nm), .int .i64 n, .slice A cs.length ca, .slice B k kc] 50)))
  have B2 := Lib.hid (show ((w.alloc (.cells #[.int .i64 3, .string (str nm), .int .i64 n, .slice A cs.length ca, .slice B k kc] 50)).alloc (.cells #[.int .i64 r, .bool u] 116)).heap[w.heap.size + 1]? = some (.cells #[.int .i64 r, .bool u] 116 (0, 0)) from alloc_at (by simp))
  generalize (w.alloc (.cells #[.int .i64 3, .string (str nm), .int .i64 n, .slice A cs.length ca, .slice B k kc] 50)).alloc (.cells #[.int .i64 r, .bool u] 116) = V at *
  clear a1
  have HSV := Lib.hid (HS.out.under HV.out)
  have KEEP := Lib.hid (show ∀ W, Below V.heap.size V W → (fun W => W.cell? ⟨S, 0, none⟩ = some (.pointer (some ⟨P, 0, none⟩)) ∧ W.cell? ⟨S, 7, none⟩ = some (.map (some v1)) ∧ W.cell? ⟨P, 1, none⟩ = some (.map (some c1)) ∧ W.cell? ⟨w.heap.size, 1, none⟩ = some (.string (str nm)) ∧ W.cell? ⟨w.heap.size, 3, none⟩ = some (.slice A cs.length ca) ∧ W.cell? ⟨w.heap.size + 1, 1, none⟩ = some (.bool u)) W from
    fun W hW => by
      obtain ⟨b0, _, _, _, _, _, _, b7⟩ := row8 (box_next hW HSV.out.box)
      obtain ⟨_, d1, _, _⟩ := (HSV.out.under hW).prog.row
      obtain ⟨_, g1, _, g3, _⟩ := row5 (box_next hW B1.out)
      obtain ⟨_, j1⟩ := row2 (box_next hW B2.out)
      exact ⟨b0, b7, d1, g1, g3, j1⟩)
  obtain ⟨lc, hmc, hrc⟩ := HSV.out.prog.mc
  have HMC := Lib.hid hmc
  have HRC := Lib.hid hrc
  clear hmc hrc
  refine wp_region_held_drew (S := (fun W => W.cell? ⟨S, 0, none⟩ = some (.pointer (some ⟨P, 0, none⟩)) ∧ W.cell? ⟨S, 7, none⟩ = some (.map (some v1)) ∧ W.cell? ⟨P, 1, none⟩ = some (.map (some c1)) ∧ W.cell? ⟨w.heap.size, 1, none⟩ = some (.string (str nm)) ∧ W.cell? ⟨w.heap.size, 3, none⟩ = some (.slice A cs.length ca) ∧ W.cell? ⟨w.heap.size + 1, 1, none⟩ = some (.bool u))) (by kernel_rfl) ?_ (fun hHeld => ?_)
  · exact KEEP.out _ (Below.refl _ _).drew
  refine take_now 0 rfl ?_
  try simp only [Act.put, setA, setZ, setS]
  refine take_now 1 rfl ?_
  try simp only [Act.put, setA, setZ, setS]
  refine take_now 2 rfl ?_
  try simp only [Act.put, setA, setZ, setS]
  refine take_now 3 rfl ?_
  try simp only [Act.put, setA, setZ, setS]
  refine take_now 4 rfl ?_
  try simp only [Act.put, setA, setZ, setS]
  refine take_now 5 rfl ?_
  try simp only [Act.put, setA, setZ, setS]
  refine take_now 6 rfl ?_
  try simp only [Act.put, setA, setZ, setS]
  refine take_now 7 rfl ?_
  try simp only [Act.put, setA, setZ, setS]
  refine take_now 8 rfl ?_
  try simp only [Act.put, setA, setZ, setS]
  refine only_at 9 (by kernel_rfl) rfl (fun K hK => ?_)
  go_simp
  (go_at_call 70
   (with_reducible refine (knownE_any (HMC.out.under (Below.refl V.heap.size V).drew) HRC.out.sh HNM.out).mono ?_)
   rintro e w7 ⟨he, hb7⟩
   rw [HRC.out.1, show s.prog.cons.map Prod.fst = s.prog.conKeys from rfl, HBQ.out] at he
   subst he
   obtain ⟨G1w, rfl⟩ : ∃ W, W = w7 := ⟨_, rfl⟩
   have G1 := Lib.hid (((Below.refl V.heap.size V).drew).trans (hb7.mono ((Below.refl V.heap.size V).drew).size))
   clear hb7)
  refine hK.out _ _ (KEEP.out _ ?_) (fun hHeld => ?_)
  · (repeat (first | exact Below.refl _ _ | exact G1.out | refine Below.drew ?_ | refine Below.alloc ?_ (by simp) _ | refine Below.setCell ?_ (by simp) _))
  clear hK K
  try simp only [Act.put, setA, setZ, setS]
  refine take_now 10 rfl ?_
  try simp only [Act.put, setA, setZ, setS]
  refine wpAnyH_done (by kernel_rfl) ?_ _
  go_wp2_with fail
  go_ret
  exact ⟨ret_bool HQ.out.symm, HV.out.trans (G1.out.mono HV.out.size)⟩
set_option maxHeartbeats 8000000 in
set_option maxRecDepth 100000 in
theorem names11 {w : World} (h : NScope w S P e1 c1 n1 t1 f1 v1 nd s) {n : Int} {nm : Tx} {A B : Option Addr} {cs : List Tx} {ca k kc : Nat} (hnm : nm.length ≤ maxLen) (hcs : StrsAt w (.slice A cs.length ca) cs) (r : Int) (u : Bool) (hne : cs ≠ []) :
    Calls Tryz.prog 101 #[.pointer (some ⟨S, 0, none⟩), .agg #[.int .i64 11, .string (str nm), .int .i64 n, .slice A cs.length ca, .slice B k kc], .agg #[.int .i64 r, .bool u]] w (BoolPost (usesName s 11 nm cs k r u) w) := by
  have HS := Lib.hid h
  have HNM := Lib.hid hnm
  have HCS := Lib.hid hcs
  have hlc : cs.length ≤ 9223372036854775807 := by obtain ⟨_, _, e, h1, h2, _⟩ := hcs; injection e with _ _ e3; unfold maxLen at h2; omega
  clear h hnm hcs
  have HQ := Lib.hid (show usesName s 11 nm cs k r u = (!u && (s.vars.contains nm && s.prog.conKeys.contains (cs.headD []))) by simp [usesName])
  obtain ⟨c0, rr, hcc⟩ := List.exists_cons_of_ne_nil hne
  have HE0 := Lib.hid (show ∃ a, A = some a ∧ a.block < w.heap.size ∧ w.cell? a = some (.string (str c0)) ∧ c0.length ≤ maxLen by
    obtain ⟨A', c', e', _, _, he⟩ := HCS.out
    injection e' with e1 _ _
    obtain ⟨L0, hE0, rfl, hcl⟩ := he 0 c0 (by rw [hcc]; rfl)
    obtain ⟨a, ea, hab, _, q0⟩ := elem1 hE0
    simp only [Nat.zero_mul] at q0
    rw [add_zero] at q0
    exact ⟨a, e1.trans ea, hab, q0, hcl⟩)
  have HHD := Lib.hid (show cs.headD [] = c0 by rw [hcc]; rfl)
  have hpos : 0 < cs.length := by rw [hcc]; simp
  clear hne hcc
  obtain ⟨a, rfl, hab, q0, hcl⟩ := HE0.out
  have HCL := Lib.hid hcl
  obtain ⟨b, hb⟩ : ∃ b, s.prog.conKeys.contains c0 = b := ⟨_, rfl⟩
  have HBQ := Lib.hid hb
  clear hcl hb
  go_enter Tryz.func101, Tryz.ntmps101
  go_wp2_with fail
  have a1 : Below w.heap.size w (w.alloc (.cells #[.int .i64 11, .string (str nm), .int .i64 n, .slice (some a) cs.length ca, .slice B k kc] 50)) := (Below.refl _ w).alloc (Nat.le_refl _) _
  have HV := Lib.hid (a1.alloc (by simp) (.cells #[.int .i64 r, .bool u] 116))
  have B1 := Lib.hid (alloc_below (o := .cells #[.int .i64 r, .bool u] 116) (heap_alloc_new w (.cells #[.int .i64 11, .string (str nm), .int .i64 n, .slice (some a) cs.length ca, .slice B k kc] 50)))
  have B2 := Lib.hid (show ((w.alloc (.cells #[.int .i64 11, .string (str nm), .int .i64 n, .slice (some a) cs.length ca, .slice B k kc] 50)).alloc (.cells #[.int .i64 r, .bool u] 116)).heap[w.heap.size + 1]? = some (.cells #[.int .i64 r, .bool u] 116 (0, 0)) from alloc_at (by simp))
  generalize (w.alloc (.cells #[.int .i64 11, .string (str nm), .int .i64 n, .slice (some a) cs.length ca, .slice B k kc] 50)).alloc (.cells #[.int .i64 r, .bool u] 116) = V at *
  clear a1
  have HSV := Lib.hid (HS.out.under HV.out)
  have KEEP := Lib.hid (show ∀ W, Below V.heap.size V W → (fun W => W.cell? ⟨S, 0, none⟩ = some (.pointer (some ⟨P, 0, none⟩)) ∧ W.cell? ⟨S, 7, none⟩ = some (.map (some v1)) ∧ W.cell? ⟨P, 1, none⟩ = some (.map (some c1)) ∧ W.cell? ⟨w.heap.size, 1, none⟩ = some (.string (str nm)) ∧ W.cell? ⟨w.heap.size, 3, none⟩ = some (.slice (some a) cs.length ca) ∧ W.cell? ⟨w.heap.size + 1, 1, none⟩ = some (.bool u) ∧ W.cell? a = some (.string (str c0))) W from
    fun W hW => by
      obtain ⟨b0, _, _, _, _, _, _, b7⟩ := row8 (box_next hW HSV.out.box)
      obtain ⟨_, d1, _, _⟩ := (HSV.out.under hW).prog.row
      obtain ⟨_, g1, _, g3, _⟩ := row5 (box_next hW B1.out)
      obtain ⟨_, j1⟩ := row2 (box_next hW B2.out)
      exact ⟨b0, b7, d1, g1, g3, j1, (hW.cell (p := a) (Nat.lt_of_lt_of_le hab HV.out.size)).trans ((HV.out.cell (p := a) hab).trans q0)⟩)
  obtain ⟨lv, hmv, hkv, hsv⟩ := HSV.out.mv
  have HMV := Lib.hid hmv
  have HKV := Lib.hid hkv
  have HSH := Lib.hid hsv
  clear hmv hkv hsv
  obtain ⟨lc, hmc, hrc⟩ := HSV.out.prog.mc
  have HMC := Lib.hid hmc
  have HRC := Lib.hid hrc
  clear hmc hrc
  cases u
  · cases hc : s.vars.contains nm
    · have HC := Lib.hid hc
      clear hc
      refine wp_region_held_drew (S := (fun W => W.cell? ⟨S, 0, none⟩ = some (.pointer (some ⟨P, 0, none⟩)) ∧ W.cell? ⟨S, 7, none⟩ = some (.map (some v1)) ∧ W.cell? ⟨P, 1, none⟩ = some (.map (some c1)) ∧ W.cell? ⟨w.heap.size, 1, none⟩ = some (.string (str nm)) ∧ W.cell? ⟨w.heap.size, 3, none⟩ = some (.slice (some a) cs.length ca) ∧ W.cell? ⟨w.heap.size + 1, 1, none⟩ = some (.bool false) ∧ W.cell? a = some (.string (str c0)))) (by kernel_rfl) ?_ (fun hHeld => ?_)
      · exact KEEP.out _ (Below.refl _ _).drew
      refine take_now 0 rfl ?_
      try simp only [Act.put, setA, setZ, setS]
      refine take_now 1 rfl ?_
      try simp only [Act.put, setA, setZ, setS]
      refine take_now 2 rfl ?_
      try simp only [Act.put, setA, setZ, setS]
      refine take_now 3 rfl ?_
      try simp only [Act.put, setA, setZ, setS]
      refine take_now 4 rfl ?_
      try simp only [Act.put, setA, setZ, setS]
      refine take_now 5 rfl ?_
      try simp only [Act.put, setA, setZ, setS]
      refine take_now 6 rfl ?_
      try simp only [Act.put, setA, setZ, setS]
      refine take_now 7 rfl ?_
      try simp only [Act.put, setA, setZ, setS]
      refine take_now 8 rfl ?_
      try simp only [Act.put, setA, setZ, setS]
      refine take_now 9 rfl ?_
      try simp only [Act.put, setA, setZ, setS]
      refine only_at 10 (by kernel_rfl) rfl (fun K hK => ?_)
      go_simp
      (go_at_call 96
       (with_reducible refine (knownI_any (HMV.out.under (Below.refl V.heap.size V).drew) HSH.out HNM.out).mono ?_)
       rintro e w7 ⟨he, hb7⟩
       rw [HKV.out, HC.out] at he
       subst he
       obtain ⟨G1w, rfl⟩ : ∃ W, W = w7 := ⟨_, rfl⟩
       have G1 := Lib.hid (((Below.refl V.heap.size V).drew).trans (hb7.mono ((Below.refl V.heap.size V).drew).size))
       clear hb7)
      refine hK.out _ _ (KEEP.out _ ?_) (fun hHeld => ?_)
      · (repeat (first | exact Below.refl _ _ | exact G1.out | refine Below.drew ?_ | refine Below.alloc ?_ (by simp) _ | refine Below.setCell ?_ (by simp) _))
      clear hK K
      try simp only [Act.put, setA, setZ, setS]
      refine take_now 11 rfl ?_
      try simp only [Act.put, setA, setZ, setS]
      refine take_now 12 rfl ?_
      try simp only [Act.put, setA, setZ, setS]
      refine skip_now 13 rfl ?_
      try simp only [Act.put, setA, setZ, setS]
      refine skip_now 14 rfl ?_
      try simp only [Act.put, setA, setZ, setS]
      refine skip_now 15 rfl ?_
      try simp only [Act.put, setA, setZ, setS]
      refine skip_now 16 rfl ?_
      try simp only [Act.put, setA, setZ, setS]
      refine skip_now 17 rfl ?_
      try simp only [Act.put, setA, setZ, setS]
      refine skip_now 18 rfl ?_
      try simp only [Act.put, setA, setZ, setS]
      refine skip_now 19 rfl ?_
      try simp only [Act.put, setA, setZ, setS]
      refine skip_now 20 rfl ?_
      try simp only [Act.put, setA, setZ, setS]
      refine skip_now 21 rfl ?_
      try simp only [Act.put, setA, setZ, setS]
      refine skip_now 22 rfl ?_
      try simp only [Act.put, setA, setZ, setS]
      refine skip_now 23 rfl ?_
      try simp only [Act.put, setA, setZ, setS]
      refine skip_now 24 rfl ?_
      try simp only [Act.put, setA, setZ, setS]
      refine take_now 25 rfl ?_
      try simp only [Act.put, setA, setZ, setS]
      refine take_now 26 rfl ?_
      try simp only [Act.put, setA, setZ, setS]
      refine wpAnyH_done (by kernel_rfl) ?_ _
      go_wp2_with fail
      go_ret
      exact ⟨ret_bool (by rw [HQ.out, HC.out]; rfl), HV.out.trans (G1.out.mono HV.out.size)⟩
    · have HC := Lib.hid hc
      clear hc
      refine wp_region_held_drew (S := (fun W => W.cell? ⟨S, 0, none⟩ = some (.pointer (some ⟨P, 0, none⟩)) ∧ W.cell? ⟨S, 7, none⟩ = some (.map (some v1)) ∧ W.cell? ⟨P, 1, none⟩ = some (.map (some c1)) ∧ W.cell? ⟨w.heap.size, 1, none⟩ = some (.string (str nm)) ∧ W.cell? ⟨w.heap.size, 3, none⟩ = some (.slice (some a) cs.length ca) ∧ W.cell? ⟨w.heap.size + 1, 1, none⟩ = some (.bool false) ∧ W.cell? a = some (.string (str c0)))) (by kernel_rfl) ?_ (fun hHeld => ?_)
      · exact KEEP.out _ (Below.refl _ _).drew
      refine take_now 0 rfl ?_
      try simp only [Act.put, setA, setZ, setS]
      refine take_now 1 rfl ?_
      try simp only [Act.put, setA, setZ, setS]
      refine take_now 2 rfl ?_
      try simp only [Act.put, setA, setZ, setS]
      refine take_now 3 rfl ?_
      try simp only [Act.put, setA, setZ, setS]
      refine take_now 4 rfl ?_
      try simp only [Act.put, setA, setZ, setS]
      refine take_now 5 rfl ?_
      try simp only [Act.put, setA, setZ, setS]
      refine take_now 6 rfl ?_
      try simp only [Act.put, setA, setZ, setS]
      refine take_now 7 rfl ?_
      try simp only [Act.put, setA, setZ, setS]
      refine take_now 8 rfl ?_
      try simp only [Act.put, setA, setZ, setS]
      refine take_now 9 rfl ?_
      try simp only [Act.put, setA, setZ, setS]
      refine only_at 10 (by kernel_rfl) rfl (fun K hK => ?_)
      go_simp
      (go_at_call 96
       (with_reducible refine (knownI_any (HMV.out.under (Below.refl V.heap.size V).drew) HSH.out HNM.out).mono ?_)
       rintro e w7 ⟨he, hb7⟩
       rw [HKV.out, HC.out] at he
       subst he
       obtain ⟨G1w, rfl⟩ : ∃ W, W = w7 := ⟨_, rfl⟩
       have G1 := Lib.hid (((Below.refl V.heap.size V).drew).trans (hb7.mono ((Below.refl V.heap.size V).drew).size))
       clear hb7)
      refine hK.out _ _ (KEEP.out _ ?_) (fun hHeld => ?_)
      · (repeat (first | exact Below.refl _ _ | exact G1.out | refine Below.drew ?_ | refine Below.alloc ?_ (by simp) _ | refine Below.setCell ?_ (by simp) _))
      clear hK K
      try simp only [Act.put, setA, setZ, setS]
      refine take_now 11 rfl ?_
      try simp only [Act.put, setA, setZ, setS]
      refine take_now 12 rfl ?_
      try simp only [Act.put, setA, setZ, setS]
      refine take_now 13 rfl ?_
      try simp only [Act.put, setA, setZ, setS]
      refine take_now 14 rfl ?_
      try simp only [Act.put, setA, setZ, setS]
      refine take_now 15 rfl ?_
      try simp only [Act.put, setA, setZ, setS]
      refine take_now 16 rfl ?_
      try simp only [Act.put, setA, setZ, setS]
      refine take_now 17 rfl ?_
      try simp only [Act.put, setA, setZ, setS]
      refine take_now 18 rfl ?_
      try simp only [Act.put, setA, setZ, setS]
      refine take_now 19 rfl ?_
      try simp only [Act.put, setA, setZ, setS]
      refine take_now 20 rfl ?_
      try simp only [Act.put, setA, setZ, setS]
      refine take_now 21 rfl ?_
      try simp only [Act.put, setA, setZ, setS]
      refine take_now 22 rfl ?_
      try simp only [Act.put, setA, setZ, setS]
      refine take_now 23 rfl ?_
      try simp only [Act.put, setA, setZ, setS]
      refine only_at 24 (by kernel_rfl) rfl (fun K hK => ?_)
      go_simp
      (go_at_call 70
       (with_reducible refine (knownE_any (HMC.out.under G1.out) HRC.out.sh HCL.out).mono ?_)
       rintro e w7 ⟨he, hb7⟩
       rw [HRC.out.1, show s.prog.cons.map Prod.fst = s.prog.conKeys from rfl, HBQ.out] at he
       subst he
       obtain ⟨G2w, rfl⟩ : ∃ W, W = w7 := ⟨_, rfl⟩
       have G2 := Lib.hid ((G1.out).trans (hb7.mono (G1.out).size))
       clear hb7)
      refine hK.out _ _ (KEEP.out _ ?_) (fun hHeld => ?_)
      · (repeat (first | exact Below.refl _ _ | exact G2.out | refine Below.drew ?_ | refine Below.alloc ?_ (by simp) _ | refine Below.setCell ?_ (by simp) _))
      clear hK K
      try simp only [Act.put, setA, setZ, setS]
      refine take_now 25 rfl ?_
      try simp only [Act.put, setA, setZ, setS]
      refine take_now 26 rfl ?_
      try simp only [Act.put, setA, setZ, setS]
      refine wpAnyH_done (by kernel_rfl) ?_ _
      go_wp2_with fail
      go_ret
      exact ⟨ret_bool (by rw [HQ.out, HC.out, HHD.out, HBQ.out]; rfl), HV.out.trans (G2.out.mono HV.out.size)⟩
  · skip
    refine wp_region_held_drew (S := (fun W => W.cell? ⟨S, 0, none⟩ = some (.pointer (some ⟨P, 0, none⟩)) ∧ W.cell? ⟨S, 7, none⟩ = some (.map (some v1)) ∧ W.cell? ⟨P, 1, none⟩ = some (.map (some c1)) ∧ W.cell? ⟨w.heap.size, 1, none⟩ = some (.string (str nm)) ∧ W.cell? ⟨w.heap.size, 3, none⟩ = some (.slice (some a) cs.length ca) ∧ W.cell? ⟨w.heap.size + 1, 1, none⟩ = some (.bool true) ∧ W.cell? a = some (.string (str c0)))) (by kernel_rfl) ?_ (fun hHeld => ?_)
    · exact KEEP.out _ (Below.refl _ _).drew
    refine take_now 0 rfl ?_
    try simp only [Act.put, setA, setZ, setS]
    refine take_now 1 rfl ?_
    try simp only [Act.put, setA, setZ, setS]
    refine take_now 2 rfl ?_
    try simp only [Act.put, setA, setZ, setS]
    refine take_now 3 rfl ?_
    try simp only [Act.put, setA, setZ, setS]
    refine skip_now 4 rfl ?_
    try simp only [Act.put, setA, setZ, setS]
    refine skip_now 5 rfl ?_
    try simp only [Act.put, setA, setZ, setS]
    refine skip_now 6 rfl ?_
    try simp only [Act.put, setA, setZ, setS]
    refine skip_now 7 rfl ?_
    try simp only [Act.put, setA, setZ, setS]
    refine skip_now 8 rfl ?_
    try simp only [Act.put, setA, setZ, setS]
    refine skip_now 9 rfl ?_
    try simp only [Act.put, setA, setZ, setS]
    refine skip_now 10 rfl ?_
    try simp only [Act.put, setA, setZ, setS]
    refine take_now 11 rfl ?_
    try simp only [Act.put, setA, setZ, setS]
    refine take_now 12 rfl ?_
    try simp only [Act.put, setA, setZ, setS]
    refine skip_now 13 rfl ?_
    try simp only [Act.put, setA, setZ, setS]
    refine skip_now 14 rfl ?_
    try simp only [Act.put, setA, setZ, setS]
    refine skip_now 15 rfl ?_
    try simp only [Act.put, setA, setZ, setS]
    refine skip_now 16 rfl ?_
    try simp only [Act.put, setA, setZ, setS]
    refine skip_now 17 rfl ?_
    try simp only [Act.put, setA, setZ, setS]
    refine skip_now 18 rfl ?_
    try simp only [Act.put, setA, setZ, setS]
    refine skip_now 19 rfl ?_
    try simp only [Act.put, setA, setZ, setS]
    refine skip_now 20 rfl ?_
    try simp only [Act.put, setA, setZ, setS]
    refine skip_now 21 rfl ?_
    try simp only [Act.put, setA, setZ, setS]
    refine skip_now 22 rfl ?_
    try simp only [Act.put, setA, setZ, setS]
    refine skip_now 23 rfl ?_
    try simp only [Act.put, setA, setZ, setS]
    refine skip_now 24 rfl ?_
    try simp only [Act.put, setA, setZ, setS]
    refine take_now 25 rfl ?_
    try simp only [Act.put, setA, setZ, setS]
    refine take_now 26 rfl ?_
    try simp only [Act.put, setA, setZ, setS]
    refine wpAnyH_done (by kernel_rfl) ?_ _
    go_wp2_with fail
    go_ret
    exact ⟨ret_bool (by rw [HQ.out]; rfl), HV.out.drew⟩
set_option maxHeartbeats 8000000 in
set_option maxRecDepth 100000 in
theorem names12 {w : World} (h : NScope w S P e1 c1 n1 t1 f1 v1 nd s) {n : Int} {nm : Tx} {A B : Option Addr} {cs : List Tx} {ca k kc : Nat} (hnm : nm.length ≤ maxLen) (hcs : StrsAt w (.slice A cs.length ca) cs) (r : Int) (u : Bool) (hne : cs ≠ []) :
    Calls Tryz.prog 101 #[.pointer (some ⟨S, 0, none⟩), .agg #[.int .i64 12, .string (str nm), .int .i64 n, .slice A cs.length ca, .slice B k kc], .agg #[.int .i64 r, .bool u]] w (BoolPost (usesName s 12 nm cs k r u) w) := by
  have HS := Lib.hid h
  have HNM := Lib.hid hnm
  have HCS := Lib.hid hcs
  have hlc : cs.length ≤ 9223372036854775807 := by obtain ⟨_, _, e, h1, h2, _⟩ := hcs; injection e with _ _ e3; unfold maxLen at h2; omega
  clear h hnm hcs
  have HQ := Lib.hid (show usesName s 12 nm cs k r u = (!u && (s.vars.contains nm && completeQ s cs)) by simp [usesName])
  have HNE := Lib.hid hne
  clear hne
  go_enter Tryz.func101, Tryz.ntmps101
  go_wp2_with fail
  have a1 : Below w.heap.size w (w.alloc (.cells #[.int .i64 12, .string (str nm), .int .i64 n, .slice A cs.length ca, .slice B k kc] 50)) := (Below.refl _ w).alloc (Nat.le_refl _) _
  have HV := Lib.hid (a1.alloc (by simp) (.cells #[.int .i64 r, .bool u] 116))
  have B1 := Lib.hid (alloc_below (o := .cells #[.int .i64 r, .bool u] 116) (heap_alloc_new w (.cells #[.int .i64 12, .string (str nm), .int .i64 n, .slice A cs.length ca, .slice B k kc] 50)))
  have B2 := Lib.hid (show ((w.alloc (.cells #[.int .i64 12, .string (str nm), .int .i64 n, .slice A cs.length ca, .slice B k kc] 50)).alloc (.cells #[.int .i64 r, .bool u] 116)).heap[w.heap.size + 1]? = some (.cells #[.int .i64 r, .bool u] 116 (0, 0)) from alloc_at (by simp))
  generalize (w.alloc (.cells #[.int .i64 12, .string (str nm), .int .i64 n, .slice A cs.length ca, .slice B k kc] 50)).alloc (.cells #[.int .i64 r, .bool u] 116) = V at *
  clear a1
  have HSV := Lib.hid (HS.out.under HV.out)
  have KEEP := Lib.hid (show ∀ W, Below V.heap.size V W → (fun W => W.cell? ⟨S, 0, none⟩ = some (.pointer (some ⟨P, 0, none⟩)) ∧ W.cell? ⟨S, 7, none⟩ = some (.map (some v1)) ∧ W.cell? ⟨P, 1, none⟩ = some (.map (some c1)) ∧ W.cell? ⟨w.heap.size, 1, none⟩ = some (.string (str nm)) ∧ W.cell? ⟨w.heap.size, 3, none⟩ = some (.slice A cs.length ca) ∧ W.cell? ⟨w.heap.size + 1, 1, none⟩ = some (.bool u)) W from
    fun W hW => by
      obtain ⟨b0, _, _, _, _, _, _, b7⟩ := row8 (box_next hW HSV.out.box)
      obtain ⟨_, d1, _, _⟩ := (HSV.out.under hW).prog.row
      obtain ⟨_, g1, _, g3, _⟩ := row5 (box_next hW B1.out)
      obtain ⟨_, j1⟩ := row2 (box_next hW B2.out)
      exact ⟨b0, b7, d1, g1, g3, j1⟩)
  obtain ⟨lv, hmv, hkv, hsv⟩ := HSV.out.mv
  have HMV := Lib.hid hmv
  have HKV := Lib.hid hkv
  have HSH := Lib.hid hsv
  clear hmv hkv hsv
  cases u
  · cases hc : s.vars.contains nm
    · have HC := Lib.hid hc
      clear hc
      refine wp_region_held_drew (S := (fun W => W.cell? ⟨S, 0, none⟩ = some (.pointer (some ⟨P, 0, none⟩)) ∧ W.cell? ⟨S, 7, none⟩ = some (.map (some v1)) ∧ W.cell? ⟨P, 1, none⟩ = some (.map (some c1)) ∧ W.cell? ⟨w.heap.size, 1, none⟩ = some (.string (str nm)) ∧ W.cell? ⟨w.heap.size, 3, none⟩ = some (.slice A cs.length ca) ∧ W.cell? ⟨w.heap.size + 1, 1, none⟩ = some (.bool false))) (by kernel_rfl) ?_ (fun hHeld => ?_)
      · exact KEEP.out _ (Below.refl _ _).drew
      refine take_now 0 rfl ?_
      try simp only [Act.put, setA, setZ, setS]
      refine take_now 1 rfl ?_
      try simp only [Act.put, setA, setZ, setS]
      refine take_now 2 rfl ?_
      try simp only [Act.put, setA, setZ, setS]
      refine take_now 3 rfl ?_
      try simp only [Act.put, setA, setZ, setS]
      refine take_now 4 rfl ?_
      try simp only [Act.put, setA, setZ, setS]
      refine take_now 5 rfl ?_
      try simp only [Act.put, setA, setZ, setS]
      refine take_now 6 rfl ?_
      try simp only [Act.put, setA, setZ, setS]
      refine take_now 7 rfl ?_
      try simp only [Act.put, setA, setZ, setS]
      refine take_now 8 rfl ?_
      try simp only [Act.put, setA, setZ, setS]
      refine take_now 9 rfl ?_
      try simp only [Act.put, setA, setZ, setS]
      refine only_at 10 (by kernel_rfl) rfl (fun K hK => ?_)
      go_simp
      (go_at_call 96
       (with_reducible refine (knownI_any (HMV.out.under (Below.refl V.heap.size V).drew) HSH.out HNM.out).mono ?_)
       rintro e w7 ⟨he, hb7⟩
       rw [HKV.out, HC.out] at he
       subst he
       obtain ⟨G1w, rfl⟩ : ∃ W, W = w7 := ⟨_, rfl⟩
       have G1 := Lib.hid (((Below.refl V.heap.size V).drew).trans (hb7.mono ((Below.refl V.heap.size V).drew).size))
       clear hb7)
      refine hK.out _ _ (KEEP.out _ ?_) (fun hHeld => ?_)
      · (repeat (first | exact Below.refl _ _ | exact G1.out | refine Below.drew ?_ | refine Below.alloc ?_ (by simp) _ | refine Below.setCell ?_ (by simp) _))
      clear hK K
      try simp only [Act.put, setA, setZ, setS]
      refine take_now 11 rfl ?_
      try simp only [Act.put, setA, setZ, setS]
      refine take_now 12 rfl ?_
      try simp only [Act.put, setA, setZ, setS]
      refine skip_now 13 rfl ?_
      try simp only [Act.put, setA, setZ, setS]
      refine skip_now 14 rfl ?_
      try simp only [Act.put, setA, setZ, setS]
      refine skip_now 15 rfl ?_
      try simp only [Act.put, setA, setZ, setS]
      refine skip_now 16 rfl ?_
      try simp only [Act.put, setA, setZ, setS]
      refine take_now 17 rfl ?_
      try simp only [Act.put, setA, setZ, setS]
      refine take_now 18 rfl ?_
      try simp only [Act.put, setA, setZ, setS]
      refine wpAnyH_done (by kernel_rfl) ?_ _
      go_wp2_with fail
      go_ret
      exact ⟨ret_bool (by rw [HQ.out, HC.out]; rfl), HV.out.trans (G1.out.mono HV.out.size)⟩
    · have HC := Lib.hid hc
      clear hc
      refine wp_region_held_drew (S := (fun W => W.cell? ⟨S, 0, none⟩ = some (.pointer (some ⟨P, 0, none⟩)) ∧ W.cell? ⟨S, 7, none⟩ = some (.map (some v1)) ∧ W.cell? ⟨P, 1, none⟩ = some (.map (some c1)) ∧ W.cell? ⟨w.heap.size, 1, none⟩ = some (.string (str nm)) ∧ W.cell? ⟨w.heap.size, 3, none⟩ = some (.slice A cs.length ca) ∧ W.cell? ⟨w.heap.size + 1, 1, none⟩ = some (.bool false))) (by kernel_rfl) ?_ (fun hHeld => ?_)
      · exact KEEP.out _ (Below.refl _ _).drew
      refine take_now 0 rfl ?_
      try simp only [Act.put, setA, setZ, setS]
      refine take_now 1 rfl ?_
      try simp only [Act.put, setA, setZ, setS]
      refine take_now 2 rfl ?_
      try simp only [Act.put, setA, setZ, setS]
      refine take_now 3 rfl ?_
      try simp only [Act.put, setA, setZ, setS]
      refine take_now 4 rfl ?_
      try simp only [Act.put, setA, setZ, setS]
      refine take_now 5 rfl ?_
      try simp only [Act.put, setA, setZ, setS]
      refine take_now 6 rfl ?_
      try simp only [Act.put, setA, setZ, setS]
      refine take_now 7 rfl ?_
      try simp only [Act.put, setA, setZ, setS]
      refine take_now 8 rfl ?_
      try simp only [Act.put, setA, setZ, setS]
      refine take_now 9 rfl ?_
      try simp only [Act.put, setA, setZ, setS]
      refine only_at 10 (by kernel_rfl) rfl (fun K hK => ?_)
      go_simp
      (go_at_call 96
       (with_reducible refine (knownI_any (HMV.out.under (Below.refl V.heap.size V).drew) HSH.out HNM.out).mono ?_)
       rintro e w7 ⟨he, hb7⟩
       rw [HKV.out, HC.out] at he
       subst he
       obtain ⟨G1w, rfl⟩ : ∃ W, W = w7 := ⟨_, rfl⟩
       have G1 := Lib.hid (((Below.refl V.heap.size V).drew).trans (hb7.mono ((Below.refl V.heap.size V).drew).size))
       clear hb7)
      refine hK.out _ _ (KEEP.out _ ?_) (fun hHeld => ?_)
      · (repeat (first | exact Below.refl _ _ | exact G1.out | refine Below.drew ?_ | refine Below.alloc ?_ (by simp) _ | refine Below.setCell ?_ (by simp) _))
      clear hK K
      try simp only [Act.put, setA, setZ, setS]
      refine take_now 11 rfl ?_
      try simp only [Act.put, setA, setZ, setS]
      refine take_now 12 rfl ?_
      try simp only [Act.put, setA, setZ, setS]
      refine take_now 13 rfl ?_
      try simp only [Act.put, setA, setZ, setS]
      refine take_now 14 rfl ?_
      try simp only [Act.put, setA, setZ, setS]
      refine take_now 15 rfl ?_
      try simp only [Act.put, setA, setZ, setS]
      refine only_at 16 (by kernel_rfl) rfl (fun K hK => ?_)
      go_simp
      (go_at_call 121
       (with_reducible refine (complete_any (HSV.out.under G1.out) ((HCS.out.under HV.out).under G1.out) HNE.out).mono ?_)
       rintro e w7 ⟨rfl, hb7⟩
       obtain ⟨G2w, rfl⟩ : ∃ W, W = w7 := ⟨_, rfl⟩
       have G2 := Lib.hid (G1.out.trans (hb7.mono G1.out.size))
       clear hb7)
      refine hK.out _ _ (KEEP.out _ ?_) (fun hHeld => ?_)
      · (repeat (first | exact Below.refl _ _ | exact G2.out | refine Below.drew ?_ | refine Below.alloc ?_ (by simp) _ | refine Below.setCell ?_ (by simp) _))
      clear hK K
      try simp only [Act.put, setA, setZ, setS]
      refine take_now 17 rfl ?_
      try simp only [Act.put, setA, setZ, setS]
      refine take_now 18 rfl ?_
      try simp only [Act.put, setA, setZ, setS]
      refine wpAnyH_done (by kernel_rfl) ?_ _
      go_wp2_with fail
      go_ret
      exact ⟨ret_bool (by rw [HQ.out, HC.out]; rfl), HV.out.trans (G2.out.mono HV.out.size)⟩
  · skip
    refine wp_region_held_drew (S := (fun W => W.cell? ⟨S, 0, none⟩ = some (.pointer (some ⟨P, 0, none⟩)) ∧ W.cell? ⟨S, 7, none⟩ = some (.map (some v1)) ∧ W.cell? ⟨P, 1, none⟩ = some (.map (some c1)) ∧ W.cell? ⟨w.heap.size, 1, none⟩ = some (.string (str nm)) ∧ W.cell? ⟨w.heap.size, 3, none⟩ = some (.slice A cs.length ca) ∧ W.cell? ⟨w.heap.size + 1, 1, none⟩ = some (.bool true))) (by kernel_rfl) ?_ (fun hHeld => ?_)
    · exact KEEP.out _ (Below.refl _ _).drew
    refine take_now 0 rfl ?_
    try simp only [Act.put, setA, setZ, setS]
    refine take_now 1 rfl ?_
    try simp only [Act.put, setA, setZ, setS]
    refine take_now 2 rfl ?_
    try simp only [Act.put, setA, setZ, setS]
    refine take_now 3 rfl ?_
    try simp only [Act.put, setA, setZ, setS]
    refine skip_now 4 rfl ?_
    try simp only [Act.put, setA, setZ, setS]
    refine skip_now 5 rfl ?_
    try simp only [Act.put, setA, setZ, setS]
    refine skip_now 6 rfl ?_
    try simp only [Act.put, setA, setZ, setS]
    refine skip_now 7 rfl ?_
    try simp only [Act.put, setA, setZ, setS]
    refine skip_now 8 rfl ?_
    try simp only [Act.put, setA, setZ, setS]
    refine skip_now 9 rfl ?_
    try simp only [Act.put, setA, setZ, setS]
    refine skip_now 10 rfl ?_
    try simp only [Act.put, setA, setZ, setS]
    refine take_now 11 rfl ?_
    try simp only [Act.put, setA, setZ, setS]
    refine take_now 12 rfl ?_
    try simp only [Act.put, setA, setZ, setS]
    refine skip_now 13 rfl ?_
    try simp only [Act.put, setA, setZ, setS]
    refine skip_now 14 rfl ?_
    try simp only [Act.put, setA, setZ, setS]
    refine skip_now 15 rfl ?_
    try simp only [Act.put, setA, setZ, setS]
    refine skip_now 16 rfl ?_
    try simp only [Act.put, setA, setZ, setS]
    refine take_now 17 rfl ?_
    try simp only [Act.put, setA, setZ, setS]
    refine take_now 18 rfl ?_
    try simp only [Act.put, setA, setZ, setS]
    refine wpAnyH_done (by kernel_rfl) ?_ _
    go_wp2_with fail
    go_ret
    exact ⟨ret_bool (by rw [HQ.out]; rfl), HV.out.drew⟩
set_option maxHeartbeats 8000000 in
set_option maxRecDepth 100000 in
theorem names13 {w : World} (h : NScope w S P e1 c1 n1 t1 f1 v1 nd s) {n : Int} {nm : Tx} {A B : Option Addr} {cs : List Tx} {ca k kc : Nat} (hnm : nm.length ≤ maxLen) (hcs : StrsAt w (.slice A cs.length ca) cs) (r : Int) (u : Bool) (hne : cs ≠ []) :
    Calls Tryz.prog 101 #[.pointer (some ⟨S, 0, none⟩), .agg #[.int .i64 13, .string (str nm), .int .i64 n, .slice A cs.length ca, .slice B k kc], .agg #[.int .i64 r, .bool u]] w (BoolPost (usesName s 13 nm cs k r u) w) := by
  have HS := Lib.hid h
  have HNM := Lib.hid hnm
  have HCS := Lib.hid hcs
  have hlc : cs.length ≤ 9223372036854775807 := by obtain ⟨_, _, e, h1, h2, _⟩ := hcs; injection e with _ _ e3; unfold maxLen at h2; omega
  clear h hnm hcs
  have HQ := Lib.hid (show usesName s 13 nm cs k r u = (!u && (s.vars.contains nm && completeQ s cs)) by simp [usesName])
  have HNE := Lib.hid hne
  clear hne
  go_enter Tryz.func101, Tryz.ntmps101
  go_wp2_with fail
  have a1 : Below w.heap.size w (w.alloc (.cells #[.int .i64 13, .string (str nm), .int .i64 n, .slice A cs.length ca, .slice B k kc] 50)) := (Below.refl _ w).alloc (Nat.le_refl _) _
  have HV := Lib.hid (a1.alloc (by simp) (.cells #[.int .i64 r, .bool u] 116))
  have B1 := Lib.hid (alloc_below (o := .cells #[.int .i64 r, .bool u] 116) (heap_alloc_new w (.cells #[.int .i64 13, .string (str nm), .int .i64 n, .slice A cs.length ca, .slice B k kc] 50)))
  have B2 := Lib.hid (show ((w.alloc (.cells #[.int .i64 13, .string (str nm), .int .i64 n, .slice A cs.length ca, .slice B k kc] 50)).alloc (.cells #[.int .i64 r, .bool u] 116)).heap[w.heap.size + 1]? = some (.cells #[.int .i64 r, .bool u] 116 (0, 0)) from alloc_at (by simp))
  generalize (w.alloc (.cells #[.int .i64 13, .string (str nm), .int .i64 n, .slice A cs.length ca, .slice B k kc] 50)).alloc (.cells #[.int .i64 r, .bool u] 116) = V at *
  clear a1
  have HSV := Lib.hid (HS.out.under HV.out)
  have KEEP := Lib.hid (show ∀ W, Below V.heap.size V W → (fun W => W.cell? ⟨S, 0, none⟩ = some (.pointer (some ⟨P, 0, none⟩)) ∧ W.cell? ⟨S, 7, none⟩ = some (.map (some v1)) ∧ W.cell? ⟨P, 1, none⟩ = some (.map (some c1)) ∧ W.cell? ⟨w.heap.size, 1, none⟩ = some (.string (str nm)) ∧ W.cell? ⟨w.heap.size, 3, none⟩ = some (.slice A cs.length ca) ∧ W.cell? ⟨w.heap.size + 1, 1, none⟩ = some (.bool u)) W from
    fun W hW => by
      obtain ⟨b0, _, _, _, _, _, _, b7⟩ := row8 (box_next hW HSV.out.box)
      obtain ⟨_, d1, _, _⟩ := (HSV.out.under hW).prog.row
      obtain ⟨_, g1, _, g3, _⟩ := row5 (box_next hW B1.out)
      obtain ⟨_, j1⟩ := row2 (box_next hW B2.out)
      exact ⟨b0, b7, d1, g1, g3, j1⟩)
  obtain ⟨lv, hmv, hkv, hsv⟩ := HSV.out.mv
  have HMV := Lib.hid hmv
  have HKV := Lib.hid hkv
  have HSH := Lib.hid hsv
  clear hmv hkv hsv
  cases u
  · cases hc : s.vars.contains nm
    · have HC := Lib.hid hc
      clear hc
      refine wp_region_held_drew (S := (fun W => W.cell? ⟨S, 0, none⟩ = some (.pointer (some ⟨P, 0, none⟩)) ∧ W.cell? ⟨S, 7, none⟩ = some (.map (some v1)) ∧ W.cell? ⟨P, 1, none⟩ = some (.map (some c1)) ∧ W.cell? ⟨w.heap.size, 1, none⟩ = some (.string (str nm)) ∧ W.cell? ⟨w.heap.size, 3, none⟩ = some (.slice A cs.length ca) ∧ W.cell? ⟨w.heap.size + 1, 1, none⟩ = some (.bool false))) (by kernel_rfl) ?_ (fun hHeld => ?_)
      · exact KEEP.out _ (Below.refl _ _).drew
      refine take_now 0 rfl ?_
      try simp only [Act.put, setA, setZ, setS]
      refine take_now 1 rfl ?_
      try simp only [Act.put, setA, setZ, setS]
      refine take_now 2 rfl ?_
      try simp only [Act.put, setA, setZ, setS]
      refine take_now 3 rfl ?_
      try simp only [Act.put, setA, setZ, setS]
      refine take_now 4 rfl ?_
      try simp only [Act.put, setA, setZ, setS]
      refine take_now 5 rfl ?_
      try simp only [Act.put, setA, setZ, setS]
      refine take_now 6 rfl ?_
      try simp only [Act.put, setA, setZ, setS]
      refine take_now 7 rfl ?_
      try simp only [Act.put, setA, setZ, setS]
      refine take_now 8 rfl ?_
      try simp only [Act.put, setA, setZ, setS]
      refine take_now 9 rfl ?_
      try simp only [Act.put, setA, setZ, setS]
      refine only_at 10 (by kernel_rfl) rfl (fun K hK => ?_)
      go_simp
      (go_at_call 96
       (with_reducible refine (knownI_any (HMV.out.under (Below.refl V.heap.size V).drew) HSH.out HNM.out).mono ?_)
       rintro e w7 ⟨he, hb7⟩
       rw [HKV.out, HC.out] at he
       subst he
       obtain ⟨G1w, rfl⟩ : ∃ W, W = w7 := ⟨_, rfl⟩
       have G1 := Lib.hid (((Below.refl V.heap.size V).drew).trans (hb7.mono ((Below.refl V.heap.size V).drew).size))
       clear hb7)
      refine hK.out _ _ (KEEP.out _ ?_) (fun hHeld => ?_)
      · (repeat (first | exact Below.refl _ _ | exact G1.out | refine Below.drew ?_ | refine Below.alloc ?_ (by simp) _ | refine Below.setCell ?_ (by simp) _))
      clear hK K
      try simp only [Act.put, setA, setZ, setS]
      refine take_now 11 rfl ?_
      try simp only [Act.put, setA, setZ, setS]
      refine take_now 12 rfl ?_
      try simp only [Act.put, setA, setZ, setS]
      refine skip_now 13 rfl ?_
      try simp only [Act.put, setA, setZ, setS]
      refine skip_now 14 rfl ?_
      try simp only [Act.put, setA, setZ, setS]
      refine skip_now 15 rfl ?_
      try simp only [Act.put, setA, setZ, setS]
      refine skip_now 16 rfl ?_
      try simp only [Act.put, setA, setZ, setS]
      refine take_now 17 rfl ?_
      try simp only [Act.put, setA, setZ, setS]
      refine take_now 18 rfl ?_
      try simp only [Act.put, setA, setZ, setS]
      refine wpAnyH_done (by kernel_rfl) ?_ _
      go_wp2_with fail
      go_ret
      exact ⟨ret_bool (by rw [HQ.out, HC.out]; rfl), HV.out.trans (G1.out.mono HV.out.size)⟩
    · have HC := Lib.hid hc
      clear hc
      refine wp_region_held_drew (S := (fun W => W.cell? ⟨S, 0, none⟩ = some (.pointer (some ⟨P, 0, none⟩)) ∧ W.cell? ⟨S, 7, none⟩ = some (.map (some v1)) ∧ W.cell? ⟨P, 1, none⟩ = some (.map (some c1)) ∧ W.cell? ⟨w.heap.size, 1, none⟩ = some (.string (str nm)) ∧ W.cell? ⟨w.heap.size, 3, none⟩ = some (.slice A cs.length ca) ∧ W.cell? ⟨w.heap.size + 1, 1, none⟩ = some (.bool false))) (by kernel_rfl) ?_ (fun hHeld => ?_)
      · exact KEEP.out _ (Below.refl _ _).drew
      refine take_now 0 rfl ?_
      try simp only [Act.put, setA, setZ, setS]
      refine take_now 1 rfl ?_
      try simp only [Act.put, setA, setZ, setS]
      refine take_now 2 rfl ?_
      try simp only [Act.put, setA, setZ, setS]
      refine take_now 3 rfl ?_
      try simp only [Act.put, setA, setZ, setS]
      refine take_now 4 rfl ?_
      try simp only [Act.put, setA, setZ, setS]
      refine take_now 5 rfl ?_
      try simp only [Act.put, setA, setZ, setS]
      refine take_now 6 rfl ?_
      try simp only [Act.put, setA, setZ, setS]
      refine take_now 7 rfl ?_
      try simp only [Act.put, setA, setZ, setS]
      refine take_now 8 rfl ?_
      try simp only [Act.put, setA, setZ, setS]
      refine take_now 9 rfl ?_
      try simp only [Act.put, setA, setZ, setS]
      refine only_at 10 (by kernel_rfl) rfl (fun K hK => ?_)
      go_simp
      (go_at_call 96
       (with_reducible refine (knownI_any (HMV.out.under (Below.refl V.heap.size V).drew) HSH.out HNM.out).mono ?_)
       rintro e w7 ⟨he, hb7⟩
       rw [HKV.out, HC.out] at he
       subst he
       obtain ⟨G1w, rfl⟩ : ∃ W, W = w7 := ⟨_, rfl⟩
       have G1 := Lib.hid (((Below.refl V.heap.size V).drew).trans (hb7.mono ((Below.refl V.heap.size V).drew).size))
       clear hb7)
      refine hK.out _ _ (KEEP.out _ ?_) (fun hHeld => ?_)
      · (repeat (first | exact Below.refl _ _ | exact G1.out | refine Below.drew ?_ | refine Below.alloc ?_ (by simp) _ | refine Below.setCell ?_ (by simp) _))
      clear hK K
      try simp only [Act.put, setA, setZ, setS]
      refine take_now 11 rfl ?_
      try simp only [Act.put, setA, setZ, setS]
      refine take_now 12 rfl ?_
      try simp only [Act.put, setA, setZ, setS]
      refine take_now 13 rfl ?_
      try simp only [Act.put, setA, setZ, setS]
      refine take_now 14 rfl ?_
      try simp only [Act.put, setA, setZ, setS]
      refine take_now 15 rfl ?_
      try simp only [Act.put, setA, setZ, setS]
      refine only_at 16 (by kernel_rfl) rfl (fun K hK => ?_)
      go_simp
      (go_at_call 121
       (with_reducible refine (complete_any (HSV.out.under G1.out) ((HCS.out.under HV.out).under G1.out) HNE.out).mono ?_)
       rintro e w7 ⟨rfl, hb7⟩
       obtain ⟨G2w, rfl⟩ : ∃ W, W = w7 := ⟨_, rfl⟩
       have G2 := Lib.hid (G1.out.trans (hb7.mono G1.out.size))
       clear hb7)
      refine hK.out _ _ (KEEP.out _ ?_) (fun hHeld => ?_)
      · (repeat (first | exact Below.refl _ _ | exact G2.out | refine Below.drew ?_ | refine Below.alloc ?_ (by simp) _ | refine Below.setCell ?_ (by simp) _))
      clear hK K
      try simp only [Act.put, setA, setZ, setS]
      refine take_now 17 rfl ?_
      try simp only [Act.put, setA, setZ, setS]
      refine take_now 18 rfl ?_
      try simp only [Act.put, setA, setZ, setS]
      refine wpAnyH_done (by kernel_rfl) ?_ _
      go_wp2_with fail
      go_ret
      exact ⟨ret_bool (by rw [HQ.out, HC.out]; rfl), HV.out.trans (G2.out.mono HV.out.size)⟩
  · skip
    refine wp_region_held_drew (S := (fun W => W.cell? ⟨S, 0, none⟩ = some (.pointer (some ⟨P, 0, none⟩)) ∧ W.cell? ⟨S, 7, none⟩ = some (.map (some v1)) ∧ W.cell? ⟨P, 1, none⟩ = some (.map (some c1)) ∧ W.cell? ⟨w.heap.size, 1, none⟩ = some (.string (str nm)) ∧ W.cell? ⟨w.heap.size, 3, none⟩ = some (.slice A cs.length ca) ∧ W.cell? ⟨w.heap.size + 1, 1, none⟩ = some (.bool true))) (by kernel_rfl) ?_ (fun hHeld => ?_)
    · exact KEEP.out _ (Below.refl _ _).drew
    refine take_now 0 rfl ?_
    try simp only [Act.put, setA, setZ, setS]
    refine take_now 1 rfl ?_
    try simp only [Act.put, setA, setZ, setS]
    refine take_now 2 rfl ?_
    try simp only [Act.put, setA, setZ, setS]
    refine take_now 3 rfl ?_
    try simp only [Act.put, setA, setZ, setS]
    refine skip_now 4 rfl ?_
    try simp only [Act.put, setA, setZ, setS]
    refine skip_now 5 rfl ?_
    try simp only [Act.put, setA, setZ, setS]
    refine skip_now 6 rfl ?_
    try simp only [Act.put, setA, setZ, setS]
    refine skip_now 7 rfl ?_
    try simp only [Act.put, setA, setZ, setS]
    refine skip_now 8 rfl ?_
    try simp only [Act.put, setA, setZ, setS]
    refine skip_now 9 rfl ?_
    try simp only [Act.put, setA, setZ, setS]
    refine skip_now 10 rfl ?_
    try simp only [Act.put, setA, setZ, setS]
    refine take_now 11 rfl ?_
    try simp only [Act.put, setA, setZ, setS]
    refine take_now 12 rfl ?_
    try simp only [Act.put, setA, setZ, setS]
    refine skip_now 13 rfl ?_
    try simp only [Act.put, setA, setZ, setS]
    refine skip_now 14 rfl ?_
    try simp only [Act.put, setA, setZ, setS]
    refine skip_now 15 rfl ?_
    try simp only [Act.put, setA, setZ, setS]
    refine skip_now 16 rfl ?_
    try simp only [Act.put, setA, setZ, setS]
    refine take_now 17 rfl ?_
    try simp only [Act.put, setA, setZ, setS]
    refine take_now 18 rfl ?_
    try simp only [Act.put, setA, setZ, setS]
    refine wpAnyH_done (by kernel_rfl) ?_ _
    go_wp2_with fail
    go_ret
    exact ⟨ret_bool (by rw [HQ.out]; rfl), HV.out.drew⟩
set_option maxHeartbeats 8000000 in
set_option maxRecDepth 100000 in
theorem names14 {w : World} (h : NScope w S P e1 c1 n1 t1 f1 v1 nd s) {n : Int} {nm : Tx} {A B : Option Addr} {cs : List Tx} {ca k kc : Nat} (hnm : nm.length ≤ maxLen) (hcs : StrsAt w (.slice A cs.length ca) cs) (r : Int) (u : Bool) :
    Calls Tryz.prog 101 #[.pointer (some ⟨S, 0, none⟩), .agg #[.int .i64 14, .string (str nm), .int .i64 n, .slice A cs.length ca, .slice B k kc], .agg #[.int .i64 r, .bool u]] w (BoolPost (usesName s 14 nm cs k r u) w) := by
  have HS := Lib.hid h
  have HNM := Lib.hid hnm
  have HCS := Lib.hid hcs
  have hlc : cs.length ≤ 9223372036854775807 := by obtain ⟨_, _, e, h1, h2, _⟩ := hcs; injection e with _ _ e3; unfold maxLen at h2; omega
  clear h hnm hcs
  have HQ := Lib.hid (show usesName s 14 nm cs k r u = callQ s nm cs k r by simp [usesName])
  go_enter Tryz.func101, Tryz.ntmps101
  go_wp2_with (go_at_call 122
               have a1 : Below w.heap.size w ((w.alloc (.cells #[.int .i64 14, .string (str nm), .int .i64 n, .slice A cs.length ca, .slice B k kc] 50)).alloc (.cells #[.int .i64 r, .bool u] 116)) := ((Below.refl _ w).alloc (Nat.le_refl _) _).alloc (by simp) _
               (with_reducible refine (callN_any (HS.out.under a1) HNM.out (HCS.out.under a1) r).mono ?_)
               rintro e w7 ⟨rfl, hb7⟩
               have G1 := Lib.hid (a1.trans (hb7.mono a1.size))
               clear a1 hb7)
  go_ret
  exact ⟨ret_bool HQ.out.symm, G1.out⟩
set_option maxHeartbeats 8000000 in
set_option maxRecDepth 100000 in
theorem namesX {w : World} (h : NScope w S P e1 c1 n1 t1 f1 v1 nd s) {op n : Int} {nm : Tx} {A B : Option Addr} {cs : List Tx} {ca k kc : Nat} (hnm : nm.length ≤ maxLen) (hcs : StrsAt w (.slice A cs.length ca) cs) (r : Int) (u : Bool) (h4 : (op == 4) = false) (h3 : (op == 3) = false) (h11 : (op == 11) = false) (h12 : (op == 12) = false) (h13 : (op == 13) = false) (h14 : (op == 14) = false) :
    Calls Tryz.prog 101 #[.pointer (some ⟨S, 0, none⟩), .agg #[.int .i64 op, .string (str nm), .int .i64 n, .slice A cs.length ca, .slice B k kc], .agg #[.int .i64 r, .bool u]] w (BoolPost (usesName s op nm cs k r u) w) := by
  have HS := Lib.hid h
  have HNM := Lib.hid hnm
  have HCS := Lib.hid hcs
  have hlc : cs.length ≤ 9223372036854775807 := by obtain ⟨_, _, e, h1, h2, _⟩ := hcs; injection e with _ _ e3; unfold maxLen at h2; omega
  clear h hnm hcs
  have HQ := Lib.hid (show usesName s op nm cs k r u = true by simp only [beq_eq_false_iff_ne, ne_eq] at h4 h3 h11 h12 h13 h14; simp [usesName, h4, h3, h11, h12, h13, h14])
  go_enter Tryz.func101, Tryz.ntmps101
  go_wp2_with fail
  go_ret
  exact ⟨ret_bool HQ.out.symm, ((Below.refl _ w).alloc (Nat.le_refl _) _).alloc (by simp) _⟩
end
end Go.Proofs.YtbpbnebcbjacdaaGreat
