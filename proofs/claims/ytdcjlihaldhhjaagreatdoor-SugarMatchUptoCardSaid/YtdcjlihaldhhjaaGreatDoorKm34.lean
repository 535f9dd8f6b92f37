import Derived.Test.YtdcjlihaldhhjaaGreatDoorKm33
set_option maxHeartbeats 8000000
set_option maxRecDepth 100000
namespace Go.Proofs.YtdcjlihaldhhjaaGreatDoor
open _root_.Go.Proofs.Tryz
open Go.RowKit
open Go.ChangeMaps Go.MapKept
open Go.Maps
section
variable {S P e1 c1 n1 t1 f1 v1 : Nat} {nd : Value × Value × Value × Value × Value} {s : eD}
theorem EM {w : World} (h : du w S P e1 c1 n1 t1 f1 v1 nd s) {n : Int} {nm : Tx} {A B : Option Addr} {cs : List Tx} {ca k kc : Nat} (hnm : nm.length <= maxLen) (hcs : aG w (.slice A cs.length ca) cs) (r : Int) (u : Bool) :
  Calls prog 149 #[.pointer (some ⟨S, 0, none⟩), .agg #[.int .i64 4, .string (str nm), .int .i64 n, .slice A cs.length ca, .slice B k kc], .agg #[.int .i64 r, .bool u]] w (ax (bj s 4 nm cs k r u) w) := by
 have HS := zH h; have HNM := zH hnm; have HCS := zH hcs; have hlc : cs.length <= 9223372036854775807 := (by obtain ⟨_, _, e, h1, h2, _⟩ := hcs; injection e with _ _ e3; unfold maxLen at h2; omega); clear h hnm hcs; obtain ⟨b, hb⟩ : ∃ b, s.vars.contains nm = b := ⟨_, rfl⟩; have HBQ := zH hb; have HQ := zH (show bj s 4 nm cs k r u = b by rw [<- hb]; simp [bj]); clear hb; go_enter func149, ntmps149
 go_wp2_with fail
 have a1 : Below w.heap.size w (w.alloc (.cells #[.int .i64 4, .string (str nm), .int .i64 n, .slice A cs.length ca, .slice B k kc] 25)) := (Below.refl _ w).alloc (Nat.le_refl _) _; have HV := zH (a1.alloc (by simp) (.cells #[.int .i64 r, .bool u] 166)); have B1 := zH (aQ (o := .cells #[.int .i64 r, .bool u] 166) (heap_alloc_new w (.cells #[.int .i64 4, .string (str nm), .int .i64 n, .slice A cs.length ca, .slice B k kc] 25))); have B2 := zH (show ((w.alloc (.cells #[.int .i64 4, .string (str nm), .int .i64 n, .slice A cs.length ca, .slice B k kc] 25)).alloc (.cells #[.int .i64 r, .bool u] 166)).heap[w.heap.size + 1]? = some (.cells #[.int .i64 r, .bool u] 166 (0, 0)) from aB (by simp)); generalize (w.alloc (.cells #[.int .i64 4, .string (str nm), .int .i64 n, .slice A cs.length ca, .slice B k kc] 25)).alloc (.cells #[.int .i64 r, .bool u] 166) = V at *; clear a1; have HSV := zH (HS.o.under HV.o)
 have KEEP := zH (show ∀ W, Below V.heap.size V W -> (λ W => W.cell? ⟨S, 0, none⟩ = some (.pointer (some ⟨P, 0, none⟩)) /\ W.cell? ⟨S, 7, none⟩ = some (.map (some v1)) /\ W.cell? ⟨P, 1, none⟩ = some (.map (some c1)) /\ W.cell? ⟨w.heap.size, 1, none⟩ = some (.string (str nm)) /\ W.cell? ⟨w.heap.size, 3, none⟩ = some (.slice A cs.length ca) /\ W.cell? ⟨w.heap.size + 1, 1, none⟩ = some (.bool u)) W from
  λ W hW => by
   obtain ⟨b0, _, _, _, _, _, _, b7⟩ := fq (ag hW HSV.o.box); obtain ⟨_, d1, _, _⟩ := (HSV.o.under hW).prog.row; obtain ⟨_, g1, _, g3, _⟩ := aN (ag hW B1.o); obtain ⟨_, j1⟩ := bM (ag hW B2.o); exact ⟨b0, b7, d1, g1, g3, j1⟩)
 obtain ⟨lv, hmv, hkv, hsv⟩ := HSV.o.mv; have HMV := zH hmv; have HKV := zH hkv; have HSH := zH hsv; clear hmv hkv hsv; refine wp_region_held_drew (S := (λ W => W.cell? ⟨S, 0, none⟩ = some (.pointer (some ⟨P, 0, none⟩)) /\ W.cell? ⟨S, 7, none⟩ = some (.map (some v1)) /\ W.cell? ⟨P, 1, none⟩ = some (.map (some c1)) /\ W.cell? ⟨w.heap.size, 1, none⟩ = some (.string (str nm)) /\ W.cell? ⟨w.heap.size, 3, none⟩ = some (.slice A cs.length ca) /\ W.cell? ⟨w.heap.size + 1, 1, none⟩ = some (.bool u))) zK ?_ (λ hHeld => ?_)
 . exact KEEP.o _ (Below.refl _ _).drew
 refine aa 0 ?_; refine aa 1 ?_; refine aa 2 ?_; refine aa 3 ?_; refine aa 4 ?_; refine aa 5 ?_; refine au 6 zK rfl (λ K hK => ?_); go_simp
 (go_at_call 144
  (with_reducible refine (dD (HMV.o.under (zB V).drew) HSH.o HNM.o).mono ?_); rintro e w7 ⟨he, hb7⟩; rw [HKV.o, HBQ.o] at he; subst he; obtain ⟨G1w, rfl⟩ := zW w7; have G1 := zH (((zB V).drew).trans (hb7.mono ((zB V).drew).size)); clear hb7)
 refine hK.out _ _ (KEEP.o _ ?_) (λ hHeld => ?_)
 . (repeat (first | exact Below.refl _ _ | exact G1.o | refine Below.drew ?_ | refine Below.alloc ?_ (by simp) _ | refine Below.setCell ?_ (by simp) _))
 clear hK K; try simp only [Act.put, aK, aI, aJ]
 refine aa 7 ?_; refine wpAnyH_done zK ?_ _; go_wp2_with fail
 go_ret; exact ⟨aj HQ.o.symm, HV.o.trans (G1.o.mono HV.o.size)⟩
theorem EN {w : World} (h : du w S P e1 c1 n1 t1 f1 v1 nd s) {n : Int} {nm : Tx} {A B : Option Addr} {cs : List Tx} {ca k kc : Nat} (hnm : nm.length <= maxLen) (hcs : aG w (.slice A cs.length ca) cs) (r : Int) (u : Bool) :
  Calls prog 149 #[.pointer (some ⟨S, 0, none⟩), .agg #[.int .i64 3, .string (str nm), .int .i64 n, .slice A cs.length ca, .slice B k kc], .agg #[.int .i64 r, .bool u]] w (ax (bj s 3 nm cs k r u) w) := by
 have HS := zH h; have HNM := zH hnm; have HCS := zH hcs; have hlc : cs.length <= 9223372036854775807 := (by obtain ⟨_, _, e, h1, h2, _⟩ := hcs; injection e with _ _ e3; unfold maxLen at h2; omega); clear h hnm hcs; obtain ⟨b, hb⟩ : ∃ b, s.prog.conKeys.contains nm = b := ⟨_, rfl⟩; have HBQ := zH hb; have HQ := zH (show bj s 3 nm cs k r u = b by rw [<- hb]; simp [bj]); clear hb; go_enter func149, ntmps149
 go_wp2_with fail
 have a1 : Below w.heap.size w (w.alloc (.cells #[.int .i64 3, .string (str nm), .int .i64 n, .slice A cs.length ca, .slice B k kc] 25)) := (Below.refl _ w).alloc (Nat.le_refl _) _; have HV := zH (a1.alloc (by simp) (.cells #[.int .i64 r, .bool u] 166)); have B1 := zH (aQ (o := .cells #[.int .i64 r, .bool u] 166) (heap_alloc_new w (.cells #[.int .i64 3, .string (str nm), .int .i64 n, .slice A cs.length ca, .slice B k kc] 25))); have B2 := zH (show ((w.alloc (.cells #[.int .i64 3, .string (str nm), .int .i64 n, .slice A cs.length ca, .slice B k kc] 25)).alloc (.cells #[.int .i64 r, .bool u] 166)).heap[w.heap.size + 1]? = some (.cells #[.int .i64 r, .bool u] 166 (0, 0)) from aB (by simp)); generalize (w.alloc (.cells #[.int .i64 3, .string (str nm), .int .i64 n, .slice A cs.length ca, .slice B k kc] 25)).alloc (.cells #[.int .i64 r, .bool u] 166) = V at *; clear a1; have HSV := zH (HS.o.under HV.o)
 have KEEP := zH (show ∀ W, Below V.heap.size V W -> (λ W => W.cell? ⟨S, 0, none⟩ = some (.pointer (some ⟨P, 0, none⟩)) /\ W.cell? ⟨S, 7, none⟩ = some (.map (some v1)) /\ W.cell? ⟨P, 1, none⟩ = some (.map (some c1)) /\ W.cell? ⟨w.heap.size, 1, none⟩ = some (.string (str nm)) /\ W.cell? ⟨w.heap.size, 3, none⟩ = some (.slice A cs.length ca) /\ W.cell? ⟨w.heap.size + 1, 1, none⟩ = some (.bool u)) W from
  λ W hW => by
   obtain ⟨b0, _, _, _, _, _, _, b7⟩ := fq (ag hW HSV.o.box); obtain ⟨_, d1, _, _⟩ := (HSV.o.under hW).prog.row; obtain ⟨_, g1, _, g3, _⟩ := aN (ag hW B1.o); obtain ⟨_, j1⟩ := bM (ag hW B2.o); exact ⟨b0, b7, d1, g1, g3, j1⟩)
 obtain ⟨lc, hmc, hrc⟩ := HSV.o.prog.mc; have HMC := zH hmc; have HRC := zH hrc; clear hmc hrc; refine wp_region_held_drew (S := (λ W => W.cell? ⟨S, 0, none⟩ = some (.pointer (some ⟨P, 0, none⟩)) /\ W.cell? ⟨S, 7, none⟩ = some (.map (some v1)) /\ W.cell? ⟨P, 1, none⟩ = some (.map (some c1)) /\ W.cell? ⟨w.heap.size, 1, none⟩ = some (.string (str nm)) /\ W.cell? ⟨w.heap.size, 3, none⟩ = some (.slice A cs.length ca) /\ W.cell? ⟨w.heap.size + 1, 1, none⟩ = some (.bool u))) zK ?_ (λ hHeld => ?_)
 . exact KEEP.o _ (Below.refl _ _).drew
 refine aa 0 ?_; refine aa 1 ?_; refine aa 2 ?_; refine aa 3 ?_; refine aa 4 ?_; refine aa 5 ?_; refine aa 6 ?_; refine aa 7 ?_; refine aa 8 ?_; refine au 9 zK rfl (λ K hK => ?_); go_simp
 (go_at_call 102
  (with_reducible refine (ij (HMC.o.under (zB V).drew) HRC.o.sh HNM.o).mono ?_); rintro e w7 ⟨he, hb7⟩; rw [HRC.o.1, show s.prog.cons.map Prod.fst = s.prog.conKeys from rfl, HBQ.o] at he; subst he; obtain ⟨G1w, rfl⟩ := zW w7; have G1 := zH (((zB V).drew).trans (hb7.mono ((zB V).drew).size)); clear hb7)
 refine hK.out _ _ (KEEP.o _ ?_) (λ hHeld => ?_)
 . (repeat (first | exact Below.refl _ _ | exact G1.o | refine Below.drew ?_ | refine Below.alloc ?_ (by simp) _ | refine Below.setCell ?_ (by simp) _))
 clear hK K; try simp only [Act.put, aK, aI, aJ]
 refine aa 10 ?_; refine wpAnyH_done zK ?_ _; go_wp2_with fail
 go_ret; exact ⟨aj HQ.o.symm, HV.o.trans (G1.o.mono HV.o.size)⟩
theorem Dk {w : World} (h : du w S P e1 c1 n1 t1 f1 v1 nd s) {n : Int} {nm : Tx} {A B : Option Addr} {cs : List Tx} {ca k kc : Nat} (hnm : nm.length <= maxLen) (hcs : aG w (.slice A cs.length ca) cs) (r : Int) (u : Bool) (hne : cs ≠ []) :
  Calls prog 149 #[.pointer (some ⟨S, 0, none⟩), .agg #[.int .i64 11, .string (str nm), .int .i64 n, .slice A cs.length ca, .slice B k kc], .agg #[.int .i64 r, .bool u]] w (ax (bj s 11 nm cs k r u) w) := by
 have HS := zH h; have HNM := zH hnm; have HCS := zH hcs; have hlc : cs.length <= 9223372036854775807 := (by obtain ⟨_, _, e, h1, h2, _⟩ := hcs; injection e with _ _ e3; unfold maxLen at h2; omega); clear h hnm hcs; have HQ := zH (show bj s 11 nm cs k r u = (!u && (s.vars.contains nm && s.prog.conKeys.contains (cs.headD []))) by simp [bj]); obtain ⟨c0, rr, hcc⟩ := List.exists_cons_of_ne_nil hne
 have HE0 := zH (show ∃ a, A = some a /\ a.block < w.heap.size /\ w.cell? a = some (.string (str c0)) /\ c0.length <= maxLen by
  obtain ⟨A', c', e', _, _, he⟩ := HCS.o; injection e' with e1 _ _; obtain ⟨L0, hE0, rfl, hcl⟩ := he 0 c0 (by rw [hcc]; rfl); obtain ⟨a, ea, hab, _, q0⟩ := ez hE0; simp only [Nat.zero_mul] at q0; rw [add_zero] at q0; exact ⟨a, e1.trans ea, hab, q0, hcl⟩)
 have HHD := zH (show cs.headD [] = c0 by rw [hcc]; rfl); have hpos : 0 < cs.length := (by rw [hcc]; simp); clear hne hcc; obtain ⟨a, rfl, hab, q0, hcl⟩ := HE0.o; have HCL := zH hcl; obtain ⟨b, hb⟩ : ∃ b, s.prog.conKeys.contains c0 = b := ⟨_, rfl⟩; have HBQ := zH hb; clear hcl hb; go_enter func149, ntmps149
 go_wp2_with fail
 have a1 : Below w.heap.size w (w.alloc (.cells #[.int .i64 11, .string (str nm), .int .i64 n, .slice (some a) cs.length ca, .slice B k kc] 25)) := (Below.refl _ w).alloc (Nat.le_refl _) _; have HV := zH (a1.alloc (by simp) (.cells #[.int .i64 r, .bool u] 166)); have B1 := zH (aQ (o := .cells #[.int .i64 r, .bool u] 166) (heap_alloc_new w (.cells #[.int .i64 11, .string (str nm), .int .i64 n, .slice (some a) cs.length ca, .slice B k kc] 25))); have B2 := zH (show ((w.alloc (.cells #[.int .i64 11, .string (str nm), .int .i64 n, .slice (some a) cs.length ca, .slice B k kc] 25)).alloc (.cells #[.int .i64 r, .bool u] 166)).heap[w.heap.size + 1]? = some (.cells #[.int .i64 r, .bool u] 166 (0, 0)) from aB (by simp)); generalize (w.alloc (.cells #[.int .i64 11, .string (str nm), .int .i64 n, .slice (some a) cs.length ca, .slice B k kc] 25)).alloc (.cells #[.int .i64 r, .bool u] 166) = V at *; clear a1; have HSV := zH (HS.o.under HV.o)
 have KEEP := zH (show ∀ W, Below V.heap.size V W -> (λ W => W.cell? ⟨S, 0, none⟩ = some (.pointer (some ⟨P, 0, none⟩)) /\ W.cell? ⟨S, 7, none⟩ = some (.map (some v1)) /\ W.cell? ⟨P, 1, none⟩ = some (.map (some c1)) /\ W.cell? ⟨w.heap.size, 1, none⟩ = some (.string (str nm)) /\ W.cell? ⟨w.heap.size, 3, none⟩ = some (.slice (some a) cs.length ca) /\ W.cell? ⟨w.heap.size + 1, 1, none⟩ = some (.bool u) /\ W.cell? a = some (.string (str c0))) W from
  λ W hW => by
   obtain ⟨b0, _, _, _, _, _, _, b7⟩ := fq (ag hW HSV.o.box); obtain ⟨_, d1, _, _⟩ := (HSV.o.under hW).prog.row; obtain ⟨_, g1, _, g3, _⟩ := aN (ag hW B1.o); obtain ⟨_, j1⟩ := bM (ag hW B2.o); exact ⟨b0, b7, d1, g1, g3, j1, (hW.cell (p := a) (Nat.lt_of_lt_of_le hab HV.o.size)).trans ((HV.o.cell (p := a) hab).trans q0)⟩)
 obtain ⟨lv, hmv, hkv, hsv⟩ := HSV.o.mv; have HMV := zH hmv; have HKV := zH hkv; have HSH := zH hsv; clear hmv hkv hsv; obtain ⟨lc, hmc, hrc⟩ := HSV.o.prog.mc; have HMC := zH hmc; have HRC := zH hrc; clear hmc hrc; cases u
 . cases hc : s.vars.contains nm
   . have HC := zH hc; clear hc; refine wp_region_held_drew (S := (λ W => W.cell? ⟨S, 0, none⟩ = some (.pointer (some ⟨P, 0, none⟩)) /\ W.cell? ⟨S, 7, none⟩ = some (.map (some v1)) /\ W.cell? ⟨P, 1, none⟩ = some (.map (some c1)) /\ W.cell? ⟨w.heap.size, 1, none⟩ = some (.string (str nm)) /\ W.cell? ⟨w.heap.size, 3, none⟩ = some (.slice (some a) cs.length ca) /\ W.cell? ⟨w.heap.size + 1, 1, none⟩ = some (.bool false) /\ W.cell? a = some (.string (str c0)))) zK ?_ (λ hHeld => ?_)
     . exact KEEP.o _ (Below.refl _ _).drew
     refine aa 0 ?_; refine aa 1 ?_; refine aa 2 ?_; refine aa 3 ?_; refine aa 4 ?_; refine aa 5 ?_; refine aa 6 ?_; refine aa 7 ?_; refine aa 8 ?_; refine aa 9 ?_; refine au 10 zK rfl (λ K hK => ?_); go_simp
     (go_at_call 144
      (with_reducible refine (dD (HMV.o.under (zB V).drew) HSH.o HNM.o).mono ?_); rintro e w7 ⟨he, hb7⟩; rw [HKV.o, HC.o] at he; subst he; obtain ⟨G1w, rfl⟩ := zW w7; have G1 := zH (((zB V).drew).trans (hb7.mono ((zB V).drew).size)); clear hb7)
     refine hK.out _ _ (KEEP.o _ ?_) (λ hHeld => ?_)
     . (repeat (first | exact Below.refl _ _ | exact G1.o | refine Below.drew ?_ | refine Below.alloc ?_ (by simp) _ | refine Below.setCell ?_ (by simp) _))
     clear hK K; try simp only [Act.put, aK, aI, aJ]
     refine aa 11 ?_; refine aa 12 ?_; refine ah 13 ?_; refine ah 14 ?_; refine ah 15 ?_; refine ah 16 ?_; refine ah 17 ?_; refine ah 18 ?_; refine ah 19 ?_; refine ah 20 ?_; refine ah 21 ?_; refine ah 22 ?_; refine ah 23 ?_; refine ah 24 ?_; refine aa 25 ?_; refine aa 26 ?_; refine wpAnyH_done zK ?_ _; go_wp2_with fail
     go_ret; exact ⟨aj (by rw [HQ.o, HC.o]; rfl), HV.o.trans (G1.o.mono HV.o.size)⟩
   . have HC := zH hc; clear hc; refine wp_region_held_drew (S := (λ W => W.cell? ⟨S, 0, none⟩ = some (.pointer (some ⟨P, 0, none⟩)) /\ W.cell? ⟨S, 7, none⟩ = some (.map (some v1)) /\ W.cell? ⟨P, 1, none⟩ = some (.map (some c1)) /\ W.cell? ⟨w.heap.size, 1, none⟩ = some (.string (str nm)) /\ W.cell? ⟨w.heap.size, 3, none⟩ = some (.slice (some a) cs.length ca) /\ W.cell? ⟨w.heap.size + 1, 1, none⟩ = some (.bool false) /\ W.cell? a = some (.string (str c0)))) zK ?_ (λ hHeld => ?_)
     . exact KEEP.o _ (Below.refl _ _).drew
     refine aa 0 ?_; refine aa 1 ?_; refine aa 2 ?_; refine aa 3 ?_; refine aa 4 ?_; refine aa 5 ?_; refine aa 6 ?_; refine aa 7 ?_; refine aa 8 ?_; refine aa 9 ?_; refine au 10 zK rfl (λ K hK => ?_); go_simp
     (go_at_call 144
      (with_reducible refine (dD (HMV.o.under (zB V).drew) HSH.o HNM.o).mono ?_); rintro e w7 ⟨he, hb7⟩; rw [HKV.o, HC.o] at he; subst he; obtain ⟨G1w, rfl⟩ := zW w7; have G1 := zH (((zB V).drew).trans (hb7.mono ((zB V).drew).size)); clear hb7)
     refine hK.out _ _ (KEEP.o _ ?_) (λ hHeld => ?_)
     . (repeat (first | exact Below.refl _ _ | exact G1.o | refine Below.drew ?_ | refine Below.alloc ?_ (by simp) _ | refine Below.setCell ?_ (by simp) _))
     clear hK K; try simp only [Act.put, aK, aI, aJ]
     refine aa 11 ?_; refine aa 12 ?_; refine aa 13 ?_; refine aa 14 ?_; refine aa 15 ?_; refine aa 16 ?_; refine aa 17 ?_; refine aa 18 ?_; refine aa 19 ?_; refine aa 20 ?_; refine aa 21 ?_; refine aa 22 ?_; refine aa 23 ?_; refine au 24 zK rfl (λ K hK => ?_); go_simp
     (go_at_call 102
      (with_reducible refine (ij (HMC.o.under G1.o) HRC.o.sh HCL.o).mono ?_); rintro e w7 ⟨he, hb7⟩; rw [HRC.o.1, show s.prog.cons.map Prod.fst = s.prog.conKeys from rfl, HBQ.o] at he; subst he; obtain ⟨G2w, rfl⟩ := zW w7; have G2 := zH ((G1.o).trans (hb7.mono (G1.o).size)); clear hb7)
     refine hK.out _ _ (KEEP.o _ ?_) (λ hHeld => ?_)
     . (repeat (first | exact Below.refl _ _ | exact G2.o | refine Below.drew ?_ | refine Below.alloc ?_ (by simp) _ | refine Below.setCell ?_ (by simp) _))
     clear hK K; try simp only [Act.put, aK, aI, aJ]
     refine aa 25 ?_; refine aa 26 ?_; refine wpAnyH_done zK ?_ _; go_wp2_with fail
     go_ret; exact ⟨aj (by rw [HQ.o, HC.o, HHD.o, HBQ.o]; rfl), HV.o.trans (G2.o.mono HV.o.size)⟩
 . skip
   refine wp_region_held_drew (S := (λ W => W.cell? ⟨S, 0, none⟩ = some (.pointer (some ⟨P, 0, none⟩)) /\ W.cell? ⟨S, 7, none⟩ = some (.map (some v1)) /\ W.cell? ⟨P, 1, none⟩ = some (.map (some c1)) /\ W.cell? ⟨w.heap.size, 1, none⟩ = some (.string (str nm)) /\ W.cell? ⟨w.heap.size, 3, none⟩ = some (.slice (some a) cs.length ca) /\ W.cell? ⟨w.heap.size + 1, 1, none⟩ = some (.bool true) /\ W.cell? a = some (.string (str c0)))) zK ?_ (λ hHeld => ?_)
   . exact KEEP.o _ (Below.refl _ _).drew
   refine aa 0 ?_; refine aa 1 ?_; refine aa 2 ?_; refine aa 3 ?_; refine ah 4 ?_; refine ah 5 ?_; refine ah 6 ?_; refine ah 7 ?_; refine ah 8 ?_; refine ah 9 ?_; refine ah 10 ?_; refine aa 11 ?_; refine aa 12 ?_; refine ah 13 ?_; refine ah 14 ?_; refine ah 15 ?_; refine ah 16 ?_; refine ah 17 ?_; refine ah 18 ?_; refine ah 19 ?_; refine ah 20 ?_; refine ah 21 ?_; refine ah 22 ?_; refine ah 23 ?_; refine ah 24 ?_; refine aa 25 ?_; refine aa 26 ?_; refine wpAnyH_done zK ?_ _; go_wp2_with fail
   go_ret; exact ⟨aj (by rw [HQ.o]; rfl), HV.o.drew⟩
theorem Dj {w : World} (h : du w S P e1 c1 n1 t1 f1 v1 nd s) {n : Int} {nm : Tx} {A B : Option Addr} {cs : List Tx} {ca k kc : Nat} (hnm : nm.length <= maxLen) (hcs : aG w (.slice A cs.length ca) cs) (r : Int) (u : Bool) (hne : cs ≠ []) :
  Calls prog 149 #[.pointer (some ⟨S, 0, none⟩), .agg #[.int .i64 12, .string (str nm), .int .i64 n, .slice A cs.length ca, .slice B k kc], .agg #[.int .i64 r, .bool u]] w (ax (bj s 12 nm cs k r u) w) := by
 have HS := zH h; have HNM := zH hnm; have HCS := zH hcs; have hlc : cs.length <= 9223372036854775807 := (by obtain ⟨_, _, e, h1, h2, _⟩ := hcs; injection e with _ _ e3; unfold maxLen at h2; omega); clear h hnm hcs; have HQ := zH (show bj s 12 nm cs k r u = (!u && (s.vars.contains nm && dN s cs)) by simp [bj]); have HNE := zH hne; clear hne; go_enter func149, ntmps149
 go_wp2_with fail
 have a1 : Below w.heap.size w (w.alloc (.cells #[.int .i64 12, .string (str nm), .int .i64 n, .slice A cs.length ca, .slice B k kc] 25)) := (Below.refl _ w).alloc (Nat.le_refl _) _; have HV := zH (a1.alloc (by simp) (.cells #[.int .i64 r, .bool u] 166)); have B1 := zH (aQ (o := .cells #[.int .i64 r, .bool u] 166) (heap_alloc_new w (.cells #[.int .i64 12, .string (str nm), .int .i64 n, .slice A cs.length ca, .slice B k kc] 25))); have B2 := zH (show ((w.alloc (.cells #[.int .i64 12, .string (str nm), .int .i64 n, .slice A cs.length ca, .slice B k kc] 25)).alloc (.cells #[.int .i64 r, .bool u] 166)).heap[w.heap.size + 1]? = some (.cells #[.int .i64 r, .bool u] 166 (0, 0)) from aB (by simp)); generalize (w.alloc (.cells #[.int .i64 12, .string (str nm), .int .i64 n, .slice A cs.length ca, .slice B k kc] 25)).alloc (.cells #[.int .i64 r, .bool u] 166) = V at *; clear a1; have HSV := zH (HS.o.under HV.o)
 have KEEP := zH (show ∀ W, Below V.heap.size V W -> (λ W => W.cell? ⟨S, 0, none⟩ = some (.pointer (some ⟨P, 0, none⟩)) /\ W.cell? ⟨S, 7, none⟩ = some (.map (some v1)) /\ W.cell? ⟨P, 1, none⟩ = some (.map (some c1)) /\ W.cell? ⟨w.heap.size, 1, none⟩ = some (.string (str nm)) /\ W.cell? ⟨w.heap.size, 3, none⟩ = some (.slice A cs.length ca) /\ W.cell? ⟨w.heap.size + 1, 1, none⟩ = some (.bool u)) W from
  λ W hW => by
   obtain ⟨b0, _, _, _, _, _, _, b7⟩ := fq (ag hW HSV.o.box); obtain ⟨_, d1, _, _⟩ := (HSV.o.under hW).prog.row; obtain ⟨_, g1, _, g3, _⟩ := aN (ag hW B1.o); obtain ⟨_, j1⟩ := bM (ag hW B2.o); exact ⟨b0, b7, d1, g1, g3, j1⟩)
 obtain ⟨lv, hmv, hkv, hsv⟩ := HSV.o.mv; have HMV := zH hmv; have HKV := zH hkv; have HSH := zH hsv; clear hmv hkv hsv; cases u
 . cases hc : s.vars.contains nm
   . have HC := zH hc; clear hc; refine wp_region_held_drew (S := (λ W => W.cell? ⟨S, 0, none⟩ = some (.pointer (some ⟨P, 0, none⟩)) /\ W.cell? ⟨S, 7, none⟩ = some (.map (some v1)) /\ W.cell? ⟨P, 1, none⟩ = some (.map (some c1)) /\ W.cell? ⟨w.heap.size, 1, none⟩ = some (.string (str nm)) /\ W.cell? ⟨w.heap.size, 3, none⟩ = some (.slice A cs.length ca) /\ W.cell? ⟨w.heap.size + 1, 1, none⟩ = some (.bool false))) zK ?_ (λ hHeld => ?_)
     . exact KEEP.o _ (Below.refl _ _).drew
     refine aa 0 ?_; refine aa 1 ?_; refine aa 2 ?_; refine aa 3 ?_; refine aa 4 ?_; refine aa 5 ?_; refine aa 6 ?_; refine aa 7 ?_; refine aa 8 ?_; refine aa 9 ?_; refine au 10 zK rfl (λ K hK => ?_); go_simp
     (go_at_call 144
      (with_reducible refine (dD (HMV.o.under (zB V).drew) HSH.o HNM.o).mono ?_); rintro e w7 ⟨he, hb7⟩; rw [HKV.o, HC.o] at he; subst he; obtain ⟨G1w, rfl⟩ := zW w7; have G1 := zH (((zB V).drew).trans (hb7.mono ((zB V).drew).size)); clear hb7)
     refine hK.out _ _ (KEEP.o _ ?_) (λ hHeld => ?_)
     . (repeat (first | exact Below.refl _ _ | exact G1.o | refine Below.drew ?_ | refine Below.alloc ?_ (by simp) _ | refine Below.setCell ?_ (by simp) _))
     clear hK K; try simp only [Act.put, aK, aI, aJ]
     refine aa 11 ?_; refine aa 12 ?_; refine ah 13 ?_; refine ah 14 ?_; refine ah 15 ?_; refine ah 16 ?_; refine aa 17 ?_; refine aa 18 ?_; refine wpAnyH_done zK ?_ _; go_wp2_with fail
     go_ret; exact ⟨aj (by rw [HQ.o, HC.o]; rfl), HV.o.trans (G1.o.mono HV.o.size)⟩
   . have HC := zH hc; clear hc; refine wp_region_held_drew (S := (λ W => W.cell? ⟨S, 0, none⟩ = some (.pointer (some ⟨P, 0, none⟩)) /\ W.cell? ⟨S, 7, none⟩ = some (.map (some v1)) /\ W.cell? ⟨P, 1, none⟩ = some (.map (some c1)) /\ W.cell? ⟨w.heap.size, 1, none⟩ = some (.string (str nm)) /\ W.cell? ⟨w.heap.size, 3, none⟩ = some (.slice A cs.length ca) /\ W.cell? ⟨w.heap.size + 1, 1, none⟩ = some (.bool false))) zK ?_ (λ hHeld => ?_)
     . exact KEEP.o _ (Below.refl _ _).drew
     refine aa 0 ?_; refine aa 1 ?_; refine aa 2 ?_; refine aa 3 ?_; refine aa 4 ?_; refine aa 5 ?_; refine aa 6 ?_; refine aa 7 ?_; refine aa 8 ?_; refine aa 9 ?_; refine au 10 zK rfl (λ K hK => ?_); go_simp
     (go_at_call 144
      (with_reducible refine (dD (HMV.o.under (zB V).drew) HSH.o HNM.o).mono ?_); rintro e w7 ⟨he, hb7⟩; rw [HKV.o, HC.o] at he; subst he; obtain ⟨G1w, rfl⟩ := zW w7; have G1 := zH (((zB V).drew).trans (hb7.mono ((zB V).drew).size)); clear hb7)
     refine hK.out _ _ (KEEP.o _ ?_) (λ hHeld => ?_)
     . (repeat (first | exact Below.refl _ _ | exact G1.o | refine Below.drew ?_ | refine Below.alloc ?_ (by simp) _ | refine Below.setCell ?_ (by simp) _))
     clear hK K; try simp only [Act.put, aK, aI, aJ]
     refine aa 11 ?_; refine aa 12 ?_; refine aa 13 ?_; refine aa 14 ?_; refine aa 15 ?_; refine au 16 zK rfl (λ K hK => ?_); go_simp
     (go_at_call 178
      (with_reducible refine (lr (HSV.o.under G1.o) ((HCS.o.under HV.o).under G1.o) HNE.o).mono ?_); rintro e w7 ⟨rfl, hb7⟩; obtain ⟨G2w, rfl⟩ := zW w7; have G2 := zH (G1.o.trans (hb7.mono G1.o.size)); clear hb7)
     refine hK.out _ _ (KEEP.o _ ?_) (λ hHeld => ?_)
     . (repeat (first | exact Below.refl _ _ | exact G2.o | refine Below.drew ?_ | refine Below.alloc ?_ (by simp) _ | refine Below.setCell ?_ (by simp) _))
     clear hK K; try simp only [Act.put, aK, aI, aJ]
     refine aa 17 ?_; refine aa 18 ?_; refine wpAnyH_done zK ?_ _; go_wp2_with fail
     go_ret; exact ⟨aj (by rw [HQ.o, HC.o]; rfl), HV.o.trans (G2.o.mono HV.o.size)⟩
 . skip
   refine wp_region_held_drew (S := (λ W => W.cell? ⟨S, 0, none⟩ = some (.pointer (some ⟨P, 0, none⟩)) /\ W.cell? ⟨S, 7, none⟩ = some (.map (some v1)) /\ W.cell? ⟨P, 1, none⟩ = some (.map (some c1)) /\ W.cell? ⟨w.heap.size, 1, none⟩ = some (.string (str nm)) /\ W.cell? ⟨w.heap.size, 3, none⟩ = some (.slice A cs.length ca) /\ W.cell? ⟨w.heap.size + 1, 1, none⟩ = some (.bool true))) zK ?_ (λ hHeld => ?_)
   . exact KEEP.o _ (Below.refl _ _).drew
   refine aa 0 ?_; refine aa 1 ?_; refine aa 2 ?_; refine aa 3 ?_; refine ah 4 ?_; refine ah 5 ?_; refine ah 6 ?_; refine ah 7 ?_; refine ah 8 ?_; refine ah 9 ?_; refine ah 10 ?_; refine aa 11 ?_; refine aa 12 ?_; refine ah 13 ?_; refine ah 14 ?_; refine ah 15 ?_; refine ah 16 ?_; refine aa 17 ?_; refine aa 18 ?_; refine wpAnyH_done zK ?_ _; go_wp2_with fail
   go_ret; exact ⟨aj (by rw [HQ.o]; rfl), HV.o.drew⟩
theorem Di {w : World} (h : du w S P e1 c1 n1 t1 f1 v1 nd s) {n : Int} {nm : Tx} {A B : Option Addr} {cs : List Tx} {ca k kc : Nat} (hnm : nm.length <= maxLen) (hcs : aG w (.slice A cs.length ca) cs) (r : Int) (u : Bool) (hne : cs ≠ []) :
  Calls prog 149 #[.pointer (some ⟨S, 0, none⟩), .agg #[.int .i64 13, .string (str nm), .int .i64 n, .slice A cs.length ca, .slice B k kc], .agg #[.int .i64 r, .bool u]] w (ax (bj s 13 nm cs k r u) w) := by
 have HS := zH h; have HNM := zH hnm; have HCS := zH hcs; have hlc : cs.length <= 9223372036854775807 := (by obtain ⟨_, _, e, h1, h2, _⟩ := hcs; injection e with _ _ e3; unfold maxLen at h2; omega); clear h hnm hcs; have HQ := zH (show bj s 13 nm cs k r u = (!u && (s.vars.contains nm && dN s cs)) by simp [bj]); have HNE := zH hne; clear hne; go_enter func149, ntmps149
 go_wp2_with fail
 have a1 : Below w.heap.size w (w.alloc (.cells #[.int .i64 13, .string (str nm), .int .i64 n, .slice A cs.length ca, .slice B k kc] 25)) := (Below.refl _ w).alloc (Nat.le_refl _) _; have HV := zH (a1.alloc (by simp) (.cells #[.int .i64 r, .bool u] 166)); have B1 := zH (aQ (o := .cells #[.int .i64 r, .bool u] 166) (heap_alloc_new w (.cells #[.int .i64 13, .string (str nm), .int .i64 n, .slice A cs.length ca, .slice B k kc] 25))); have B2 := zH (show ((w.alloc (.cells #[.int .i64 13, .string (str nm), .int .i64 n, .slice A cs.length ca, .slice B k kc] 25)).alloc (.cells #[.int .i64 r, .bool u] 166)).heap[w.heap.size + 1]? = some (.cells #[.int .i64 r, .bool u] 166 (0, 0)) from aB (by simp)); generalize (w.alloc (.cells #[.int .i64 13, .string (str nm), .int .i64 n, .slice A cs.length ca, .slice B k kc] 25)).alloc (.cells #[.int .i64 r, .bool u] 166) = V at *; clear a1; have HSV := zH (HS.o.under HV.o)
 have KEEP := zH (show ∀ W, Below V.heap.size V W -> (λ W => W.cell? ⟨S, 0, none⟩ = some (.pointer (some ⟨P, 0, none⟩)) /\ W.cell? ⟨S, 7, none⟩ = some (.map (some v1)) /\ W.cell? ⟨P, 1, none⟩ = some (.map (some c1)) /\ W.cell? ⟨w.heap.size, 1, none⟩ = some (.string (str nm)) /\ W.cell? ⟨w.heap.size, 3, none⟩ = some (.slice A cs.length ca) /\ W.cell? ⟨w.heap.size + 1, 1, none⟩ = some (.bool u)) W from
  λ W hW => by
   obtain ⟨b0, _, _, _, _, _, _, b7⟩ := fq (ag hW HSV.o.box); obtain ⟨_, d1, _, _⟩ := (HSV.o.under hW).prog.row; obtain ⟨_, g1, _, g3, _⟩ := aN (ag hW B1.o); obtain ⟨_, j1⟩ := bM (ag hW B2.o); exact ⟨b0, b7, d1, g1, g3, j1⟩)
 obtain ⟨lv, hmv, hkv, hsv⟩ := HSV.o.mv; have HMV := zH hmv; have HKV := zH hkv; have HSH := zH hsv; clear hmv hkv hsv; cases u
 . cases hc : s.vars.contains nm
   . have HC := zH hc; clear hc; refine wp_region_held_drew (S := (λ W => W.cell? ⟨S, 0, none⟩ = some (.pointer (some ⟨P, 0, none⟩)) /\ W.cell? ⟨S, 7, none⟩ = some (.map (some v1)) /\ W.cell? ⟨P, 1, none⟩ = some (.map (some c1)) /\ W.cell? ⟨w.heap.size, 1, none⟩ = some (.string (str nm)) /\ W.cell? ⟨w.heap.size, 3, none⟩ = some (.slice A cs.length ca) /\ W.cell? ⟨w.heap.size + 1, 1, none⟩ = some (.bool false))) zK ?_ (λ hHeld => ?_)
     . exact KEEP.o _ (Below.refl _ _).drew
     refine aa 0 ?_; refine aa 1 ?_; refine aa 2 ?_; refine aa 3 ?_; refine aa 4 ?_; refine aa 5 ?_; refine aa 6 ?_; refine aa 7 ?_; refine aa 8 ?_; refine aa 9 ?_; refine au 10 zK rfl (λ K hK => ?_); go_simp
     (go_at_call 144
      (with_reducible refine (dD (HMV.o.under (zB V).drew) HSH.o HNM.o).mono ?_); rintro e w7 ⟨he, hb7⟩; rw [HKV.o, HC.o] at he; subst he; obtain ⟨G1w, rfl⟩ := zW w7; have G1 := zH (((zB V).drew).trans (hb7.mono ((zB V).drew).size)); clear hb7)
     refine hK.out _ _ (KEEP.o _ ?_) (λ hHeld => ?_)
     . (repeat (first | exact Below.refl _ _ | exact G1.o | refine Below.drew ?_ | refine Below.alloc ?_ (by simp) _ | refine Below.setCell ?_ (by simp) _))
     clear hK K; try simp only [Act.put, aK, aI, aJ]
     refine aa 11 ?_; refine aa 12 ?_; refine ah 13 ?_; refine ah 14 ?_; refine ah 15 ?_; refine ah 16 ?_; refine aa 17 ?_; refine aa 18 ?_; refine wpAnyH_done zK ?_ _; go_wp2_with fail
     go_ret; exact ⟨aj (by rw [HQ.o, HC.o]; rfl), HV.o.trans (G1.o.mono HV.o.size)⟩
   . have HC := zH hc; clear hc; refine wp_region_held_drew (S := (λ W => W.cell? ⟨S, 0, none⟩ = some (.pointer (some ⟨P, 0, none⟩)) /\ W.cell? ⟨S, 7, none⟩ = some (.map (some v1)) /\ W.cell? ⟨P, 1, none⟩ = some (.map (some c1)) /\ W.cell? ⟨w.heap.size, 1, none⟩ = some (.string (str nm)) /\ W.cell? ⟨w.heap.size, 3, none⟩ = some (.slice A cs.length ca) /\ W.cell? ⟨w.heap.size + 1, 1, none⟩ = some (.bool false))) zK ?_ (λ hHeld => ?_)
     . exact KEEP.o _ (Below.refl _ _).drew
     refine aa 0 ?_; refine aa 1 ?_; refine aa 2 ?_; refine aa 3 ?_; refine aa 4 ?_; refine aa 5 ?_; refine aa 6 ?_; refine aa 7 ?_; refine aa 8 ?_; refine aa 9 ?_; refine au 10 zK rfl (λ K hK => ?_); go_simp
     (go_at_call 144
      (with_reducible refine (dD (HMV.o.under (zB V).drew) HSH.o HNM.o).mono ?_); rintro e w7 ⟨he, hb7⟩; rw [HKV.o, HC.o] at he; subst he; obtain ⟨G1w, rfl⟩ := zW w7; have G1 := zH (((zB V).drew).trans (hb7.mono ((zB V).drew).size)); clear hb7)
     refine hK.out _ _ (KEEP.o _ ?_) (λ hHeld => ?_)
     . (repeat (first | exact Below.refl _ _ | exact G1.o | refine Below.drew ?_ | refine Below.alloc ?_ (by simp) _ | refine Below.setCell ?_ (by simp) _))
     clear hK K; try simp only [Act.put, aK, aI, aJ]
     refine aa 11 ?_; refine aa 12 ?_; refine aa 13 ?_; refine aa 14 ?_; refine aa 15 ?_; refine au 16 zK rfl (λ K hK => ?_); go_simp
     (go_at_call 178
      (with_reducible refine (lr (HSV.o.under G1.o) ((HCS.o.under HV.o).under G1.o) HNE.o).mono ?_); rintro e w7 ⟨rfl, hb7⟩; obtain ⟨G2w, rfl⟩ := zW w7; have G2 := zH (G1.o.trans (hb7.mono G1.o.size)); clear hb7)
     refine hK.out _ _ (KEEP.o _ ?_) (λ hHeld => ?_)
     . (repeat (first | exact Below.refl _ _ | exact G2.o | refine Below.drew ?_ | refine Below.alloc ?_ (by simp) _ | refine Below.setCell ?_ (by simp) _))
     clear hK K; try simp only [Act.put, aK, aI, aJ]
     refine aa 17 ?_; refine aa 18 ?_; refine wpAnyH_done zK ?_ _; go_wp2_with fail
     go_ret; exact ⟨aj (by rw [HQ.o, HC.o]; rfl), HV.o.trans (G2.o.mono HV.o.size)⟩
 . skip
   refine wp_region_held_drew (S := (λ W => W.cell? ⟨S, 0, none⟩ = some (.pointer (some ⟨P, 0, none⟩)) /\ W.cell? ⟨S, 7, none⟩ = some (.map (some v1)) /\ W.cell? ⟨P, 1, none⟩ = some (.map (some c1)) /\ W.cell? ⟨w.heap.size, 1, none⟩ = some (.string (str nm)) /\ W.cell? ⟨w.heap.size, 3, none⟩ = some (.slice A cs.length ca) /\ W.cell? ⟨w.heap.size + 1, 1, none⟩ = some (.bool true))) zK ?_ (λ hHeld => ?_)
   . exact KEEP.o _ (Below.refl _ _).drew
   refine aa 0 ?_; refine aa 1 ?_; refine aa 2 ?_; refine aa 3 ?_; refine ah 4 ?_; refine ah 5 ?_; refine ah 6 ?_; refine ah 7 ?_; refine ah 8 ?_; refine ah 9 ?_; refine ah 10 ?_; refine aa 11 ?_; refine aa 12 ?_; refine ah 13 ?_; refine ah 14 ?_; refine ah 15 ?_; refine ah 16 ?_; refine aa 17 ?_; refine aa 18 ?_; refine wpAnyH_done zK ?_ _; go_wp2_with fail
   go_ret; exact ⟨aj (by rw [HQ.o]; rfl), HV.o.drew⟩
theorem Dh {w : World} (h : du w S P e1 c1 n1 t1 f1 v1 nd s) {n : Int} {nm : Tx} {A B : Option Addr} {cs : List Tx} {ca k kc : Nat} (hnm : nm.length <= maxLen) (hcs : aG w (.slice A cs.length ca) cs) (r : Int) (u : Bool) :
  Calls prog 149 #[.pointer (some ⟨S, 0, none⟩), .agg #[.int .i64 14, .string (str nm), .int .i64 n, .slice A cs.length ca, .slice B k kc], .agg #[.int .i64 r, .bool u]] w (ax (bj s 14 nm cs k r u) w) := by
 have HS := zH h; have HNM := zH hnm; have HCS := zH hcs; have hlc : cs.length <= 9223372036854775807 := (by obtain ⟨_, _, e, h1, h2, _⟩ := hcs; injection e with _ _ e3; unfold maxLen at h2; omega); clear h hnm hcs; have HQ := zH (show bj s 14 nm cs k r u = gU s nm cs k r by simp [bj]); go_enter func149, ntmps149
 go_wp2_with (go_at_call 179
              have a1 : Below w.heap.size w ((w.alloc (.cells #[.int .i64 14, .string (str nm), .int .i64 n, .slice A cs.length ca, .slice B k kc] 25)).alloc (.cells #[.int .i64 r, .bool u] 166)) := ((Below.refl _ w).alloc (Nat.le_refl _) _).alloc (by simp) _; (with_reducible refine (zf (HS.o.under a1) HNM.o (HCS.o.under a1) r).mono ?_); rintro e w7 ⟨rfl, hb7⟩; have G1 := zH (a1.trans (hb7.mono a1.size)); clear a1 hb7)
 go_ret; exact ⟨aj HQ.o.symm, G1.o⟩
theorem EL {w : World} (h : du w S P e1 c1 n1 t1 f1 v1 nd s) {op n : Int} {nm : Tx} {A B : Option Addr} {cs : List Tx} {ca k kc : Nat} (hnm : nm.length <= maxLen) (hcs : aG w (.slice A cs.length ca) cs) (r : Int) (u : Bool) (h4 : (op == 4) = false) (h3 : (op == 3) = false) (h11 : (op == 11) = false) (h12 : (op == 12) = false) (h13 : (op == 13) = false) (h14 : (op == 14) = false) :
  Calls prog 149 #[.pointer (some ⟨S, 0, none⟩), .agg #[.int .i64 op, .string (str nm), .int .i64 n, .slice A cs.length ca, .slice B k kc], .agg #[.int .i64 r, .bool u]] w (ax (bj s op nm cs k r u) w) := by
 have HS := zH h; have HNM := zH hnm; have HCS := zH hcs; have hlc : cs.length <= 9223372036854775807 := (by obtain ⟨_, _, e, h1, h2, _⟩ := hcs; injection e with _ _ e3; unfold maxLen at h2; omega); clear h hnm hcs; have HQ := zH (show bj s op nm cs k r u = true by simp only [beq_eq_false_iff_ne, ne_eq] at h4 h3 h11 h12 h13 h14; simp [bj, h4, h3, h11, h12, h13, h14]); go_enter func149, ntmps149
 go_wp2_with fail
 go_ret; exact ⟨aj HQ.o.symm, ((Below.refl _ w).alloc (Nat.le_refl _) _).alloc (by simp) _⟩
end
end Go.Proofs.YtdcjlihaldhhjaaGreatDoor
