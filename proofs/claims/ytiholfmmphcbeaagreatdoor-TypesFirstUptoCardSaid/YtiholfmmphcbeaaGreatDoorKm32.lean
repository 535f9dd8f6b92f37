import Derived.Test.YtiholfmmphcbeaaGreatDoorKm29
import Derived.Test.YtiholfmmphcbeaaGreatDoorKm31
set_option maxHeartbeats 16000000
set_option maxRecDepth 100000
namespace Go.Proofs.YtiholfmmphcbeaaGreatDoor
open _root_.Go.Proofs.Tryz
open Go.RowKit
open Go.ChangeMaps Go.MapKept
open Go.Maps
theorem Fd : ∀ p ∈ ([] : List (Tx × Value)), ShI p.2 := λ _ hp => absurd hp (List.not_mem_nil)
theorem ax.drew {w : World} {b : Nat} {l : List (Tx × Value)} (h : ax w b l) : ax w.drew b l := h
theorem CX {a b : List Tx} (h : aV [] (a ++ b) = true) : aV [] a = true := by
 rw [AR, Bool.and_eq_true] at h; exact h.1
theorem sd {a b : List Tx} (h : aV [] (a ++ b) = true) : aV [] b = true := by
 rw [kQ _ _ List.nodup_nil] at h ⊢; rw [List.nil_append] at h ⊢; exact (List.nodup_append.1 h).2.1
theorem gF {W : World} {N : Nat} {T0 : TypeId} {fz : Nat × Nat} {u v : Value} {a b : List Tx} (h : W.heap[N]? = some (.cells #[u, v] T0 fz)) (h1 : aF W u a) (h2 : aF W v b) (hl : (a ++ b).length <= 2097152) :
  Calls prog 94 #[.slice (some ⟨N, 0, none⟩) 2 2] W (ar (aV [] (a ++ b)) W) := by
 have := mW (w := W) (A := some ⟨N, 0, none⟩) (c := 2) (ls := [a, b]) (Ja h ⟨u, rfl, h1⟩ ⟨v, rfl, h2⟩ rfl rfl) (by simpa using hl); simpa using this
theorem jq {W : World} {N : Nat} {T0 : TypeId} {fz : Nat × Nat} {u : Value} {a : List Tx} (h : W.heap[N]? = some (.cells #[u] T0 fz)) (h1 : aF W u a) (hl : a.length <= 2097152) :
  Calls prog 94 #[.slice (some ⟨N, 0, none⟩) 1 1] W (ar (aV [] a) W) := by
 have := mW (w := W) (A := some ⟨N, 0, none⟩) (c := 1) (ls := [a]) (Jb h ⟨u, rfl, h1⟩ rfl) (by simpa using hl); simpa using this
def wO (f1 v1 : Nat) (s : aK) (q : aA) (w : World) (e : Ending) (w' : World) : Prop :=
 e = .returned (.bool (cN s q)) /\ aw [f1, v1] w w' /\ (cN s q = true -> ax w' f1 (bd e8 q.funs) /\ ax w' v1 (bd (.int .i64 (-1)) q.ins))
theorem ph {f1 v1 : Nat} {s : aK} {q : aA} {w w' : World} (h : cN s q = false) (hk : aw [f1, v1] w w') : wO f1 v1 s q w (.returned (.bool false)) w' :=
 ⟨ah h.symm, hk, λ h' => by rw [h] at h'; cases h'⟩
section
variable {S P e1 c1 n1 t1 f1 v1 : Nat} {xA : Option Addr} {xn xk : Nat} {sp : aK}
theorem oJ {w : World} {q : aA} {fA iA oA : Option Addr} {fk ik ok : Nat} (hS : aR w P e1 c1 n1 t1 sp)
  (hbox : w.heap[S]? = some (.cells #[.pointer (some ⟨P, 0, none⟩), .string (str q.name), .slice fA q.funs.length fk, .slice iA q.ins.length ik, .slice oA q.outs.length ok, .slice xA xn xk, .map (some f1), .map (some v1)] 139 (0, 0)))
  (hf : aF w (.slice fA q.funs.length fk) q.funs) (hi : aF w (.slice iA q.ins.length ik) q.ins) (ho : aF w (.slice oA q.outs.length ok) q.outs) (hnl : q.name.length <= maxLen)
  (hmf : ax w f1 []) (hmv : ax w v1 []) (hfv : f1 ≠ v1) (hl1 : (q.funs ++ q.ins).length <= 2097152) (hl2 : q.outs.length <= 2097152) :
  Calls prog 49 #[.pointer (some ⟨S, 0, none⟩)] w (wO f1 v1 sp q w) := by
 have hmk : ∀ (fn : Fn) (first cap : Array Value) (w : World), (Instr.makeFunc fn first cap).run prog w = .ok (.func fn first cap) w := λ _ _ _ _ => rfl; have HS := zH hS; have HBOX := zH hbox; have HF0 := zH hf; have HI0 := zH hi; have HO0 := zH ho; have HNL := zH hnl; have HMF0 := zH hmf; have HMV0 := zH hmv; have HFV := zH hfv; have HL1 := zH hl1; have HL2 := zH hl2; have HOK := zH (show cN sp q = (!sp.nodeKeys.contains q.name && (aV [] (q.funs ++ q.ins) && (aV [] q.outs && !q.funs.any λ f => f == q.name || sp.nodeKeys.contains f))) from rfl); have hSl := ab hbox; have hPl := ab hS.box; obtain ⟨y0, y1, y2, y3, y4, y5, y6, y7⟩ := gq hbox; clear hS hbox hf hi ho hnl hmf hmv hfv hl1 hl2; go_enter func49, ntmps49
 go_wp2_with fail
 have BN0 := heap_alloc_new w (.cells #[.pointer (some ⟨S, 0, none⟩)] 137); have HVa := zA w (.cells #[.pointer (some ⟨S, 0, none⟩)] 137); have HV := zH (HVa.alloc HVa.size (.cells #[.string (str q.name), .slice fA q.funs.length fk, .slice iA q.ins.length ik, .slice oA q.outs.length ok, .slice xA xn xk] 53)); have BN := zH (az (o := .cells #[.string (str q.name), .slice fA q.funs.length fk, .slice iA q.ins.length ik, .slice oA q.outs.length ok, .slice xA xn xk] 53) BN0); have BM := zH (show ((w.alloc (.cells #[.pointer (some ⟨S, 0, none⟩)] 137)).alloc (.cells #[.string (str q.name), .slice fA q.funs.length fk, .slice iA q.ins.length ik, .slice oA q.outs.length ok, .slice xA xn xk] 53)).heap[w.heap.size + 1]? = some (.cells #[.string (str q.name), .slice fA q.funs.length fk, .slice iA q.ins.length ik, .slice oA q.outs.length ok, .slice xA xn xk] 53 (0, 0)) from bh (by simp)); generalize (w.alloc (.cells #[.pointer (some ⟨S, 0, none⟩)] 137)).alloc (.cells #[.string (str q.name), .slice fA q.funs.length fk, .slice iA q.ins.length ik, .slice oA q.outs.length ok, .slice xA xn xk] 53) = V at *; clear HVa BN0; have HSV := zH (HS.o.under HV.o); have HBX := zH (ao HV.o HBOX.o); have HF := zH (HF0.o.under HV.o); have HI := zH (HI0.o.under HV.o); have HO := zH (HO0.o.under HV.o); have HMF := zH (HMF0.o.under HV.o); have HMV := zH (HMV0.o.under HV.o); obtain ⟨ln, hmn, hrn⟩ := HSV.o.mn; have HMN := zH hmn; have HSHN := zH hrn.sh; have HKN := zH (show ay ln = sp.nodeKeys from hrn.1); clear hmn hrn
 have KEEP := zH (show ∀ W, aw [f1, v1] V W -> W.cell? ⟨w.heap.size, 0, none⟩ = some (.pointer (some ⟨S, 0, none⟩)) /\ W.cell? ⟨S, 0, none⟩ = some (.pointer (some ⟨P, 0, none⟩)) /\ W.cell? ⟨S, 6, none⟩ = some (.map (some f1)) /\ W.cell? ⟨S, 7, none⟩ = some (.map (some v1)) /\ W.cell? ⟨P, 2, none⟩ = some (.map (some n1)) /\ W.cell? ⟨w.heap.size + 1, 0, none⟩ = some (.string (str q.name)) /\ W.cell? ⟨w.heap.size + 1, 1, none⟩ = some (.slice fA q.funs.length fk) /\ W.cell? ⟨w.heap.size + 1, 2, none⟩ = some (.slice iA q.ins.length ik) /\ W.cell? ⟨w.heap.size + 1, 3, none⟩ = some (.slice oA q.outs.length ok) from λ W hW => by
  have nb : ∀ {g : Nat} {cs : Array Value} {T0 : TypeId}, V.heap[g]? = some (.cells cs T0 (0, 0)) -> g ∉ [f1, v1] := λ h => by
   have h1 := HMF.o.notbox h; have h2 := HMV.o.notbox h; simp [h1, h2]
  have a1 := oN (cP hW (nb BN.o) BN.o); obtain ⟨b0, _, _, _, _, _, b6, b7⟩ := gq (cP hW (nb HBX.o) HBX.o); obtain ⟨_, _, c2, _⟩ := mr (cP hW (nb HSV.o.box) HSV.o.box); obtain ⟨d0, d1, d2, d3, _⟩ := aW (cP hW (nb BM.o) BM.o); exact ⟨a1, b0, b6, b7, c2, d0, d1, d2, d3⟩)
 have HCF := zH (ig HF.o Ga (f := λ f => f == q.name || sp.nodeKeys.contains f) (cap := #[.pointer (some ⟨w.heap.size + 1, 0, none⟩), .pointer (some ⟨w.heap.size, 0, none⟩)]) (λ x _ hx => xl HSV.o HBX.o BN.o BM.o hx)); clear y0 y1 y2 y3 y4 y5 y6 y7; cases ha : sp.nodeKeys.contains q.name
 . have HA := zH ha; rw [ha, Bool.not_false, Bool.true_and] at HOK; clear ha; cases hb1 : aV [] (q.funs ++ q.ins)
   . have HB1 := zH hb1; have HNO := zH (show cN sp q = false by rw [HOK.o, hb1]; rfl); clear hb1; refine wp_region_held_drew (S := (λ W => W.cell? ⟨w.heap.size, 0, none⟩ = some (.pointer (some ⟨S, 0, none⟩)) /\ W.cell? ⟨S, 0, none⟩ = some (.pointer (some ⟨P, 0, none⟩)) /\ W.cell? ⟨S, 6, none⟩ = some (.map (some f1)) /\ W.cell? ⟨S, 7, none⟩ = some (.map (some v1)) /\ W.cell? ⟨P, 2, none⟩ = some (.map (some n1)) /\ W.cell? ⟨w.heap.size + 1, 0, none⟩ = some (.string (str q.name)) /\ W.cell? ⟨w.heap.size + 1, 1, none⟩ = some (.slice fA q.funs.length fk) /\ W.cell? ⟨w.heap.size + 1, 2, none⟩ = some (.slice iA q.ins.length ik) /\ W.cell? ⟨w.heap.size + 1, 3, none⟩ = some (.slice oA q.outs.length ok))) zK ?_ (λ hHeld => ?_)
     . exact KEEP.o _ (aw.of_below (Below.refl _ _).drew)
     refine aa 0 ?_; refine aa 1 ?_; refine aa 2 ?_; refine aa 3 ?_; refine aa 4 ?_; refine aa 5 ?_; refine aa 6 ?_; refine aa 7 ?_; refine aa 8 ?_; refine aq 9 zK rfl (λ K hK => ?_); go_simp
     (go_at_call 93
      (with_reducible refine (eU HMN.o.drew HSHN.o HNL.o).mono ?_); rintro e w7 ⟨he, hb7⟩; rw [HKN.o, HA.o] at he; subst he; obtain ⟨V1, rfl⟩ := zW w7; have B1 := zH ((zB V).drew.trans hb7); clear hb7)
     refine hK.out _ _ (KEEP.o _ (aw.of_below B1.o)) (λ hHeld => ?_); clear hK K; try simp only [Act.put, aO, aM, aN]
     refine aa 10 ?_; refine aa 11 ?_; refine aa 12 ?_; refine aa 13 ?_; refine aa 14 ?_; refine aa 15 ?_; refine aq 16 zK rfl (λ K hK => ?_); go_simp
     refine hK.out _ _ (KEEP.o _ (aw.of_below (B1.o.alloc B1.o.size _))) (λ hHeld => ?_); clear hK K; try simp only [Act.put, aO, aM, aN]
     have B2 := zH (B1.o.alloc B1.o.size (.cells #[.slice fA q.funs.length fk, .slice iA q.ins.length ik] 50)); have BX2 := zH (heap_alloc_new V1 (.cells #[.slice fA q.funs.length fk, .slice iA q.ins.length ik] 50)); generalize V1.alloc (.cells #[.slice fA q.funs.length fk, .slice iA q.ins.length ik] 50) = V2 at *; refine aq 17 zK rfl (λ K hK => ?_); go_simp
     (go_at_call 94
      (with_reducible refine (gF BX2.o (HF.o.under B2.o) (HI.o.under B2.o) HL1.o).mono ?_); rintro e w7 ⟨he, hb7⟩; rw [HB1.o] at he; subst he; obtain ⟨V3, rfl⟩ := zW w7; have B3 := zH (B2.o.trans (hb7.mono B2.o.size)); clear hb7)
     refine hK.out _ _ (KEEP.o _ (aw.of_below B3.o)) (λ hHeld => ?_); clear hK K; try simp only [Act.put, aO, aM, aN]
     refine aa 18 ?_; refine aa 19 ?_; refine ag 20 ?_; refine ag 21 ?_; refine ag 22 ?_; refine ag 23 ?_; refine aa 24 ?_; refine aa 25 ?_; refine ag 26 ?_; refine ag 27 ?_; refine ag 28 ?_; refine ag 29 ?_; refine ag 30 ?_; refine aa 31 ?_; refine aa 32 ?_; refine ag 33 ?_; refine ag 34 ?_; refine ag 35 ?_; refine ag 36 ?_; refine ag 37 ?_; refine ag 38 ?_; refine ag 39 ?_; refine ag 40 ?_; refine aa 41 ?_; refine aa 42 ?_; refine ag 43 ?_; refine ag 44 ?_; refine ag 45 ?_; refine ag 46 ?_; refine ag 47 ?_; refine ag 48 ?_; refine ag 49 ?_; refine aa 50 ?_; refine aa 51 ?_; refine wpAnyH_done zK ?_ _; go_wp2_with fail
     go_ret; exact ph HNO.o ((aw.of_below HV.o).trans (aw.of_below B3.o))
   . have HB1 := zH hb1; rw [hb1, Bool.true_and] at HOK; have HR1 := zH (CX hb1); have HR2 := zH (sd hb1); clear hb1; cases hc1 : aV [] q.outs
     . have HC1 := zH hc1; have HNO := zH (show cN sp q = false by rw [HOK.o, hc1]; rfl); clear hc1; refine wp_region_held_drew (S := (λ W => W.cell? ⟨w.heap.size, 0, none⟩ = some (.pointer (some ⟨S, 0, none⟩)) /\ W.cell? ⟨S, 0, none⟩ = some (.pointer (some ⟨P, 0, none⟩)) /\ W.cell? ⟨S, 6, none⟩ = some (.map (some f1)) /\ W.cell? ⟨S, 7, none⟩ = some (.map (some v1)) /\ W.cell? ⟨P, 2, none⟩ = some (.map (some n1)) /\ W.cell? ⟨w.heap.size + 1, 0, none⟩ = some (.string (str q.name)) /\ W.cell? ⟨w.heap.size + 1, 1, none⟩ = some (.slice fA q.funs.length fk) /\ W.cell? ⟨w.heap.size + 1, 2, none⟩ = some (.slice iA q.ins.length ik) /\ W.cell? ⟨w.heap.size + 1, 3, none⟩ = some (.slice oA q.outs.length ok))) zK ?_ (λ hHeld => ?_)
       . exact KEEP.o _ (aw.of_below (Below.refl _ _).drew)
       refine aa 0 ?_; refine aa 1 ?_; refine aa 2 ?_; refine aa 3 ?_; refine aa 4 ?_; refine aa 5 ?_; refine aa 6 ?_; refine aa 7 ?_; refine aa 8 ?_; refine aq 9 zK rfl (λ K hK => ?_); go_simp
       (go_at_call 93
        (with_reducible refine (eU HMN.o.drew HSHN.o HNL.o).mono ?_); rintro e w7 ⟨he, hb7⟩; rw [HKN.o, HA.o] at he; subst he; obtain ⟨V1, rfl⟩ := zW w7; have B1 := zH ((zB V).drew.trans hb7); clear hb7)
       refine hK.out _ _ (KEEP.o _ (aw.of_below B1.o)) (λ hHeld => ?_); clear hK K; try simp only [Act.put, aO, aM, aN]
       refine aa 10 ?_; refine aa 11 ?_; refine aa 12 ?_; refine aa 13 ?_; refine aa 14 ?_; refine aa 15 ?_; refine aq 16 zK rfl (λ K hK => ?_); go_simp
       refine hK.out _ _ (KEEP.o _ (aw.of_below (B1.o.alloc B1.o.size _))) (λ hHeld => ?_); clear hK K; try simp only [Act.put, aO, aM, aN]
       have B2 := zH (B1.o.alloc B1.o.size (.cells #[.slice fA q.funs.length fk, .slice iA q.ins.length ik] 50)); have BX2 := zH (heap_alloc_new V1 (.cells #[.slice fA q.funs.length fk, .slice iA q.ins.length ik] 50)); generalize V1.alloc (.cells #[.slice fA q.funs.length fk, .slice iA q.ins.length ik] 50) = V2 at *; refine aq 17 zK rfl (λ K hK => ?_); go_simp
       (go_at_call 94
        (with_reducible refine (gF BX2.o (HF.o.under B2.o) (HI.o.under B2.o) HL1.o).mono ?_); rintro e w7 ⟨he, hb7⟩; rw [HB1.o] at he; subst he; obtain ⟨V3, rfl⟩ := zW w7; have B3 := zH (B2.o.trans (hb7.mono B2.o.size)); clear hb7)
       refine hK.out _ _ (KEEP.o _ (aw.of_below B3.o)) (λ hHeld => ?_); clear hK K; try simp only [Act.put, aO, aM, aN]
       refine aa 18 ?_; refine aa 19 ?_; refine aa 20 ?_; refine aa 21 ?_; refine aq 22 zK rfl (λ K hK => ?_); go_simp
       refine hK.out _ _ (KEEP.o _ (aw.of_below (B3.o.alloc B3.o.size _))) (λ hHeld => ?_); clear hK K; try simp only [Act.put, aO, aM, aN]
       have B4 := zH (B3.o.alloc B3.o.size (.cells #[.slice oA q.outs.length ok] 50)); have BX4 := zH (heap_alloc_new V3 (.cells #[.slice oA q.outs.length ok] 50)); generalize V3.alloc (.cells #[.slice oA q.outs.length ok] 50) = V4 at *; refine aq 23 zK rfl (λ K hK => ?_); go_simp
       (go_at_call 94
        (with_reducible refine (jq BX4.o (HO.o.under B4.o) HL2.o).mono ?_); rintro e w7 ⟨he, hb7⟩; rw [HC1.o] at he; subst he; obtain ⟨V5, rfl⟩ := zW w7; have B5 := zH (B4.o.trans (hb7.mono B4.o.size)); clear hb7)
       refine hK.out _ _ (KEEP.o _ (aw.of_below B5.o)) (λ hHeld => ?_); clear hK K; try simp only [Act.put, aO, aM, aN]
       refine aa 24 ?_; refine aa 25 ?_; refine ag 26 ?_; refine ag 27 ?_; refine ag 28 ?_; refine ag 29 ?_; refine ag 30 ?_; refine aa 31 ?_; refine aa 32 ?_; refine ag 33 ?_; refine ag 34 ?_; refine ag 35 ?_; refine ag 36 ?_; refine ag 37 ?_; refine ag 38 ?_; refine ag 39 ?_; refine ag 40 ?_; refine aa 41 ?_; refine aa 42 ?_; refine ag 43 ?_; refine ag 44 ?_; refine ag 45 ?_; refine ag 46 ?_; refine ag 47 ?_; refine ag 48 ?_; refine ag 49 ?_; refine aa 50 ?_; refine aa 51 ?_; refine wpAnyH_done zK ?_ _; go_wp2_with fail
       go_ret; exact ph HNO.o ((aw.of_below HV.o).trans (aw.of_below B5.o))
     . have HC1 := zH hc1; rw [hc1, Bool.true_and] at HOK; clear hc1; cases hd1 : q.funs.any (λ f => f == q.name || sp.nodeKeys.contains f)
       . have HD1 := zH hd1; have HY := zH (show cN sp q = true by rw [HOK.o, hd1]; rfl); clear hd1; refine wp_region_held_drew (S := (λ W => W.cell? ⟨w.heap.size, 0, none⟩ = some (.pointer (some ⟨S, 0, none⟩)) /\ W.cell? ⟨S, 0, none⟩ = some (.pointer (some ⟨P, 0, none⟩)) /\ W.cell? ⟨S, 6, none⟩ = some (.map (some f1)) /\ W.cell? ⟨S, 7, none⟩ = some (.map (some v1)) /\ W.cell? ⟨P, 2, none⟩ = some (.map (some n1)) /\ W.cell? ⟨w.heap.size + 1, 0, none⟩ = some (.string (str q.name)) /\ W.cell? ⟨w.heap.size + 1, 1, none⟩ = some (.slice fA q.funs.length fk) /\ W.cell? ⟨w.heap.size + 1, 2, none⟩ = some (.slice iA q.ins.length ik) /\ W.cell? ⟨w.heap.size + 1, 3, none⟩ = some (.slice oA q.outs.length ok))) zK ?_ (λ hHeld => ?_)
         . exact KEEP.o _ (aw.of_below (Below.refl _ _).drew)
         refine aa 0 ?_; refine aa 1 ?_; refine aa 2 ?_; refine aa 3 ?_; refine aa 4 ?_; refine aa 5 ?_; refine aa 6 ?_; refine aa 7 ?_; refine aa 8 ?_; refine aq 9 zK rfl (λ K hK => ?_); go_simp
         (go_at_call 93
          (with_reducible refine (eU HMN.o.drew HSHN.o HNL.o).mono ?_); rintro e w7 ⟨he, hb7⟩; rw [HKN.o, HA.o] at he; subst he; obtain ⟨V1, rfl⟩ := zW w7; have B1 := zH ((zB V).drew.trans hb7); clear hb7)
         refine hK.out _ _ (KEEP.o _ (aw.of_below B1.o)) (λ hHeld => ?_); clear hK K; try simp only [Act.put, aO, aM, aN]
         refine aa 10 ?_; refine aa 11 ?_; refine aa 12 ?_; refine aa 13 ?_; refine aa 14 ?_; refine aa 15 ?_; refine aq 16 zK rfl (λ K hK => ?_); go_simp
         refine hK.out _ _ (KEEP.o _ (aw.of_below (B1.o.alloc B1.o.size _))) (λ hHeld => ?_); clear hK K; try simp only [Act.put, aO, aM, aN]
         have B2 := zH (B1.o.alloc B1.o.size (.cells #[.slice fA q.funs.length fk, .slice iA q.ins.length ik] 50)); have BX2 := zH (heap_alloc_new V1 (.cells #[.slice fA q.funs.length fk, .slice iA q.ins.length ik] 50)); generalize V1.alloc (.cells #[.slice fA q.funs.length fk, .slice iA q.ins.length ik] 50) = V2 at *; refine aq 17 zK rfl (λ K hK => ?_); go_simp
         (go_at_call 94
          (with_reducible refine (gF BX2.o (HF.o.under B2.o) (HI.o.under B2.o) HL1.o).mono ?_); rintro e w7 ⟨he, hb7⟩; rw [HB1.o] at he; subst he; obtain ⟨V3, rfl⟩ := zW w7; have B3 := zH (B2.o.trans (hb7.mono B2.o.size)); clear hb7)
         refine hK.out _ _ (KEEP.o _ (aw.of_below B3.o)) (λ hHeld => ?_); clear hK K; try simp only [Act.put, aO, aM, aN]
         refine aa 18 ?_; refine aa 19 ?_; refine aa 20 ?_; refine aa 21 ?_; refine aq 22 zK rfl (λ K hK => ?_); go_simp
         refine hK.out _ _ (KEEP.o _ (aw.of_below (B3.o.alloc B3.o.size _))) (λ hHeld => ?_); clear hK K; try simp only [Act.put, aO, aM, aN]
         have B4 := zH (B3.o.alloc B3.o.size (.cells #[.slice oA q.outs.length ok] 50)); have BX4 := zH (heap_alloc_new V3 (.cells #[.slice oA q.outs.length ok] 50)); generalize V3.alloc (.cells #[.slice oA q.outs.length ok] 50) = V4 at *; refine aq 23 zK rfl (λ K hK => ?_); go_simp
         (go_at_call 94
          (with_reducible refine (jq BX4.o (HO.o.under B4.o) HL2.o).mono ?_); rintro e w7 ⟨he, hb7⟩; rw [HC1.o] at he; subst he; obtain ⟨V5, rfl⟩ := zW w7; have B5 := zH (B4.o.trans (hb7.mono B4.o.size)); clear hb7)
         refine hK.out _ _ (KEEP.o _ (aw.of_below B5.o)) (λ hHeld => ?_); clear hK K; try simp only [Act.put, aO, aM, aN]
         refine aa 24 ?_; refine aa 25 ?_; refine aa 26 ?_; refine aa 27 ?_; refine aa 28 ?_; refine aq 29 zK rfl (λ K hK => ?_); go_simp
         (go_at_call 95
          (with_reducible refine (HCF.o _ B5.o).mono ?_); rintro e w7 ⟨he, hb7⟩; rw [HD1.o] at he; subst he; obtain ⟨V6, rfl⟩ := zW w7; have B6 := zH (B5.o.trans (hb7.mono B5.o.size)); clear hb7)
         refine hK.out _ _ (KEEP.o _ (aw.of_below B6.o)) (λ hHeld => ?_); clear hK K; try simp only [Act.put, aO, aM, aN]
         refine aa 30 ?_; refine aa 31 ?_; refine aa 32 ?_; refine aa 33 ?_; refine aa 34 ?_; refine aa 35 ?_; refine aa 36 ?_; refine aa 37 ?_; refine aa 38 ?_; refine aa 39 ?_; refine aq 40 zK rfl (λ K hK => ?_); go_simp
         (go_at_call 48
          (with_reducible refine (cZ (l := []) (HMF.o.under B6.o) CM (HF.o.under B6.o)).mono ?_); rintro e w7 ⟨he, hk, hm⟩; rw [show ay ([] : List (Tx × Value)) = [] from rfl, HR1.o] at he; subst he; obtain ⟨V7, rfl⟩ := zW w7; have K7 := zH ((aw.of_below (M := [f1, v1]) B6.o).trans (hk.mono (by simp))); have HM7 := zH (hm HR1.o); have HV7 := zH ((HMV.o.under B6.o).keptM hk (by simpa using λ e => HFV.o e.symm)); have HI7 := zH ((HI.o.under B6.o).kept (HMF.o.under B6.o) hk); clear hk hm)
         refine hK.out _ _ (KEEP.o _ (K7.o)) (λ hHeld => ?_); clear hK K; try simp only [Act.put, aO, aM, aN]
         refine aa 41 ?_; refine aa 42 ?_; refine aa 43 ?_; refine aa 44 ?_; refine aa 45 ?_; refine aa 46 ?_; refine aa 47 ?_; refine aa 48 ?_; refine aq 49 zK rfl (λ K hK => ?_); go_simp
         (go_at_call 96
          (with_reducible refine (jT (l := []) HV7.o Fd HI7.o).mono ?_); rintro e w7 ⟨he, hk, hm⟩; rw [show ay ([] : List (Tx × Value)) = [] from rfl, HR2.o] at he; subst he; obtain ⟨V8, rfl⟩ := zW w7; have K8 := zH (K7.o.trans (hk.mono (by simp))); have HM8 := zH (hm HR2.o); have HF8 := zH (HM7.o.keptM hk (by simpa using HFV.o)); clear hk hm)
         refine hK.out _ _ (KEEP.o _ (K8.o)) (λ hHeld => ?_); clear hK K; try simp only [Act.put, aO, aM, aN]
         refine aa 50 ?_; refine aa 51 ?_; refine wpAnyH_done zK ?_ _; go_wp2_with fail
         go_ret; exact ⟨ah HY.o.symm, (aw.of_below HV.o).trans K8.o, λ _ => ⟨HF8.o, HM8.o⟩⟩
       . have HD1 := zH hd1; have HNO := zH (show cN sp q = false by rw [HOK.o, hd1]; rfl); clear hd1; refine wp_region_held_drew (S := (λ W => W.cell? ⟨w.heap.size, 0, none⟩ = some (.pointer (some ⟨S, 0, none⟩)) /\ W.cell? ⟨S, 0, none⟩ = some (.pointer (some ⟨P, 0, none⟩)) /\ W.cell? ⟨S, 6, none⟩ = some (.map (some f1)) /\ W.cell? ⟨S, 7, none⟩ = some (.map (some v1)) /\ W.cell? ⟨P, 2, none⟩ = some (.map (some n1)) /\ W.cell? ⟨w.heap.size + 1, 0, none⟩ = some (.string (str q.name)) /\ W.cell? ⟨w.heap.size + 1, 1, none⟩ = some (.slice fA q.funs.length fk) /\ W.cell? ⟨w.heap.size + 1, 2, none⟩ = some (.slice iA q.ins.length ik) /\ W.cell? ⟨w.heap.size + 1, 3, none⟩ = some (.slice oA q.outs.length ok))) zK ?_ (λ hHeld => ?_)
         . exact KEEP.o _ (aw.of_below (Below.refl _ _).drew)
         refine aa 0 ?_; refine aa 1 ?_; refine aa 2 ?_; refine aa 3 ?_; refine aa 4 ?_; refine aa 5 ?_; refine aa 6 ?_; refine aa 7 ?_; refine aa 8 ?_; refine aq 9 zK rfl (λ K hK => ?_); go_simp
         (go_at_call 93
          (with_reducible refine (eU HMN.o.drew HSHN.o HNL.o).mono ?_); rintro e w7 ⟨he, hb7⟩; rw [HKN.o, HA.o] at he; subst he; obtain ⟨V1, rfl⟩ := zW w7; have B1 := zH ((zB V).drew.trans hb7); clear hb7)
         refine hK.out _ _ (KEEP.o _ (aw.of_below B1.o)) (λ hHeld => ?_); clear hK K; try simp only [Act.put, aO, aM, aN]
         refine aa 10 ?_; refine aa 11 ?_; refine aa 12 ?_; refine aa 13 ?_; refine aa 14 ?_; refine aa 15 ?_; refine aq 16 zK rfl (λ K hK => ?_); go_simp
         refine hK.out _ _ (KEEP.o _ (aw.of_below (B1.o.alloc B1.o.size _))) (λ hHeld => ?_); clear hK K; try simp only [Act.put, aO, aM, aN]
         have B2 := zH (B1.o.alloc B1.o.size (.cells #[.slice fA q.funs.length fk, .slice iA q.ins.length ik] 50)); have BX2 := zH (heap_alloc_new V1 (.cells #[.slice fA q.funs.length fk, .slice iA q.ins.length ik] 50)); generalize V1.alloc (.cells #[.slice fA q.funs.length fk, .slice iA q.ins.length ik] 50) = V2 at *; refine aq 17 zK rfl (λ K hK => ?_); go_simp
         (go_at_call 94
          (with_reducible refine (gF BX2.o (HF.o.under B2.o) (HI.o.under B2.o) HL1.o).mono ?_); rintro e w7 ⟨he, hb7⟩; rw [HB1.o] at he; subst he; obtain ⟨V3, rfl⟩ := zW w7; have B3 := zH (B2.o.trans (hb7.mono B2.o.size)); clear hb7)
         refine hK.out _ _ (KEEP.o _ (aw.of_below B3.o)) (λ hHeld => ?_); clear hK K; try simp only [Act.put, aO, aM, aN]
         refine aa 18 ?_; refine aa 19 ?_; refine aa 20 ?_; refine aa 21 ?_; refine aq 22 zK rfl (λ K hK => ?_); go_simp
         refine hK.out _ _ (KEEP.o _ (aw.of_below (B3.o.alloc B3.o.size _))) (λ hHeld => ?_); clear hK K; try simp only [Act.put, aO, aM, aN]
         have B4 := zH (B3.o.alloc B3.o.size (.cells #[.slice oA q.outs.length ok] 50)); have BX4 := zH (heap_alloc_new V3 (.cells #[.slice oA q.outs.length ok] 50)); generalize V3.alloc (.cells #[.slice oA q.outs.length ok] 50) = V4 at *; refine aq 23 zK rfl (λ K hK => ?_); go_simp
         (go_at_call 94
          (with_reducible refine (jq BX4.o (HO.o.under B4.o) HL2.o).mono ?_); rintro e w7 ⟨he, hb7⟩; rw [HC1.o] at he; subst he; obtain ⟨V5, rfl⟩ := zW w7; have B5 := zH (B4.o.trans (hb7.mono B4.o.size)); clear hb7)
         refine hK.out _ _ (KEEP.o _ (aw.of_below B5.o)) (λ hHeld => ?_); clear hK K; try simp only [Act.put, aO, aM, aN]
         refine aa 24 ?_; refine aa 25 ?_; refine aa 26 ?_; refine aa 27 ?_; refine aa 28 ?_; refine aq 29 zK rfl (λ K hK => ?_); go_simp
         (go_at_call 95
          (with_reducible refine (HCF.o _ B5.o).mono ?_); rintro e w7 ⟨he, hb7⟩; rw [HD1.o] at he; subst he; obtain ⟨V6, rfl⟩ := zW w7; have B6 := zH (B5.o.trans (hb7.mono B5.o.size)); clear hb7)
         refine hK.out _ _ (KEEP.o _ (aw.of_below B6.o)) (λ hHeld => ?_); clear hK K; try simp only [Act.put, aO, aM, aN]
         refine aa 30 ?_; refine aa 31 ?_; refine aa 32 ?_; refine ag 33 ?_; refine ag 34 ?_; refine ag 35 ?_; refine ag 36 ?_; refine ag 37 ?_; refine ag 38 ?_; refine ag 39 ?_; refine ag 40 ?_; refine aa 41 ?_; refine aa 42 ?_; refine ag 43 ?_; refine ag 44 ?_; refine ag 45 ?_; refine ag 46 ?_; refine ag 47 ?_; refine ag 48 ?_; refine ag 49 ?_; refine aa 50 ?_; refine aa 51 ?_; refine wpAnyH_done zK ?_ _; go_wp2_with fail
         go_ret; exact ph HNO.o ((aw.of_below HV.o).trans (aw.of_below B6.o))
 . have HA := zH ha; have HNO := zH (show cN sp q = false by rw [HOK.o, ha]; rfl); clear ha; refine wp_region_held_drew (S := (λ W => W.cell? ⟨w.heap.size, 0, none⟩ = some (.pointer (some ⟨S, 0, none⟩)) /\ W.cell? ⟨S, 0, none⟩ = some (.pointer (some ⟨P, 0, none⟩)) /\ W.cell? ⟨S, 6, none⟩ = some (.map (some f1)) /\ W.cell? ⟨S, 7, none⟩ = some (.map (some v1)) /\ W.cell? ⟨P, 2, none⟩ = some (.map (some n1)) /\ W.cell? ⟨w.heap.size + 1, 0, none⟩ = some (.string (str q.name)) /\ W.cell? ⟨w.heap.size + 1, 1, none⟩ = some (.slice fA q.funs.length fk) /\ W.cell? ⟨w.heap.size + 1, 2, none⟩ = some (.slice iA q.ins.length ik) /\ W.cell? ⟨w.heap.size + 1, 3, none⟩ = some (.slice oA q.outs.length ok))) zK ?_ (λ hHeld => ?_)
   . exact KEEP.o _ (aw.of_below (Below.refl _ _).drew)
   refine aa 0 ?_; refine aa 1 ?_; refine aa 2 ?_; refine aa 3 ?_; refine aa 4 ?_; refine aa 5 ?_; refine aa 6 ?_; refine aa 7 ?_; refine aa 8 ?_; refine aq 9 zK rfl (λ K hK => ?_); go_simp
   (go_at_call 93
    (with_reducible refine (eU HMN.o.drew HSHN.o HNL.o).mono ?_); rintro e w7 ⟨he, hb7⟩; rw [HKN.o, HA.o] at he; subst he; obtain ⟨V1, rfl⟩ := zW w7; have B1 := zH ((zB V).drew.trans hb7); clear hb7)
   refine hK.out _ _ (KEEP.o _ (aw.of_below B1.o)) (λ hHeld => ?_); clear hK K; try simp only [Act.put, aO, aM, aN]
   refine aa 10 ?_; refine aa 11 ?_; refine ag 12 ?_; refine ag 13 ?_; refine ag 14 ?_; refine ag 15 ?_; refine ag 16 ?_; refine ag 17 ?_; refine aa 18 ?_; refine aa 19 ?_; refine ag 20 ?_; refine ag 21 ?_; refine ag 22 ?_; refine ag 23 ?_; refine aa 24 ?_; refine aa 25 ?_; refine ag 26 ?_; refine ag 27 ?_; refine ag 28 ?_; refine ag 29 ?_; refine ag 30 ?_; refine aa 31 ?_; refine aa 32 ?_; refine ag 33 ?_; refine ag 34 ?_; refine ag 35 ?_; refine ag 36 ?_; refine ag 37 ?_; refine ag 38 ?_; refine ag 39 ?_; refine ag 40 ?_; refine aa 41 ?_; refine aa 42 ?_; refine ag 43 ?_; refine ag 44 ?_; refine ag 45 ?_; refine ag 46 ?_; refine ag 47 ?_; refine ag 48 ?_; refine ag 49 ?_; refine aa 50 ?_; refine aa 51 ?_; refine wpAnyH_done zK ?_ _; go_wp2_with fail
   go_ret; exact ph HNO.o ((aw.of_below HV.o).trans (aw.of_below B1.o))
end
def Al (made : Bool) (n : aA) : Prop := (n.funs ++ n.ins).length <= 2097152 /\ n.outs.length <= 2097152 /\ ∀ i ∈ n.items, cJ made i = true /\ (aH i).length <= 2097152 /\ i.states.length <= 2097152
theorem rX {s : aK} {n : aA} (h : cN s n = false) : bu s n = .inr (-1) := by simp [bu, h]
theorem pI {s : aK} {n : aA} (h : cN s n = true) {b : Int} (hi : ef 0 s n.ins n.items = .inr b) : bu s n = .inr b := by simp [bu, h, hi]
theorem rW {s s' : aK} {n : aA} {vars : List Tx} (h : cN s n = true) (hi : ef 0 s n.ins n.items = .inl (s', vars)) (ho : (n.outs.all (n.items.flatMap aH).contains) = false) : bu s n = .inr (-1) := by
 have ho' : ¬ (n.outs.all λ o => (n.items.flatMap aH).contains o) = true := (by rw [Bool.not_eq_true]; exact ho); rw [bu, if_pos h, hi]; simp only; rw [if_neg ho']
theorem rU {s s' : aK} {n : aA} {vars : List Tx} (h : cN s n = true) (hi : ef 0 s n.ins n.items = .inl (s', vars)) (ho : (n.outs.all (n.items.flatMap aH).contains) = true) {b : Int} (hu : gN ⟨s', n.funs, vars⟩ 0 n.items = some b) : bu s n = .inr b := by
 have ho' : (n.outs.all λ o => (n.items.flatMap aH).contains o) = true := ho; rw [bu, if_pos h, hi]; simp only; rw [if_pos ho', hu]
theorem zg {s s' : aK} {n : aA} {vars : List Tx} (h : cN s n = true) (hi : ef 0 s n.ins n.items = .inl (s', vars)) (ho : (n.outs.all (n.items.flatMap aH).contains) = true) (hu : gN ⟨s', n.funs, vars⟩ 0 n.items = none) : bu s n = .inl { s' with nodes := s'.nodes ++ [(n.name, n)] } := by
 have ho' : (n.outs.all λ o => (n.items.flatMap aH).contains o) = true := ho; rw [bu, if_pos h, hi]; simp only; rw [if_pos ho', hu]
theorem gd (b : Int) (s : aK) (vars : List Tx) (i : bf) (r : List bf) : ef b s vars (i :: r) = if de s vars i = true then ef (b + 1) (s.addItem i) (vars ++ aH i) r else .inr b := rfl
theorem lI (s : dM) (b : Int) (i : bf) (r : List bf) : gN s b (i :: r) = if dY s i = true then gN s (b + 1) r else some b := rfl
theorem qk (n : Int) (l : List Tx) : ay (bd (.int .i64 n) l) = l := dC _ _
theorem CN (n : Int) (l : List Tx) : ∀ p ∈ bd (.int .i64 n) l, ShI p.2 := by
 intro p hp; obtain ⟨_, _, rfl⟩ := List.mem_map.1 hp; exact ⟨n, rfl⟩
theorem Hh {l m : List (Tx × Value)} (h1 : ∀ p ∈ l, ShI p.2) (h2 : ∀ p ∈ m, ShI p.2) : ∀ p ∈ l ++ m, ShI p.2 := by
 intro p hp; rcases List.mem_append.1 hp with hp | hp
 . exact h1 p hp
 . exact h2 p hp
theorem ui.ins (l : List Tx) : ui (bd (.int .i64 (-1)) l) [] := by
 refine ⟨λ p hp => ?_, λ o ho => absurd ho (List.not_mem_nil)⟩; obtain ⟨_, _, rfl⟩ := List.mem_map.1 hp; exact ⟨-1, rfl, by simp⟩
theorem ui.snoc {l : List (Tx × Value)} {D names : List Tx} (h : ui l D) {b : Int} (hb : 0 <= b) (hn : ((ay l) ++ names).Nodup) : ui (l ++ bd (.int .i64 b) names) (D ++ names) := by
 refine ⟨λ p hp => ?_, λ o ho => ?_⟩
 . rcases List.mem_append.1 hp with hp | hp
   . obtain ⟨n, h1, h2⟩ := h.1 p hp; refine ⟨n, h1, h2.trans ?_⟩; rw [List.mem_append, not_or]; refine ⟨λ h => ⟨h, λ hm => ?_⟩, λ h => h.1⟩; exact (List.nodup_append.1 hn).2.2 p.1 (List.mem_map_of_mem hp) p.1 hm rfl
   . obtain ⟨s, hs, rfl⟩ := List.mem_map.1 hp; refine ⟨b, rfl, ?_⟩; constructor
     . intro e; omega
     . intro e; exact absurd (List.mem_append_right _ hs) e
 . rw [List.map_append, List.mem_append]; rcases List.mem_append.1 ho with ho | ho
   . exact .inl (h.2 o ho)
   . exact .inr (by rw [show (bd (.int .i64 b) names).map Prod.fst = names from dC _ _]; exact ho)
theorem ax.nodup {w : World} {b : Nat} {l : List (Tx × Value)} (h : ax w b l) : (ay l).Nodup := by
 obtain ⟨_, _, _, _, h, _⟩ := h; exact h
theorem aw.cut {M M' : List Nat} {w V w' : World} (hk : aw M V w') (hb : Below w.heap.size w V) (hM : ∀ x ∈ M, x ∈ M' ∨ w.heap.size <= x) : aw M' w w' := by
 refine ⟨hk.os.trans hb.os, hk.tape.trans hb.tape, hk.output.trans hb.output, Nat.le_trans hb.size hk.size, λ k hlt hm => ?_⟩; have h2 : k ∉ M := λ h => by
  rcases hM k h with h | h
  . exact hm h
  . omega
 exact (hk.block k (Nat.lt_of_lt_of_le hlt hb.size) h2).trans (hb.block k hlt)
def rh (P e1 c1 n1 t1 : Nat) (s : aK) (n : aA) (w : World) (e : Ending) (w' : World) : Prop :=
 (match bu s n with
  | .inr b => e = .returned (.tuple #[.int .i64 b, .bool false])
  | .inl s' => e = .returned (.tuple #[.int .i64 0, .bool true]) /\ aR w' P e1 c1 n1 t1 s') /\ aw [n1, t1] w w'
theorem pd {P e1 c1 n1 t1 : Nat} {s : aK} {n : aA} {w w' : World} {b : Int} (h : bu s n = .inr b) (hk : aw [n1, t1] w w') : rh P e1 c1 n1 t1 s n w (.returned (.tuple #[.int .i64 b, .bool false])) w' :=
 ⟨by rw [h], hk⟩
theorem Dl {P e1 c1 n1 t1 : Nat} {s s' : aK} {n : aA} {w w' : World} (h : bu s n = .inl s') (hs : aR w' P e1 c1 n1 t1 s') (hk : aw [n1, t1] w w') : rh P e1 c1 n1 t1 s n w (.returned (.tuple #[.int .i64 0, .bool true])) w' :=
 ⟨by rw [h]; exact ⟨rfl, hs⟩, hk⟩
def jx (w : World) (M : List Nat) : Prop := ∀ b ∈ M, ∃ l, ax w b l
theorem jx.two {w : World} {a b : Nat} {l m : List (Tx × Value)} (h1 : ax w a l) (h2 : ax w b m) : jx w [a, b] := by
 intro x hx; simp only [List.mem_cons, List.not_mem_nil, or_false] at hx; rcases hx with rfl | rfl
 . exact ⟨_, h1⟩
 . exact ⟨_, h2⟩
theorem jx.box {w w' : World} {M : List Nat} (hM : jx w M) (hk : aw M w w') {g : Nat} {cs : Array Value} {T0 : TypeId} (h : w.heap[g]? = some (.cells cs T0 (0, 0))) : w'.heap[g]? = some (.cells cs T0 (0, 0)) :=
 cP hk (λ hg => by obtain ⟨l, hl⟩ := hM g hg; exact hl.notbox h rfl) h
theorem jx.strs {w w' : World} {M : List Nat} (hM : jx w M) (hk : aw M w w') {v : Value} {names : List Tx} (ha : aF w v names) : aF w' v names := by
 obtain ⟨A, c, rfl, h1, h2, h3⟩ := ha; refine ⟨A, c, rfl, h1, h2, λ i x hx => ?_⟩; obtain ⟨L, ⟨a, ea, hc⟩, hR⟩ := h3 i x hx; refine ⟨L, ⟨a, ea, λ j u hu => ?_⟩, hR⟩; have h0 := hc j u hu; rw [hk.cell (World.block_lt_of_cell? w _ h0) (λ hg => by obtain ⟨l, hl⟩ := hM _ hg; exact hl.notcell h0 rfl)]; exact h0
theorem aR.others {w w' : World} {P e c n t : Nat} {s : aK} {M : List Nat} (h : aR w P e c n t s) (hM : jx w M) (hk : aw M w w') (hf : e ∉ M /\ c ∉ M /\ n ∉ M /\ t ∉ M) : aR w' P e c n t s := by
 obtain ⟨h1, h2, h3, h4⟩ := hf; obtain ⟨lc, hc, hr⟩ := h.mc; obtain ⟨ln, hn, hq⟩ := h.mn; exact ⟨hM.box hk h.box, h.me.keptM hk h1, ⟨lc, hc.keptM hk h2, hr.1, λ i a b ha hb => by obtain ⟨s, A, m, j, e, hs⟩ := hr.2 i a b ha hb; exact ⟨s, A, m, j, e, hM.strs hk hs⟩⟩, ⟨ln, hn.keptM hk h3, hq⟩, h.mt.keptM hk h4, h.nd⟩
theorem iP.snoc {l : List (Tx × Value)} {ns : List (Tx × aA)} (h : iP l ns) {s : Tx} {v : Value} {q : aA} (hv : EM v q) : iP (l ++ bd v [s]) (ns ++ [(s, q)]) := by
 have hlen : l.length = ns.length := (by have := congrArg List.length h.1; simpa [ay] using this); refine ⟨by rw [ed, h.1, List.map_append]; rfl, λ i a b ha hb => ?_⟩; by_cases hi : i < l.length
 . rw [List.getElem?_append_left hi] at ha; rw [List.getElem?_append_left zO] at hb; exact h.2 i a b ha hb
 . rw [List.getElem?_append_right zO] at ha; rw [List.getElem?_append_right zO] at hb; have h1 := List.mem_of_getElem? ha; have h2 := List.mem_of_getElem? hb; obtain ⟨x, _, rfl⟩ := List.mem_map.1 h1; rw [List.mem_singleton] at h2; subst h2; exact hv
def fE (sp : aK) (n : aA) (k : Nat) (s : aK) (lv : List (Tx × Value)) : Prop :=
 ef 0 sp n.ins n.items = ef k s (ay lv) (n.items.drop k) /\ s.nodes = sp.nodes /\ (∀ p ∈ lv, ShI p.2) /\ ui lv ((n.items.take k).flatMap aH)
theorem fE.zero (sp : aK) (n : aA) : fE sp n 0 sp (bd (.int .i64 (-1)) n.ins) := ⟨by rw [qk]; rfl, rfl, CN _ _, by simpa using ui.ins n.ins⟩
theorem fE.succ {sp s : aK} {n : aA} {k : Nat} {lv : List (Tx × Value)} (h : fE sp n k s lv) {i : bf} (hi : n.items[k]? = some i) (hok : de s (ay lv) i = true) (hnd : (ay (lv ++ bd (.int .i64 k) (aH i))).Nodup) :
  fE sp n (k + 1) (s.addItem i) (lv ++ bd (.int .i64 k) (aH i)) := by
 obtain ⟨h1, h2, h3, h4⟩ := h; rw [ed, qk] at hnd; refine ⟨?_, h2, Hh h3 (CN _ _), ?_⟩
 . rw [h1, bw hi, gd, if_pos hok, ed, qk]; rfl
 . rw [cI hi, List.flatMap_append]; have := h4.snoc (b := k) zO hnd; simpa using this
theorem fE.no {sp s : aK} {n : aA} {k : Nat} {lv : List (Tx × Value)} (h : fE sp n k s lv) {i : bf} (hi : n.items[k]? = some i) (hok : de s (ay lv) i = false) : ef 0 sp n.ins n.items = .inr k := by
 rw [h.1, bw hi, gd, if_neg (by rw [hok]; simp)]
theorem fE.done {sp s : aK} {n : aA} {k : Nat} {lv : List (Tx × Value)} (h : fE sp n k s lv) (hk : k = n.items.length) : ef 0 sp n.ins n.items = .inl (s, ay lv) /\ ui lv (n.items.flatMap aH) := by
 subst hk; obtain ⟨h1, _, _, h4⟩ := h; rw [List.take_length] at h4; exact ⟨by rw [h1, List.drop_length]; rfl, h4⟩
section
variable {P e1 c1 n1 t1 : Nat} {sp : aK}
theorem wH {made : Bool} {w0 : World} {L : List Value} {n : aA} (hL : bS w0 L n) (hfit : Al made n) {w : World} (hb : Below w0.heap.size w0 w) (hS : aR w P e1 c1 n1 t1 sp) (hn1 : w0.heap.size <= n1) (ht1 : w0.heap.size <= t1) :
  Calls prog 24 #[.pointer (some ⟨P, 0, none⟩), .agg L.toArray] w (rh P e1 c1 n1 t1 sp n w) := by
 have hmm := @run_makeMap prog; obtain ⟨hf1, hf2, hf3⟩ := hfit; have HF1 := zH hf1; have HF2 := zH hf2; have HF3 := zH hf3; have HB := zH hb; have HS := zH hS; have hsz := hb.size; obtain ⟨fv, iv, ov, xv, rfl, hnl, hfu, hin, hou, hit⟩ := hL; have HNL := zH hnl; have HFU := zH hfu; have HIN := zH hin; have HOU := zH hou; obtain ⟨fA, fk, rfl, q1, q2, q3⟩ := hfu; obtain ⟨iA, ik, rfl, q4, q5, q6⟩ := hin; obtain ⟨oA, ok, rfl, q7, q8, q9⟩ := hou; obtain ⟨xA, xk, rfl, hxc, hxm, hxe⟩ := hit; have HXE := zH hxe; have hxl : n.items.length <= 9223372036854775807 := (by have h : n.items.length <= xk := hxc; unfold maxLen at hxm; omega); clear hf1 hf2 hf3 hb hS hnl hxc hxm hxe q1 q2 q3 q4 q5 q6 q7 q8 q9; go_enter func24, ntmps24
 go_wp2_with fail
 clear hmm; generalize hV : (((w.alloc (.cells #[.string (str n.name), .slice fA n.funs.length fk, .slice iA n.ins.length ik, .slice oA n.outs.length ok, .slice xA n.items.length xk] 53)).alloc (.map #[] 0)).alloc (.map #[] 0)).alloc (.cells #[.pointer (some ⟨P, 0, none⟩), .string (str n.name), .slice fA n.funs.length fk, .slice iA n.ins.length ik, .slice oA n.outs.length ok, .slice xA n.items.length xk, .map (some (w.heap.size + 1)), .map (some (w.heap.size + 1 + 1))] 139) = V; have al : ∀ (W : World) (o : Obj), Below W.heap.size W (W.alloc o) := λ W o => (Below.refl _ W).alloc (Nat.le_refl _) _; have a1 := al w (.cells #[.string (str n.name), .slice fA n.funs.length fk, .slice iA n.ins.length ik, .slice oA n.outs.length ok, .slice xA n.items.length xk] 53); have m2 := ax.made (w.alloc (.cells #[.string (str n.name), .slice fA n.funs.length fk, .slice iA n.ins.length ik, .slice oA n.outs.length ok, .slice xA n.items.length xk] 53)); have m3 := ax.made ((w.alloc (.cells #[.string (str n.name), .slice fA n.funs.length fk, .slice iA n.ins.length ik, .slice oA n.outs.length ok, .slice xA n.items.length xk] 53)).alloc (.map #[] 0)); have m4 := heap_alloc_new (((w.alloc (.cells #[.string (str n.name), .slice fA n.funs.length fk, .slice iA n.ins.length ik, .slice oA n.outs.length ok, .slice xA n.items.length xk] 53)).alloc (.map #[] 0)).alloc (.map #[] 0)) (.cells #[.pointer (some ⟨P, 0, none⟩), .string (str n.name), .slice fA n.funs.length fk, .slice iA n.ins.length ik, .slice oA n.outs.length ok, .slice xA n.items.length xk, .map (some (w.heap.size + 1)), .map (some (w.heap.size + 1 + 1))] 139); have m1 := heap_alloc_new w (.cells #[.string (str n.name), .slice fA n.funs.length fk, .slice iA n.ins.length ik, .slice oA n.outs.length ok, .slice xA n.items.length xk] 53); simp only [World.size_alloc] at m2 m3 m4; have HV := zH (show Below w.heap.size w V by rw [<- hV]; exact ((a1.alloc (by simp) _).alloc (by simp <;> omega) _).alloc (by simp <;> omega) _)
 have H1 := zH (show ax V (w.heap.size + 1) [] by rw [<- hV]; exact (m2.under (al _ _)).under (al _ _)); have H2 := zH (show ax V (w.heap.size + 1 + 1) [] by rw [<- hV]; exact m3.under (al _ _)); have BS := zH (show V.heap[w.heap.size + 1 + 1 + 1]? = some (.cells #[.pointer (some ⟨P, 0, none⟩), .string (str n.name), .slice fA n.funs.length fk, .slice iA n.ins.length ik, .slice oA n.outs.length ok, .slice xA n.items.length xk, .map (some (w.heap.size + 1)), .map (some (w.heap.size + 1 + 1))] 139 (0, 0)) by rw [<- hV]; exact m4); have BN := zH (show V.heap[w.heap.size]? = some (.cells #[.string (str n.name), .slice fA n.funs.length fk, .slice iA n.ins.length ik, .slice oA n.outs.length ok, .slice xA n.items.length xk] 53 (0, 0)) by rw [<- hV]; exact az (az (az m1))); clear hV m1 m2 m3 m4 a1 al; have HSV := zH (HS.o.under HV.o); have hle1 := HS.o.me.lt; have hlc1 : c1 < w.heap.size := (by obtain ⟨_, h, _⟩ := HS.o.mc; exact h.lt); have hln1 : n1 < w.heap.size := (by obtain ⟨_, h, _⟩ := HS.o.mn; exact h.lt); have hlt1 := HS.o.mt.lt; generalize hS0 : w.heap.size + 1 + 1 + 1 = S at *; generalize hv0 : w.heap.size + 1 + 1 = v1 at *; generalize hf0 : w.heap.size + 1 = f1 at *; have hlf : w.heap.size <= f1 := zO; have hlv : w.heap.size <= v1 := zO; have hfv : f1 ≠ v1 := zO; have HFV := zH hfv; have HX1 := zH hS0; have HX2 := zH hv0; have HX3 := zH hf0; have HCUT1 := zH (show ∀ x ∈ [f1, v1], x ∈ [n1, t1] ∨ w.heap.size <= x by intro x hx; simp only [List.mem_cons, List.not_mem_nil, or_false] at hx; rcases hx with rfl | rfl <;> (right; omega))
 have HCUT2 := zH (show ∀ x ∈ [f1, v1, t1, n1], x ∈ [n1, t1] ∨ w.heap.size <= x by
  intro x hx; simp only [List.mem_cons, List.not_mem_nil, or_false] at hx ⊢; rcases hx with rfl | rfl | rfl | rfl
  . right; omega
  . right; omega
  . left; right; rfl
  . left; left; rfl)
 have HNV := zH (show v1 ≠ e1 /\ v1 ≠ c1 /\ v1 ≠ n1 /\ v1 ≠ t1 by omega); have HNF := zH (show f1 ≠ e1 /\ f1 ≠ c1 /\ f1 ≠ n1 /\ f1 ≠ t1 by omega); have HOLD := zH (show e1 ∉ [f1, v1] /\ c1 ∉ [f1, v1] /\ n1 ∉ [f1, v1] /\ t1 ∉ [f1, v1] by simp; omega); have HBV := zH (HB.o.trans (HV.o.mono hsz)); have hv1w : w0.heap.size <= v1 := zO; have hf1w : w0.heap.size <= f1 := zO; clear hS0 hv0 hf0 hfv; cases hhd : cN sp n
 . have HHD := zH hhd; clear hhd
   go_wp2_with (go_at_call 49
                (with_reducible refine (oJ HSV.o BS.o (HFU.o.under HBV.o) (HIN.o.under HBV.o) (HOU.o.under HBV.o) HNL.o H1.o H2.o HFV.o HF1.o HF2.o).mono ?_); rintro e w7 ⟨he, hk, _⟩; rw [HHD.o] at he; subst he; have HK7 := zH (hk.cut HV.o HCUT1.o); clear hk)
   go_ret2
   exact pd (rX HHD.o) HK7.o
 . have HHD := zH hhd; clear hhd
   go_wp2_with (go_at_call 49
                (with_reducible refine (oJ HSV.o BS.o (HFU.o.under HBV.o) (HIN.o.under HBV.o) (HOU.o.under HBV.o) HNL.o H1.o H2.o HFV.o HF1.o HF2.o).mono ?_); rintro e w7 ⟨he, hk, hm⟩; rw [HHD.o] at he; subst he; obtain ⟨V1, rfl⟩ := zW w7; have MI := jx.two H1.o H2.o; have HK1 := zH hk; have HMF1 := zH (hm HHD.o).1; have HMV1 := zH (hm HHD.o).2; have HS1 := zH (HSV.o.others MI hk HOLD.o); have BS1 := zH (MI.box hk BS.o); have BN1 := zH (MI.box hk BN.o); have HB1 := zH (HBV.o.trans (hk.below (B := w0.heap.size) (by intro x hx; simp only [List.mem_cons, List.not_mem_nil, or_false] at hx; rcases hx with rfl | rfl <;> omega) HBV.o.size))
                obtain ⟨nb0, nb1, nb2, nb3, nb4⟩ := aW BN1.o; clear hk hm MI)
   have MI1 := zH (jx.two HS1.o.mt HMV1.o); clear nb0 nb1 nb2 nb3; go_loopg [23] n.items.length (λ g v wr => ∃ (k : Nat) (s : aK) (lv : List (Tx × Value)), k + g = n.items.length /\ v = .int .i64 k /\ fE sp n k s lv /\ aR wr P e1 c1 n1 t1 s /\ ax wr v1 lv /\ aw [t1, v1] V1 wr)
   case atStart => exact ⟨0, sp, _, by omega, rfl, fE.zero sp n, HS1.o, HMV1.o, aw.refl _ _⟩
   case round =>
    obtain ⟨wq, rfl⟩ := zW wr; obtain ⟨k, s, lv, hkg, rfl, hto, hsq, hmq, hkq⟩ := hrel; have HK := zH hkg; have HTO := zH hto; have HSQ := zH hsq; have HMQ := zH hmq; have HKQ := zH hkq; have BSQ := zH (MI1.o.box hkq BS1.o); have BNQ := zH (MI1.o.box hkq BN1.o); have HBQ := zH (HB1.o.trans (hkq.below (B := w0.heap.size) (by intro x hx; simp only [List.mem_cons, List.not_mem_nil, or_false] at hx; rcases hx with rfl | rfl <;> omega) HB1.o.size))
    have hkl : k <= n.items.length := zO; clear hkg hto hsq hmq hkq nb4; by_cases hlt : k < n.items.length
    . obtain ⟨i, hi⟩ := zG hlt; have HI := zH hi; obtain ⟨_, hi2, hi3⟩ := HF3.o i (List.mem_of_getElem? hi); obtain ⟨Li, hEI, hIi⟩ := HXE.o k i hi; have HIT := zH hIi; obtain ⟨A0, n0, k0, o1, s2, o3, A4, n4, k4, A5, n5, k5, A6, n6, k6, rfl⟩ := hIi.shape; obtain ⟨a, ea, ha, haa, d0, d1, d2, d3, d4, d5, d6⟩ := ox (hEI.under HBQ.o); subst ea; have hal := zH (zA wq (.cells #[.slice A0 n0 k0, .int .i64 o1, .string s2, .int .i64 o3, .slice A4 n4 k4, .slice A5 n5 k5, .slice A6 n6 k6] 86)); have HBZ := zH (HBQ.o.trans (hal.o.mono HBQ.o.size)); have HI2 := zH hi2; have HI3 := zH hi3; have BSZ := zH (ao hal.o BSQ.o); have HSZ := zH (HSQ.o.under hal.o); have HMZ := zH (HMQ.o.under hal.o); have HADD := zH (wI HIT.o HI2.o HI3.o HBZ.o HSZ.o ht1 hv1w HNV.o BSZ.o HMZ.o HTO.o.2.2.1 (k : Int)); clear hi hEI hIi hi2 hi3; cases hok : de s (ay lv) i
      . have HOK := zH hok; clear hok
        go_wp2_with (go_at_call 50
                     (with_reducible refine HADD.o.mono ?_); rintro e w9 ⟨he, hk9, _⟩; rw [HOK.o] at he; subst he; have HK9 := zH (((HKQ.o.mono (M' := [f1, v1, t1, n1]) (by simp)).trans (aw.of_below hal.o)).trans (hk9.mono (by simp))); clear hk9)
        go_ret2
        exact pd (pI HHD.o (HTO.o.no HI.o HOK.o)) (((HK1.o.mono (by simp)).trans HK9.o).cut HV.o HCUT2.o)
      . have HOK := zH hok; clear hok
        go_wp2_with (go_at_call 50
                     (with_reducible refine HADD.o.mono ?_); rintro e w9 ⟨he, hk9, hs9⟩; rw [HOK.o] at he; subst he; have HK9 := zH ((HKQ.o.trans (aw.of_below hal.o)).trans hk9); have HS9 := zH (hs9 HOK.o); clear hk9 hs9)
        go_roundg (n.items.length - (k + 1))
        case measure => have := HK.o; omega
        case rel => exact ⟨k + 1, _, _, by omega, by go_num, HTO.o.succ HI.o HOK.o HS9.o.2.nodup, HS9.o.1, HS9.o.2, HK9.o⟩
    . have hke : k = n.items.length := by omega
      obtain ⟨hit1, hval⟩ := HTO.o.done hke; have HIT1 := zH hit1; have HVAL := zH hval; have HND := zH HTO.o.2.1; have HMFQ := zH (HMF1.o.keptM HKQ.o (by simp only [List.mem_cons, List.not_mem_nil, or_false, not_or]; exact ⟨HNF.o.2.2.2, HFV.o⟩)); have HSHQ := zH HTO.o.2.2.1; clear hke hit1 hval; have HOUQ := zH (HOU.o.under HBQ.o); have HKV := zH ((HK1.o.mono (M' := [f1, v1, t1, n1]) (by simp)).trans (HKQ.o.mono (by simp))); cases hou : n.outs.all (n.items.flatMap aH).contains
      . have HO := zH hou; clear hou
        go_wp2_with (go_at_call 51
                     (with_reducible refine (jF BSQ.o HMQ.o HVAL.o HOUQ.o).mono ?_); rintro e w9 ⟨he, hb9⟩; rw [HO.o] at he; subst he; have HK9 := zH (HKV.o.trans (aw.of_below hb9)); clear hb9)
        go_ret2
        exact pd (rW HHD.o HIT1.o HO.o) (HK9.o.cut HV.o HCUT2.o)
      . have HO := zH hou; clear hou
        go_wp2_with (go_at_call 51
                     (with_reducible refine (jF BSQ.o HMQ.o HVAL.o HOUQ.o).mono ?_); rintro e w9 ⟨he, hb9⟩; rw [HO.o] at he; subst he; obtain ⟨V2, rfl⟩ := zW w9; have HK2 := zH (HKV.o.trans (aw.of_below hb9)); have HS2 := zH (HSQ.o.under hb9); have HM2 := zH (HMQ.o.under hb9); have HMF2 := zH (HMFQ.o.under hb9); have BS2 := zH (ao hb9 BSQ.o); have BN2 := zH (ao hb9 BNQ.o); have HB2 := zH (HBQ.o.trans (hb9.mono HBQ.o.size)); obtain ⟨nb0, nb1, nb2, nb3, nb4⟩ := aW BN2.o; clear hb9)
        have HNS := zH (show dT V2 S P e1 c1 n1 t1 f1 v1 (.string (str n.name), .slice fA n.funs.length fk, .slice iA n.ins.length ik, .slice oA n.outs.length ok, .slice xA n.items.length xk) ⟨s, n.funs, ay lv⟩ from
         ⟨HS2.o, BS2.o, HMF2.o, ⟨lv, HM2.o, rfl, HSHQ.o⟩, HNF.o, ⟨HNV.o.1, HNV.o.2.1, HNV.o.2.2.1, HNV.o.2.2.2, λ e => HFV.o e.symm⟩⟩)
        generalize hns : (⟨s, n.funs, ay lv⟩ : dM) = nsc at HNS; have HNSC := zH hns; clear hns nb0 nb1 nb2 nb3; go_loopg [41] n.items.length (λ g v wr => ∃ j : Nat, j + g = n.items.length /\ v = .int .i64 j /\ gN nsc 0 n.items = gN nsc j (n.items.drop j) /\ Below V2.heap.size V2 wr)
        case atStart => exact ⟨0, by omega, rfl, rfl, Below.refl _ _⟩
        case round =>
         obtain ⟨wz, rfl⟩ := zW wr; obtain ⟨j, hjg, rfl, hus, hbw⟩ := hrel; have HJ := zH hjg; have HUS := zH hus; have HWZ := zH hbw; have HBW := zH (HB2.o.trans (hbw.mono HB2.o.size)); have hjl : j <= n.items.length := zO; clear hjg hus hbw nb4; by_cases hlt2 : j < n.items.length
         . obtain ⟨i, hi⟩ := zG hlt2; have HDR := zH (bw hi); obtain ⟨hi1, _⟩ := HF3.o i (List.mem_of_getElem? hi); have HI1 := zH hi1; obtain ⟨Li, hEI, hIi⟩ := HXE.o j i hi; have HIT := zH (hIi.under HB2.o); obtain ⟨A0, n0, k0, o1, s2, o3, A4, n4, k4, A5, n5, k5, A6, n6, k6, rfl⟩ := hIi.shape; obtain ⟨a, ea, ha, haa, d0, d1, d2, d3, d4, d5, d6⟩ := ox (hEI.under HBW.o); subst ea; have hal := zH (zA wz (.cells #[.slice A0 n0 k0, .int .i64 o1, .string s2, .int .i64 o3, .slice A4 n4 k4, .slice A5 n5 k5, .slice A6 n6 k6] 86)); have HUZ := zH (HWZ.o.trans (hal.o.mono HWZ.o.size)); have HUSE := zH (Ct HNS.o HIT.o HI1.o _ HUZ.o); clear hi hEI hIi hi1; cases hok : dY nsc i
           . have HOK := zH hok; have HNO := zH (show gN ⟨s, n.funs, ay lv⟩ 0 n.items = some (j : Int) by rw [HNSC.o, HUS.o, HDR.o, lI, if_neg (by rw [hok]; simp)]); clear hok
             go_wp2_with (go_at_call 52
                          (with_reducible refine HUSE.o.mono ?_); rintro e w9 ⟨he, hb9⟩; rw [HOK.o] at he; subst he; have HK9 := zH ((HK2.o.trans (aw.of_below HUZ.o)).trans (aw.of_below hb9)); clear hb9)
             go_ret2
             exact pd (rU HHD.o HIT1.o HO.o HNO.o) (HK9.o.cut HV.o HCUT2.o)
           . have HOK := zH hok; have HNX := zH (show gN nsc 0 n.items = gN nsc (j + 1 : Nat) (n.items.drop (j + 1)) by rw [HUS.o, HDR.o, lI, if_pos hok]; rfl); clear hok
             go_wp2_with (go_at_call 52
                          (with_reducible refine HUSE.o.mono ?_); rintro e w9 ⟨he, hb9⟩; rw [HOK.o] at he; subst he; have HB9 := zH (HUZ.o.trans (hb9.mono HUZ.o.size)); clear hb9)
             go_roundg (n.items.length - (j + 1))
             case measure => have := HJ.o; omega
             case rel => exact ⟨j + 1, by omega, by go_num, HNX.o, HB9.o⟩
         . have hje : j = n.items.length := by omega
           have HNO := zH (show gN ⟨s, n.funs, ay lv⟩ 0 n.items = none by rw [HNSC.o, HUS.o, hje, List.drop_length]; rfl); have HSW := zH (HS2.o.under HWZ.o); have BNW := zH (ao HWZ.o BN2.o); obtain ⟨_, _, x2, _⟩ := HSW.o.row; obtain ⟨nb0, nb1, nb2, nb3, nb4⟩ := aW BNW.o; have hPl := ab HSW.o.box; have hNl := ab BNW.o; obtain ⟨ln, hmn, hrn⟩ := HSW.o.mn; have HMN := zH hmn; have HRN := zH hrn
           have HROK := zH (show aV (ay ln) [n.name] = true by
            have h1 := HHD.o; rw [cN, Bool.and_eq_true] at h1; have h2 : ay ln = sp.nodeKeys := (by rw [hrn.1, HND.o]; rfl); rw [dd, h2, h1.1]; rfl)
           clear hje hmn hrn; go_wp2_with fail
           refine wp_region_held_drew (S := (λ W => W.cell? ⟨P, 2, none⟩ = some (.map (some n1)) /\ W.cell? ⟨w.heap.size, 0, none⟩ = some (.string (str n.name)) /\ W.cell? ⟨w.heap.size, 1, none⟩ = some (.slice fA n.funs.length fk) /\ W.cell? ⟨w.heap.size, 2, none⟩ = some (.slice iA n.ins.length ik) /\ W.cell? ⟨w.heap.size, 3, none⟩ = some (.slice oA n.outs.length ok) /\ W.cell? ⟨w.heap.size, 4, none⟩ = some (.slice xA n.items.length xk))) zK ?_ (λ hHeld => ?_)
           . (try dsimp only); go_keep
           refine aa 0 ?_; refine aa 1 ?_; refine aa 2 ?_; refine aa 3 ?_; refine aa 4 ?_; refine aa 5 ?_; refine aa 6 ?_; refine aq 7 zK rfl (λ K hK => ?_); go_simp
           refine hK.out _ _ ?_ (λ hHeld => ?_)
           . (try dsimp only); go_keep
           clear hK K; try simp only [Act.put, aO, aM, aN]
           have B1 := zH (zA wz (.cells #[.string (str n.name)] 9)).drew; have NX := zH (show (wz.alloc (.cells #[.string (str n.name)] 9)).drew.heap[wz.heap.size]? = some (.cells #[.string (str n.name)] 9 (0, 0)) from heap_alloc_new wz (.cells #[.string (str n.name)] 9)); generalize (wz.alloc (.cells #[.string (str n.name)] 9)).drew = Y at *; refine aq 8 zK rfl (λ K hK => ?_); go_simp
           (go_at_call 53
            (with_reducible refine (uS (HMN.o.under B1.o) HRN.o.sh (pF NX.o HNL.o)).mono ?_); rintro e w9 ⟨he, hk9, hm9⟩; rw [HROK.o] at he; subst he; obtain ⟨V9, rfl⟩ := zW w9; have HK9 := zH (((HK2.o.trans (aw.of_below HWZ.o)).trans (aw.of_below B1.o)).trans (hk9.mono (by simp))); have HS9 := zH ((HSW.o.under B1.o).putN (HMN.o.under B1.o) hk9 (hm9 HROK.o) (HRN.o.snoc ⟨_, fA, fk, iA, ik, oA, ok, xA, _, xk, rfl⟩)); obtain ⟨_, _, x2, _⟩ := HS9.o.row; obtain ⟨nb0, nb1, nb2, nb3, nb4⟩ := aW (fB (HMN.o.under B1.o) hk9 (ao B1.o BNW.o)); clear hk9 hm9)
           refine hK.out _ _ ?_ (λ hHeld => ?_)
           . (try dsimp only); go_keep
           clear hK K; try simp only [Act.put, aO, aM, aN]
           refine wpAnyH_done zK ?_ _; go_wp2_with fail
           go_ret2
           exact Dl (zg HHD.o HIT1.o HO.o HNO.o) HS9.o (HK9.o.cut HV.o HCUT2.o)
end
end Go.Proofs.YtiholfmmphcbeaaGreatDoor
