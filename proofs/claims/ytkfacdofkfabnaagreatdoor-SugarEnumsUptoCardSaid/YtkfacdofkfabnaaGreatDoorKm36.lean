import Derived.Test.YtkfacdofkfabnaaGreatDoorKm33
import Derived.Test.YtkfacdofkfabnaaGreatDoorKm35
set_option maxHeartbeats 16000000
set_option maxRecDepth 100000
namespace Go.Proofs.YtkfacdofkfabnaaGreatDoor
open _root_.Go.Proofs.Tryz
open Go.RowKit
open Go.ChangeMaps Go.MapKept
open Go.Maps
theorem F7 : ∀ p ∈ ([] : List (Tx × Value)), ShI p.2 := λ _ hp => absurd hp (List.not_mem_nil)
theorem aP.drew {w : World} {b : Nat} {l : List (Tx × Value)} (h : aP w b l) : aP w.drew b l := h
theorem Dx {a b : List Tx} (h : bg [] (a ++ b) = true) : bg [] a = true := by
 rw [BE, Bool.and_eq_true] at h; exact h.1
theorem BD {a b : List Tx} (h : bg [] (a ++ b) = true) : bg [] b = true := by
 rw [rU _ _ List.nodup_nil] at h ⊢; rw [List.nil_append] at h ⊢; exact (List.nodup_append.1 h).2.1
theorem gB {W : World} {N : Nat} {T0 : TypeId} {fz : Nat × Nat} {u v : Value} {a b : List Tx} (h : W.heap[N]? = some (.cells #[u, v] T0 fz)) (h1 : aH W u a) (h2 : aH W v b) (hl : (a ++ b).length <= 2097152) :
  Calls prog 104 #[.slice (some ⟨N, 0, none⟩) 2 2] W (aA (bg [] (a ++ b)) W) := by
 have := mU (w := W) (A := some ⟨N, 0, none⟩) (c := 2) (ls := [a, b]) (IC h ⟨u, rfl, h1⟩ ⟨v, rfl, h2⟩ rfl rfl) (by simpa using hl); simpa using this
theorem jq {W : World} {N : Nat} {T0 : TypeId} {fz : Nat × Nat} {u : Value} {a : List Tx} (h : W.heap[N]? = some (.cells #[u] T0 fz)) (h1 : aH W u a) (hl : a.length <= 2097152) :
  Calls prog 104 #[.slice (some ⟨N, 0, none⟩) 1 1] W (aA (bg [] a) W) := by
 have := mU (w := W) (A := some ⟨N, 0, none⟩) (c := 1) (ls := [a]) (ig h ⟨u, rfl, h1⟩ rfl) (by simpa using hl); simpa using this
def xl (f1 v1 : Nat) (s : bc) (q : aY) (w : World) (e : Ending) (w' : World) : Prop :=
 e = .returned (.bool (dQ s q)) /\ aC [f1, v1] w w' /\ (dQ s q = true -> aP w' f1 (bu eZ q.funs) /\ aP w' v1 (bu (.int .i64 (-1)) q.ins))
theorem pf {f1 v1 : Nat} {s : bc} {q : aY} {w w' : World} (h : dQ s q = false) (hk : aC [f1, v1] w w') : xl f1 v1 s q w (.returned (.bool false)) w' :=
 ⟨au h.symm, hk, λ h' => by rw [h] at h'; cases h'⟩
section
variable {S P e1 c1 n1 t1 f1 v1 : Nat} {xA : Option Addr} {xn xk : Nat} {sp : bc}
theorem oH {w : World} {q : aY} {fA iA oA : Option Addr} {fk ik ok : Nat} (hS : bb w P e1 c1 n1 t1 sp)
  (hbox : w.heap[S]? = some (.cells #[.pointer (some ⟨P, 0, none⟩), .string (str q.name), .slice fA q.funs.length fk, .slice iA q.ins.length ik, .slice oA q.outs.length ok, .slice xA xn xk, .map (some f1), .map (some v1)] 124 (0, 0)))
  (hf : aH w (.slice fA q.funs.length fk) q.funs) (hi : aH w (.slice iA q.ins.length ik) q.ins) (ho : aH w (.slice oA q.outs.length ok) q.outs) (hnl : q.name.length <= maxLen)
  (hmf : aP w f1 []) (hmv : aP w v1 []) (hfv : f1 ≠ v1) (hl1 : (q.funs ++ q.ins).length <= 2097152) (hl2 : q.outs.length <= 2097152) :
  Calls prog 52 #[.pointer (some ⟨S, 0, none⟩)] w (xl f1 v1 sp q w) := by
 have hmk : ∀ (fn : Fn) (first cap : Array Value) (w : World), (Instr.makeFunc fn first cap).run prog w = .ok (.func fn first cap) w := λ _ _ _ _ => rfl; have HS := zH hS; have HBOX := zH hbox; have HF0 := zH hf; have HI0 := zH hi; have HO0 := zH ho; have HNL := zH hnl; have HMF0 := zH hmf; have HMV0 := zH hmv; have HFV := zH hfv; have HL1 := zH hl1; have HL2 := zH hl2; have HOK := zH (show dQ sp q = (!sp.nodeKeys.contains q.name && (bg [] (q.funs ++ q.ins) && (bg [] q.outs && !q.funs.any λ f => f == q.name || sp.nodeKeys.contains f))) from rfl); have hSl := ak hbox; have hPl := ak hS.box; obtain ⟨y0, y1, y2, y3, y4, y5, y6, y7⟩ := gm hbox; clear hS hbox hf hi ho hnl hmf hmv hfv hl1 hl2; go_enter func52, ntmps52
 go_wp2_with fail
 have BN0 := heap_alloc_new w (.cells #[.pointer (some ⟨S, 0, none⟩)] 121); have HVa := zA w (.cells #[.pointer (some ⟨S, 0, none⟩)] 121); have HV := zH (HVa.alloc HVa.size (.cells #[.string (str q.name), .slice fA q.funs.length fk, .slice iA q.ins.length ik, .slice oA q.outs.length ok, .slice xA xn xk] 36)); have BN := zH (aT (o := .cells #[.string (str q.name), .slice fA q.funs.length fk, .slice iA q.ins.length ik, .slice oA q.outs.length ok, .slice xA xn xk] 36) BN0); have BM := zH (show ((w.alloc (.cells #[.pointer (some ⟨S, 0, none⟩)] 121)).alloc (.cells #[.string (str q.name), .slice fA q.funs.length fk, .slice iA q.ins.length ik, .slice oA q.outs.length ok, .slice xA xn xk] 36)).heap[w.heap.size + 1]? = some (.cells #[.string (str q.name), .slice fA q.funs.length fk, .slice iA q.ins.length ik, .slice oA q.outs.length ok, .slice xA xn xk] 36 (0, 0)) from aF (by simp)); generalize (w.alloc (.cells #[.pointer (some ⟨S, 0, none⟩)] 121)).alloc (.cells #[.string (str q.name), .slice fA q.funs.length fk, .slice iA q.ins.length ik, .slice oA q.outs.length ok, .slice xA xn xk] 36) = V at *; clear HVa BN0; have HSV := zH (HS.o.under HV.o); have HBX := zH (ab HV.o HBOX.o); have HF := zH (HF0.o.under HV.o); have HI := zH (HI0.o.under HV.o); have HO := zH (HO0.o.under HV.o); have HMF := zH (HMF0.o.under HV.o); have HMV := zH (HMV0.o.under HV.o); obtain ⟨ln, hmn, hrn⟩ := HSV.o.mn; have HMN := zH hmn; have HSHN := zH hrn.sh; have HKN := zH (show aG ln = sp.nodeKeys from hrn.1); clear hmn hrn
 have KEEP := zH (show ∀ W, aC [f1, v1] V W -> W.cell? ⟨w.heap.size, 0, none⟩ = some (.pointer (some ⟨S, 0, none⟩)) /\ W.cell? ⟨S, 0, none⟩ = some (.pointer (some ⟨P, 0, none⟩)) /\ W.cell? ⟨S, 6, none⟩ = some (.map (some f1)) /\ W.cell? ⟨S, 7, none⟩ = some (.map (some v1)) /\ W.cell? ⟨P, 2, none⟩ = some (.map (some n1)) /\ W.cell? ⟨w.heap.size + 1, 0, none⟩ = some (.string (str q.name)) /\ W.cell? ⟨w.heap.size + 1, 1, none⟩ = some (.slice fA q.funs.length fk) /\ W.cell? ⟨w.heap.size + 1, 2, none⟩ = some (.slice iA q.ins.length ik) /\ W.cell? ⟨w.heap.size + 1, 3, none⟩ = some (.slice oA q.outs.length ok) from λ W hW => by
  have nb : ∀ {g : Nat} {cs : Array Value} {T0 : TypeId}, V.heap[g]? = some (.cells cs T0 (0, 0)) -> g ∉ [f1, v1] := λ h => by
   have h1 := HMF.o.notbox h; have h2 := HMV.o.notbox h; simp [h1, h2]
  have a1 := oL (dd hW (nb BN.o) BN.o); obtain ⟨b0, _, _, _, _, _, b6, b7⟩ := gm (dd hW (nb HBX.o) HBX.o); obtain ⟨_, _, c2, _⟩ := mg (dd hW (nb HSV.o.box) HSV.o.box); obtain ⟨d0, d1, d2, d3, _⟩ := aN (dd hW (nb BM.o) BM.o); exact ⟨a1, b0, b6, b7, c2, d0, d1, d2, d3⟩)
 have HCF := zH (gT HF.o Hu (f := λ f => f == q.name || sp.nodeKeys.contains f) (cap := #[.pointer (some ⟨w.heap.size + 1, 0, none⟩), .pointer (some ⟨w.heap.size, 0, none⟩)]) (λ x _ hx => xu HSV.o HBX.o BN.o BM.o hx)); clear y0 y1 y2 y3 y4 y5 y6 y7; cases ha : sp.nodeKeys.contains q.name
 . have HA := zH ha; rw [ha, Bool.not_false, Bool.true_and] at HOK; clear ha; cases hb1 : bg [] (q.funs ++ q.ins)
   . have HB1 := zH hb1; have HNO := zH (show dQ sp q = false by rw [HOK.o, hb1]; rfl); clear hb1; refine wp_region_held_drew (S := (λ W => W.cell? ⟨w.heap.size, 0, none⟩ = some (.pointer (some ⟨S, 0, none⟩)) /\ W.cell? ⟨S, 0, none⟩ = some (.pointer (some ⟨P, 0, none⟩)) /\ W.cell? ⟨S, 6, none⟩ = some (.map (some f1)) /\ W.cell? ⟨S, 7, none⟩ = some (.map (some v1)) /\ W.cell? ⟨P, 2, none⟩ = some (.map (some n1)) /\ W.cell? ⟨w.heap.size + 1, 0, none⟩ = some (.string (str q.name)) /\ W.cell? ⟨w.heap.size + 1, 1, none⟩ = some (.slice fA q.funs.length fk) /\ W.cell? ⟨w.heap.size + 1, 2, none⟩ = some (.slice iA q.ins.length ik) /\ W.cell? ⟨w.heap.size + 1, 3, none⟩ = some (.slice oA q.outs.length ok))) zK ?_ (λ hHeld => ?_)
     . exact KEEP.o _ (aC.of_below (Below.refl _ _).drew)
     refine aa 0 ?_; refine aa 1 ?_; refine aa 2 ?_; refine aa 3 ?_; refine aa 4 ?_; refine aa 5 ?_; refine aa 6 ?_; refine aa 7 ?_; refine aa 8 ?_; refine ay 9 zK rfl (λ K hK => ?_); go_simp
     (go_at_call 103
      (with_reducible refine (eW HMN.o.drew HSHN.o HNL.o).mono ?_); rintro e V1 ⟨he, hb7⟩; rw [HKN.o, HA.o] at he; subst he; have B1 := zH ((zB V).drew.trans hb7); clear hb7)
     refine hK.out _ _ (KEEP.o _ (aC.of_below B1.o)) (λ hHeld => ?_); clear hK K; try simp only [Act.put, aK, aI, aJ]
     refine aa 10 ?_; refine aa 11 ?_; refine aa 12 ?_; refine aa 13 ?_; refine aa 14 ?_; refine aa 15 ?_; refine ay 16 zK rfl (λ K hK => ?_); go_simp
     refine hK.out _ _ (KEEP.o _ (aC.of_below (B1.o.alloc B1.o.size _))) (λ hHeld => ?_); clear hK K; try simp only [Act.put, aK, aI, aJ]
     have B2 := zH (B1.o.alloc B1.o.size (.cells #[.slice fA q.funs.length fk, .slice iA q.ins.length ik] 33)); have BX2 := zH (heap_alloc_new V1 (.cells #[.slice fA q.funs.length fk, .slice iA q.ins.length ik] 33)); generalize V1.alloc (.cells #[.slice fA q.funs.length fk, .slice iA q.ins.length ik] 33) = V2 at *; refine ay 17 zK rfl (λ K hK => ?_); go_simp
     (go_at_call 104
      (with_reducible refine (gB BX2.o (HF.o.under B2.o) (HI.o.under B2.o) HL1.o).mono ?_); rintro e V3 ⟨he, hb7⟩; rw [HB1.o] at he; subst he; have B3 := zH (B2.o.trans (hb7.mono B2.o.size)); clear hb7)
     refine hK.out _ _ (KEEP.o _ (aC.of_below B3.o)) (λ hHeld => ?_); clear hK K; try simp only [Act.put, aK, aI, aJ]
     refine aa 18 ?_; refine aa 19 ?_; refine aj 20 ?_; refine aj 21 ?_; refine aj 22 ?_; refine aj 23 ?_; refine aa 24 ?_; refine aa 25 ?_; refine aj 26 ?_; refine aj 27 ?_; refine aj 28 ?_; refine aj 29 ?_; refine aj 30 ?_; refine aa 31 ?_; refine aa 32 ?_; refine aj 33 ?_; refine aj 34 ?_; refine aj 35 ?_; refine aj 36 ?_; refine aj 37 ?_; refine aj 38 ?_; refine aj 39 ?_; refine aj 40 ?_; refine aa 41 ?_; refine aa 42 ?_; refine aj 43 ?_; refine aj 44 ?_; refine aj 45 ?_; refine aj 46 ?_; refine aj 47 ?_; refine aj 48 ?_; refine aj 49 ?_; refine aa 50 ?_; refine aa 51 ?_; refine wpAnyH_done zK ?_ _; go_wp2_with fail
     go_ret; exact pf HNO.o ((aC.of_below HV.o).trans (aC.of_below B3.o))
   . have HB1 := zH hb1; rw [hb1, Bool.true_and] at HOK; have HR1 := zH (Dx hb1); have HR2 := zH (BD hb1); clear hb1; cases hc1 : bg [] q.outs
     . have HC1 := zH hc1; have HNO := zH (show dQ sp q = false by rw [HOK.o, hc1]; rfl); clear hc1; refine wp_region_held_drew (S := (λ W => W.cell? ⟨w.heap.size, 0, none⟩ = some (.pointer (some ⟨S, 0, none⟩)) /\ W.cell? ⟨S, 0, none⟩ = some (.pointer (some ⟨P, 0, none⟩)) /\ W.cell? ⟨S, 6, none⟩ = some (.map (some f1)) /\ W.cell? ⟨S, 7, none⟩ = some (.map (some v1)) /\ W.cell? ⟨P, 2, none⟩ = some (.map (some n1)) /\ W.cell? ⟨w.heap.size + 1, 0, none⟩ = some (.string (str q.name)) /\ W.cell? ⟨w.heap.size + 1, 1, none⟩ = some (.slice fA q.funs.length fk) /\ W.cell? ⟨w.heap.size + 1, 2, none⟩ = some (.slice iA q.ins.length ik) /\ W.cell? ⟨w.heap.size + 1, 3, none⟩ = some (.slice oA q.outs.length ok))) zK ?_ (λ hHeld => ?_)
       . exact KEEP.o _ (aC.of_below (Below.refl _ _).drew)
       refine aa 0 ?_; refine aa 1 ?_; refine aa 2 ?_; refine aa 3 ?_; refine aa 4 ?_; refine aa 5 ?_; refine aa 6 ?_; refine aa 7 ?_; refine aa 8 ?_; refine ay 9 zK rfl (λ K hK => ?_); go_simp
       (go_at_call 103
        (with_reducible refine (eW HMN.o.drew HSHN.o HNL.o).mono ?_); rintro e V1 ⟨he, hb7⟩; rw [HKN.o, HA.o] at he; subst he; have B1 := zH ((zB V).drew.trans hb7); clear hb7)
       refine hK.out _ _ (KEEP.o _ (aC.of_below B1.o)) (λ hHeld => ?_); clear hK K; try simp only [Act.put, aK, aI, aJ]
       refine aa 10 ?_; refine aa 11 ?_; refine aa 12 ?_; refine aa 13 ?_; refine aa 14 ?_; refine aa 15 ?_; refine ay 16 zK rfl (λ K hK => ?_); go_simp
       refine hK.out _ _ (KEEP.o _ (aC.of_below (B1.o.alloc B1.o.size _))) (λ hHeld => ?_); clear hK K; try simp only [Act.put, aK, aI, aJ]
       have B2 := zH (B1.o.alloc B1.o.size (.cells #[.slice fA q.funs.length fk, .slice iA q.ins.length ik] 33)); have BX2 := zH (heap_alloc_new V1 (.cells #[.slice fA q.funs.length fk, .slice iA q.ins.length ik] 33)); generalize V1.alloc (.cells #[.slice fA q.funs.length fk, .slice iA q.ins.length ik] 33) = V2 at *; refine ay 17 zK rfl (λ K hK => ?_); go_simp
       (go_at_call 104
        (with_reducible refine (gB BX2.o (HF.o.under B2.o) (HI.o.under B2.o) HL1.o).mono ?_); rintro e V3 ⟨he, hb7⟩; rw [HB1.o] at he; subst he; have B3 := zH (B2.o.trans (hb7.mono B2.o.size)); clear hb7)
       refine hK.out _ _ (KEEP.o _ (aC.of_below B3.o)) (λ hHeld => ?_); clear hK K; try simp only [Act.put, aK, aI, aJ]
       refine aa 18 ?_; refine aa 19 ?_; refine aa 20 ?_; refine aa 21 ?_; refine ay 22 zK rfl (λ K hK => ?_); go_simp
       refine hK.out _ _ (KEEP.o _ (aC.of_below (B3.o.alloc B3.o.size _))) (λ hHeld => ?_); clear hK K; try simp only [Act.put, aK, aI, aJ]
       have B4 := zH (B3.o.alloc B3.o.size (.cells #[.slice oA q.outs.length ok] 33)); have BX4 := zH (heap_alloc_new V3 (.cells #[.slice oA q.outs.length ok] 33)); generalize V3.alloc (.cells #[.slice oA q.outs.length ok] 33) = V4 at *; refine ay 23 zK rfl (λ K hK => ?_); go_simp
       (go_at_call 104
        (with_reducible refine (jq BX4.o (HO.o.under B4.o) HL2.o).mono ?_); rintro e V5 ⟨he, hb7⟩; rw [HC1.o] at he; subst he; have B5 := zH (B4.o.trans (hb7.mono B4.o.size)); clear hb7)
       refine hK.out _ _ (KEEP.o _ (aC.of_below B5.o)) (λ hHeld => ?_); clear hK K; try simp only [Act.put, aK, aI, aJ]
       refine aa 24 ?_; refine aa 25 ?_; refine aj 26 ?_; refine aj 27 ?_; refine aj 28 ?_; refine aj 29 ?_; refine aj 30 ?_; refine aa 31 ?_; refine aa 32 ?_; refine aj 33 ?_; refine aj 34 ?_; refine aj 35 ?_; refine aj 36 ?_; refine aj 37 ?_; refine aj 38 ?_; refine aj 39 ?_; refine aj 40 ?_; refine aa 41 ?_; refine aa 42 ?_; refine aj 43 ?_; refine aj 44 ?_; refine aj 45 ?_; refine aj 46 ?_; refine aj 47 ?_; refine aj 48 ?_; refine aj 49 ?_; refine aa 50 ?_; refine aa 51 ?_; refine wpAnyH_done zK ?_ _; go_wp2_with fail
       go_ret; exact pf HNO.o ((aC.of_below HV.o).trans (aC.of_below B5.o))
     . have HC1 := zH hc1; rw [hc1, Bool.true_and] at HOK; clear hc1; cases hd1 : q.funs.any (λ f => f == q.name || sp.nodeKeys.contains f)
       . have HD1 := zH hd1; have HY := zH (show dQ sp q = true by rw [HOK.o, hd1]; rfl); clear hd1; refine wp_region_held_drew (S := (λ W => W.cell? ⟨w.heap.size, 0, none⟩ = some (.pointer (some ⟨S, 0, none⟩)) /\ W.cell? ⟨S, 0, none⟩ = some (.pointer (some ⟨P, 0, none⟩)) /\ W.cell? ⟨S, 6, none⟩ = some (.map (some f1)) /\ W.cell? ⟨S, 7, none⟩ = some (.map (some v1)) /\ W.cell? ⟨P, 2, none⟩ = some (.map (some n1)) /\ W.cell? ⟨w.heap.size + 1, 0, none⟩ = some (.string (str q.name)) /\ W.cell? ⟨w.heap.size + 1, 1, none⟩ = some (.slice fA q.funs.length fk) /\ W.cell? ⟨w.heap.size + 1, 2, none⟩ = some (.slice iA q.ins.length ik) /\ W.cell? ⟨w.heap.size + 1, 3, none⟩ = some (.slice oA q.outs.length ok))) zK ?_ (λ hHeld => ?_)
         . exact KEEP.o _ (aC.of_below (Below.refl _ _).drew)
         refine aa 0 ?_; refine aa 1 ?_; refine aa 2 ?_; refine aa 3 ?_; refine aa 4 ?_; refine aa 5 ?_; refine aa 6 ?_; refine aa 7 ?_; refine aa 8 ?_; refine ay 9 zK rfl (λ K hK => ?_); go_simp
         (go_at_call 103
          (with_reducible refine (eW HMN.o.drew HSHN.o HNL.o).mono ?_); rintro e V1 ⟨he, hb7⟩; rw [HKN.o, HA.o] at he; subst he; have B1 := zH ((zB V).drew.trans hb7); clear hb7)
         refine hK.out _ _ (KEEP.o _ (aC.of_below B1.o)) (λ hHeld => ?_); clear hK K; try simp only [Act.put, aK, aI, aJ]
         refine aa 10 ?_; refine aa 11 ?_; refine aa 12 ?_; refine aa 13 ?_; refine aa 14 ?_; refine aa 15 ?_; refine ay 16 zK rfl (λ K hK => ?_); go_simp
         refine hK.out _ _ (KEEP.o _ (aC.of_below (B1.o.alloc B1.o.size _))) (λ hHeld => ?_); clear hK K; try simp only [Act.put, aK, aI, aJ]
         have B2 := zH (B1.o.alloc B1.o.size (.cells #[.slice fA q.funs.length fk, .slice iA q.ins.length ik] 33)); have BX2 := zH (heap_alloc_new V1 (.cells #[.slice fA q.funs.length fk, .slice iA q.ins.length ik] 33)); generalize V1.alloc (.cells #[.slice fA q.funs.length fk, .slice iA q.ins.length ik] 33) = V2 at *; refine ay 17 zK rfl (λ K hK => ?_); go_simp
         (go_at_call 104
          (with_reducible refine (gB BX2.o (HF.o.under B2.o) (HI.o.under B2.o) HL1.o).mono ?_); rintro e V3 ⟨he, hb7⟩; rw [HB1.o] at he; subst he; have B3 := zH (B2.o.trans (hb7.mono B2.o.size)); clear hb7)
         refine hK.out _ _ (KEEP.o _ (aC.of_below B3.o)) (λ hHeld => ?_); clear hK K; try simp only [Act.put, aK, aI, aJ]
         refine aa 18 ?_; refine aa 19 ?_; refine aa 20 ?_; refine aa 21 ?_; refine ay 22 zK rfl (λ K hK => ?_); go_simp
         refine hK.out _ _ (KEEP.o _ (aC.of_below (B3.o.alloc B3.o.size _))) (λ hHeld => ?_); clear hK K; try simp only [Act.put, aK, aI, aJ]
         have B4 := zH (B3.o.alloc B3.o.size (.cells #[.slice oA q.outs.length ok] 33)); have BX4 := zH (heap_alloc_new V3 (.cells #[.slice oA q.outs.length ok] 33)); generalize V3.alloc (.cells #[.slice oA q.outs.length ok] 33) = V4 at *; refine ay 23 zK rfl (λ K hK => ?_); go_simp
         (go_at_call 104
          (with_reducible refine (jq BX4.o (HO.o.under B4.o) HL2.o).mono ?_); rintro e V5 ⟨he, hb7⟩; rw [HC1.o] at he; subst he; have B5 := zH (B4.o.trans (hb7.mono B4.o.size)); clear hb7)
         refine hK.out _ _ (KEEP.o _ (aC.of_below B5.o)) (λ hHeld => ?_); clear hK K; try simp only [Act.put, aK, aI, aJ]
         refine aa 24 ?_; refine aa 25 ?_; refine aa 26 ?_; refine aa 27 ?_; refine aa 28 ?_; refine ay 29 zK rfl (λ K hK => ?_); go_simp
         (go_at_call 105
          (with_reducible refine (HCF.o _ B5.o).mono ?_); rintro e V6 ⟨he, hb7⟩; rw [HD1.o] at he; subst he; have B6 := zH (B5.o.trans (hb7.mono B5.o.size)); clear hb7)
         refine hK.out _ _ (KEEP.o _ (aC.of_below B6.o)) (λ hHeld => ?_); clear hK K; try simp only [Act.put, aK, aI, aJ]
         refine aa 30 ?_; refine aa 31 ?_; refine aa 32 ?_; refine aa 33 ?_; refine aa 34 ?_; refine aa 35 ?_; refine aa 36 ?_; refine aa 37 ?_; refine aa 38 ?_; refine aa 39 ?_; refine ay 40 zK rfl (λ K hK => ?_); go_simp
         (go_at_call 51
          (with_reducible refine (dr (l := []) (HMF.o.under B6.o) Dn (HF.o.under B6.o)).mono ?_); rintro e V7 ⟨he, hk, hm⟩; rw [show aG ([] : List (Tx × Value)) = [] from rfl, HR1.o] at he; subst he; have K7 := zH ((aC.of_below (M := [f1, v1]) B6.o).trans (hk.mono (by simp))); have HM7 := zH (hm HR1.o); have HV7 := zH ((HMV.o.under B6.o).keptM hk (by simpa using λ e => HFV.o e.symm)); have HI7 := zH ((HI.o.under B6.o).kept (HMF.o.under B6.o) hk); clear hk hm)
         refine hK.out _ _ (KEEP.o _ (K7.o)) (λ hHeld => ?_); clear hK K; try simp only [Act.put, aK, aI, aJ]
         refine aa 41 ?_; refine aa 42 ?_; refine aa 43 ?_; refine aa 44 ?_; refine aa 45 ?_; refine aa 46 ?_; refine aa 47 ?_; refine aa 48 ?_; refine ay 49 zK rfl (λ K hK => ?_); go_simp
         (go_at_call 106
          (with_reducible refine (jS (l := []) HV7.o F7 HI7.o).mono ?_); rintro e V8 ⟨he, hk, hm⟩; rw [show aG ([] : List (Tx × Value)) = [] from rfl, HR2.o] at he; subst he; have K8 := zH (K7.o.trans (hk.mono (by simp))); have HM8 := zH (hm HR2.o); have HF8 := zH (HM7.o.keptM hk (by simpa using HFV.o)); clear hk hm)
         refine hK.out _ _ (KEEP.o _ (K8.o)) (λ hHeld => ?_); clear hK K; try simp only [Act.put, aK, aI, aJ]
         refine aa 50 ?_; refine aa 51 ?_; refine wpAnyH_done zK ?_ _; go_wp2_with fail
         go_ret; exact ⟨au HY.o.symm, (aC.of_below HV.o).trans K8.o, λ _ => ⟨HF8.o, HM8.o⟩⟩
       . have HD1 := zH hd1; have HNO := zH (show dQ sp q = false by rw [HOK.o, hd1]; rfl); clear hd1; refine wp_region_held_drew (S := (λ W => W.cell? ⟨w.heap.size, 0, none⟩ = some (.pointer (some ⟨S, 0, none⟩)) /\ W.cell? ⟨S, 0, none⟩ = some (.pointer (some ⟨P, 0, none⟩)) /\ W.cell? ⟨S, 6, none⟩ = some (.map (some f1)) /\ W.cell? ⟨S, 7, none⟩ = some (.map (some v1)) /\ W.cell? ⟨P, 2, none⟩ = some (.map (some n1)) /\ W.cell? ⟨w.heap.size + 1, 0, none⟩ = some (.string (str q.name)) /\ W.cell? ⟨w.heap.size + 1, 1, none⟩ = some (.slice fA q.funs.length fk) /\ W.cell? ⟨w.heap.size + 1, 2, none⟩ = some (.slice iA q.ins.length ik) /\ W.cell? ⟨w.heap.size + 1, 3, none⟩ = some (.slice oA q.outs.length ok))) zK ?_ (λ hHeld => ?_)
         . exact KEEP.o _ (aC.of_below (Below.refl _ _).drew)
         refine aa 0 ?_; refine aa 1 ?_; refine aa 2 ?_; refine aa 3 ?_; refine aa 4 ?_; refine aa 5 ?_; refine aa 6 ?_; refine aa 7 ?_; refine aa 8 ?_; refine ay 9 zK rfl (λ K hK => ?_); go_simp
         (go_at_call 103
          (with_reducible refine (eW HMN.o.drew HSHN.o HNL.o).mono ?_); rintro e V1 ⟨he, hb7⟩; rw [HKN.o, HA.o] at he; subst he; have B1 := zH ((zB V).drew.trans hb7); clear hb7)
         refine hK.out _ _ (KEEP.o _ (aC.of_below B1.o)) (λ hHeld => ?_); clear hK K; try simp only [Act.put, aK, aI, aJ]
         refine aa 10 ?_; refine aa 11 ?_; refine aa 12 ?_; refine aa 13 ?_; refine aa 14 ?_; refine aa 15 ?_; refine ay 16 zK rfl (λ K hK => ?_); go_simp
         refine hK.out _ _ (KEEP.o _ (aC.of_below (B1.o.alloc B1.o.size _))) (λ hHeld => ?_); clear hK K; try simp only [Act.put, aK, aI, aJ]
         have B2 := zH (B1.o.alloc B1.o.size (.cells #[.slice fA q.funs.length fk, .slice iA q.ins.length ik] 33)); have BX2 := zH (heap_alloc_new V1 (.cells #[.slice fA q.funs.length fk, .slice iA q.ins.length ik] 33)); generalize V1.alloc (.cells #[.slice fA q.funs.length fk, .slice iA q.ins.length ik] 33) = V2 at *; refine ay 17 zK rfl (λ K hK => ?_); go_simp
         (go_at_call 104
          (with_reducible refine (gB BX2.o (HF.o.under B2.o) (HI.o.under B2.o) HL1.o).mono ?_); rintro e V3 ⟨he, hb7⟩; rw [HB1.o] at he; subst he; have B3 := zH (B2.o.trans (hb7.mono B2.o.size)); clear hb7)
         refine hK.out _ _ (KEEP.o _ (aC.of_below B3.o)) (λ hHeld => ?_); clear hK K; try simp only [Act.put, aK, aI, aJ]
         refine aa 18 ?_; refine aa 19 ?_; refine aa 20 ?_; refine aa 21 ?_; refine ay 22 zK rfl (λ K hK => ?_); go_simp
         refine hK.out _ _ (KEEP.o _ (aC.of_below (B3.o.alloc B3.o.size _))) (λ hHeld => ?_); clear hK K; try simp only [Act.put, aK, aI, aJ]
         have B4 := zH (B3.o.alloc B3.o.size (.cells #[.slice oA q.outs.length ok] 33)); have BX4 := zH (heap_alloc_new V3 (.cells #[.slice oA q.outs.length ok] 33)); generalize V3.alloc (.cells #[.slice oA q.outs.length ok] 33) = V4 at *; refine ay 23 zK rfl (λ K hK => ?_); go_simp
         (go_at_call 104
          (with_reducible refine (jq BX4.o (HO.o.under B4.o) HL2.o).mono ?_); rintro e V5 ⟨he, hb7⟩; rw [HC1.o] at he; subst he; have B5 := zH (B4.o.trans (hb7.mono B4.o.size)); clear hb7)
         refine hK.out _ _ (KEEP.o _ (aC.of_below B5.o)) (λ hHeld => ?_); clear hK K; try simp only [Act.put, aK, aI, aJ]
         refine aa 24 ?_; refine aa 25 ?_; refine aa 26 ?_; refine aa 27 ?_; refine aa 28 ?_; refine ay 29 zK rfl (λ K hK => ?_); go_simp
         (go_at_call 105
          (with_reducible refine (HCF.o _ B5.o).mono ?_); rintro e V6 ⟨he, hb7⟩; rw [HD1.o] at he; subst he; have B6 := zH (B5.o.trans (hb7.mono B5.o.size)); clear hb7)
         refine hK.out _ _ (KEEP.o _ (aC.of_below B6.o)) (λ hHeld => ?_); clear hK K; try simp only [Act.put, aK, aI, aJ]
         refine aa 30 ?_; refine aa 31 ?_; refine aa 32 ?_; refine aj 33 ?_; refine aj 34 ?_; refine aj 35 ?_; refine aj 36 ?_; refine aj 37 ?_; refine aj 38 ?_; refine aj 39 ?_; refine aj 40 ?_; refine aa 41 ?_; refine aa 42 ?_; refine aj 43 ?_; refine aj 44 ?_; refine aj 45 ?_; refine aj 46 ?_; refine aj 47 ?_; refine aj 48 ?_; refine aj 49 ?_; refine aa 50 ?_; refine aa 51 ?_; refine wpAnyH_done zK ?_ _; go_wp2_with fail
         go_ret; exact pf HNO.o ((aC.of_below HV.o).trans (aC.of_below B6.o))
 . have HA := zH ha; have HNO := zH (show dQ sp q = false by rw [HOK.o, ha]; rfl); clear ha; refine wp_region_held_drew (S := (λ W => W.cell? ⟨w.heap.size, 0, none⟩ = some (.pointer (some ⟨S, 0, none⟩)) /\ W.cell? ⟨S, 0, none⟩ = some (.pointer (some ⟨P, 0, none⟩)) /\ W.cell? ⟨S, 6, none⟩ = some (.map (some f1)) /\ W.cell? ⟨S, 7, none⟩ = some (.map (some v1)) /\ W.cell? ⟨P, 2, none⟩ = some (.map (some n1)) /\ W.cell? ⟨w.heap.size + 1, 0, none⟩ = some (.string (str q.name)) /\ W.cell? ⟨w.heap.size + 1, 1, none⟩ = some (.slice fA q.funs.length fk) /\ W.cell? ⟨w.heap.size + 1, 2, none⟩ = some (.slice iA q.ins.length ik) /\ W.cell? ⟨w.heap.size + 1, 3, none⟩ = some (.slice oA q.outs.length ok))) zK ?_ (λ hHeld => ?_)
   . exact KEEP.o _ (aC.of_below (Below.refl _ _).drew)
   refine aa 0 ?_; refine aa 1 ?_; refine aa 2 ?_; refine aa 3 ?_; refine aa 4 ?_; refine aa 5 ?_; refine aa 6 ?_; refine aa 7 ?_; refine aa 8 ?_; refine ay 9 zK rfl (λ K hK => ?_); go_simp
   (go_at_call 103
    (with_reducible refine (eW HMN.o.drew HSHN.o HNL.o).mono ?_); rintro e V1 ⟨he, hb7⟩; rw [HKN.o, HA.o] at he; subst he; have B1 := zH ((zB V).drew.trans hb7); clear hb7)
   refine hK.out _ _ (KEEP.o _ (aC.of_below B1.o)) (λ hHeld => ?_); clear hK K; try simp only [Act.put, aK, aI, aJ]
   refine aa 10 ?_; refine aa 11 ?_; refine aj 12 ?_; refine aj 13 ?_; refine aj 14 ?_; refine aj 15 ?_; refine aj 16 ?_; refine aj 17 ?_; refine aa 18 ?_; refine aa 19 ?_; refine aj 20 ?_; refine aj 21 ?_; refine aj 22 ?_; refine aj 23 ?_; refine aa 24 ?_; refine aa 25 ?_; refine aj 26 ?_; refine aj 27 ?_; refine aj 28 ?_; refine aj 29 ?_; refine aj 30 ?_; refine aa 31 ?_; refine aa 32 ?_; refine aj 33 ?_; refine aj 34 ?_; refine aj 35 ?_; refine aj 36 ?_; refine aj 37 ?_; refine aj 38 ?_; refine aj 39 ?_; refine aj 40 ?_; refine aa 41 ?_; refine aa 42 ?_; refine aj 43 ?_; refine aj 44 ?_; refine aj 45 ?_; refine aj 46 ?_; refine aj 47 ?_; refine aj 48 ?_; refine aj 49 ?_; refine aa 50 ?_; refine aa 51 ?_; refine wpAnyH_done zK ?_ _; go_wp2_with fail
   go_ret; exact pf HNO.o ((aC.of_below HV.o).trans (aC.of_below B1.o))
end
def Bb (made : Bool) (n : aY) : Prop := (n.funs ++ n.ins).length <= 2097152 /\ n.outs.length <= 2097152 /\ ∀ i ∈ n.items, cK made i = true /\ (bH i).length <= 2097152 /\ i.states.length <= 2097152
theorem rK {s : bc} {n : aY} (h : dQ s n = false) : b5 s n = .inr (-1) := by simp [b5, h]
theorem pJ {s : bc} {n : aY} (h : dQ s n = true) {b : Int} (hi : eJ 0 s n.ins n.items = .inr b) : b5 s n = .inr b := by simp [b5, h, hi]
theorem rJ {s s' : bc} {n : aY} {vars : List Tx} (h : dQ s n = true) (hi : eJ 0 s n.ins n.items = .inl (s', vars)) (ho : (n.outs.all (n.items.flatMap bH).contains) = false) : b5 s n = .inr (-1) := by
 have ho' : ¬ (n.outs.all λ o => (n.items.flatMap bH).contains o) = true := (by rw [Bool.not_eq_true]; exact ho); rw [b5, if_pos h, hi]; simp only; rw [if_neg ho']
theorem rI {s s' : bc} {n : aY} {vars : List Tx} (h : dQ s n = true) (hi : eJ 0 s n.ins n.items = .inl (s', vars)) (ho : (n.outs.all (n.items.flatMap bH).contains) = true) {b : Int} (hu : gZ ⟨s', n.funs, vars⟩ 0 n.items = some b) : b5 s n = .inr b := by
 have ho' : (n.outs.all λ o => (n.items.flatMap bH).contains o) = true := ho; rw [b5, if_pos h, hi]; simp only; rw [if_pos ho', hu]
theorem zR {s s' : bc} {n : aY} {vars : List Tx} (h : dQ s n = true) (hi : eJ 0 s n.ins n.items = .inl (s', vars)) (ho : (n.outs.all (n.items.flatMap bH).contains) = true) (hu : gZ ⟨s', n.funs, vars⟩ 0 n.items = none) : b5 s n = .inl { s' with nodes := s'.nodes ++ [(n.name, n)] } := by
 have ho' : (n.outs.all λ o => (n.items.flatMap bH).contains o) = true := ho; rw [b5, if_pos h, hi]; simp only; rw [if_pos ho', hu]
theorem ow (b : Int) (s : bc) (vars : List Tx) (i : a8) (r : List a8) : eJ b s vars (i :: r) = if dD s vars i = true then eJ (b + 1) (s.addItem i) (vars ++ bH i) r else .inr b := rfl
theorem pA (s : fu) (b : Int) (i : a8) (r : List a8) : gZ s b (i :: r) = if fW s i = true then gZ s (b + 1) r else some b := rfl
theorem qm (n : Int) (l : List Tx) : aG (bu (.int .i64 n) l) = l := dJ _ _
theorem Dp (n : Int) (l : List Tx) : ∀ p ∈ bu (.int .i64 n) l, ShI p.2 := by
 intro p hp; obtain ⟨_, _, rfl⟩ := List.mem_map.1 hp; exact ⟨n, rfl⟩
theorem IU {l m : List (Tx × Value)} (h1 : ∀ p ∈ l, ShI p.2) (h2 : ∀ p ∈ m, ShI p.2) : ∀ p ∈ l ++ m, ShI p.2 := by
 intro p hp; rcases List.mem_append.1 hp with hp | hp
 . exact h1 p hp
 . exact h2 p hp
theorem um.ins (l : List Tx) : um (bu (.int .i64 (-1)) l) [] := by
 refine ⟨λ p hp => ?_, λ o ho => absurd ho (List.not_mem_nil)⟩; obtain ⟨_, _, rfl⟩ := List.mem_map.1 hp; exact ⟨-1, rfl, by simp⟩
theorem um.snoc {l : List (Tx × Value)} {D names : List Tx} (h : um l D) {b : Int} (hb : 0 <= b) (hn : ((aG l) ++ names).Nodup) : um (l ++ bu (.int .i64 b) names) (D ++ names) := by
 refine ⟨λ p hp => ?_, λ o ho => ?_⟩
 . rcases List.mem_append.1 hp with hp | hp
   . obtain ⟨n, h1, h2⟩ := h.1 p hp; refine ⟨n, h1, h2.trans ?_⟩; rw [List.mem_append, not_or]; refine ⟨λ h => ⟨h, λ hm => ?_⟩, λ h => h.1⟩; exact (List.nodup_append.1 hn).2.2 p.1 (List.mem_map_of_mem hp) p.1 hm rfl
   . obtain ⟨s, hs, rfl⟩ := List.mem_map.1 hp; refine ⟨b, rfl, ?_⟩; constructor
     . intro e; omega
     . intro e; exact absurd (List.mem_append_right _ hs) e
 . rw [List.map_append, List.mem_append]; rcases List.mem_append.1 ho with ho | ho
   . exact .inl (h.2 o ho)
   . exact .inr (by rw [show (bu (.int .i64 b) names).map Prod.fst = names from dJ _ _]; exact ho)
theorem aP.nodup {w : World} {b : Nat} {l : List (Tx × Value)} (h : aP w b l) : (aG l).Nodup := by
 obtain ⟨_, _, _, _, h, _⟩ := h; exact h
theorem aC.cut {M M' : List Nat} {w V w' : World} (hk : aC M V w') (hb : Below w.heap.size w V) (hM : ∀ x ∈ M, x ∈ M' ∨ w.heap.size <= x) : aC M' w w' := by
 refine ⟨hk.os.trans hb.os, hk.tape.trans hb.tape, hk.output.trans hb.output, Nat.le_trans hb.size hk.size, λ k hlt hm => ?_⟩; have h2 : k ∉ M := λ h => by
  rcases hM k h with h | h
  . exact hm h
  . omega
 exact (hk.block k (Nat.lt_of_lt_of_le hlt hb.size) h2).trans (hb.block k hlt)
def qZ (P e1 c1 n1 t1 : Nat) (s : bc) (n : aY) (w : World) (e : Ending) (w' : World) : Prop :=
 (match b5 s n with
  | .inr b => e = .returned (.tuple #[.int .i64 b, .bool false])
  | .inl s' => e = .returned (.tuple #[.int .i64 0, .bool true]) /\ bb w' P e1 c1 n1 t1 s') /\ aC [n1, t1] w w'
theorem pa {P e1 c1 n1 t1 : Nat} {s : bc} {n : aY} {w w' : World} {b : Int} (h : b5 s n = .inr b) (hk : aC [n1, t1] w w') : qZ P e1 c1 n1 t1 s n w (.returned (.tuple #[.int .i64 b, .bool false])) w' :=
 ⟨by rw [h], hk⟩
theorem DT {P e1 c1 n1 t1 : Nat} {s s' : bc} {n : aY} {w w' : World} (h : b5 s n = .inl s') (hs : bb w' P e1 c1 n1 t1 s') (hk : aC [n1, t1] w w') : qZ P e1 c1 n1 t1 s n w (.returned (.tuple #[.int .i64 0, .bool true])) w' :=
 ⟨by rw [h]; exact ⟨rfl, hs⟩, hk⟩
def jA (w : World) (M : List Nat) : Prop := ∀ b ∈ M, ∃ l, aP w b l
theorem jA.two {w : World} {a b : Nat} {l m : List (Tx × Value)} (h1 : aP w a l) (h2 : aP w b m) : jA w [a, b] := by
 intro x hx; simp only [List.mem_cons, List.not_mem_nil, or_false] at hx; rcases hx with rfl | rfl
 . exact ⟨_, h1⟩
 . exact ⟨_, h2⟩
theorem jA.box {w w' : World} {M : List Nat} (hM : jA w M) (hk : aC M w w') {g : Nat} {cs : Array Value} {T0 : TypeId} (h : w.heap[g]? = some (.cells cs T0 (0, 0))) : w'.heap[g]? = some (.cells cs T0 (0, 0)) :=
 dd hk (λ hg => by obtain ⟨l, hl⟩ := hM g hg; exact hl.notbox h rfl) h
theorem jA.strs {w w' : World} {M : List Nat} (hM : jA w M) (hk : aC M w w') {v : Value} {names : List Tx} (ha : aH w v names) : aH w' v names := by
 obtain ⟨A, c, rfl, h1, h2, h3⟩ := ha; refine ⟨A, c, rfl, h1, h2, λ i x hx => ?_⟩; obtain ⟨L, ⟨a, ea, hc⟩, hR⟩ := h3 i x hx; refine ⟨L, ⟨a, ea, λ j u hu => ?_⟩, hR⟩; have h0 := hc j u hu; rw [hk.cell (World.block_lt_of_cell? w _ h0) (λ hg => by obtain ⟨l, hl⟩ := hM _ hg; exact hl.notcell h0 rfl)]; exact h0
theorem bb.others {w w' : World} {P e c n t : Nat} {s : bc} {M : List Nat} (h : bb w P e c n t s) (hM : jA w M) (hk : aC M w w') (hf : e ∉ M /\ c ∉ M /\ n ∉ M /\ t ∉ M) : bb w' P e c n t s := by
 obtain ⟨h1, h2, h3, h4⟩ := hf; obtain ⟨lc, hc, hr⟩ := h.mc; obtain ⟨ln, hn, hq⟩ := h.mn; exact ⟨hM.box hk h.box, h.me.keptM hk h1, ⟨lc, hc.keptM hk h2, hr.1, λ i a b ha hb => by obtain ⟨s, A, m, j, e, hs⟩ := hr.2 i a b ha hb; exact ⟨s, A, m, j, e, hM.strs hk hs⟩⟩, ⟨ln, hn.keptM hk h3, hq⟩, h.mt.keptM hk h4, h.nd⟩
theorem iG.snoc {l : List (Tx × Value)} {ns : List (Tx × aY)} (h : iG l ns) {s : Tx} {v : Value} {q : aY} (hv : Fx v q) : iG (l ++ bu v [s]) (ns ++ [(s, q)]) := by
 have hlen : l.length = ns.length := (by have := congrArg List.length h.1; simpa [aG] using this); refine ⟨by rw [ep, h.1, List.map_append]; rfl, λ i a b ha hb => ?_⟩; by_cases hi : i < l.length
 . rw [List.getElem?_append_left hi] at ha; rw [List.getElem?_append_left zO] at hb; exact h.2 i a b ha hb
 . rw [List.getElem?_append_right zO] at ha; rw [List.getElem?_append_right zO] at hb; have h1 := List.mem_of_getElem? ha; have h2 := List.mem_of_getElem? hb; obtain ⟨x, _, rfl⟩ := List.mem_map.1 h1; rw [List.mem_singleton] at h2; subst h2; exact hv
def fy (sp : bc) (n : aY) (k : Nat) (s : bc) (lv : List (Tx × Value)) : Prop :=
 eJ 0 sp n.ins n.items = eJ k s (aG lv) (n.items.drop k) /\ s.nodes = sp.nodes /\ (∀ p ∈ lv, ShI p.2) /\ um lv ((n.items.take k).flatMap bH)
theorem fy.zero (sp : bc) (n : aY) : fy sp n 0 sp (bu (.int .i64 (-1)) n.ins) := ⟨by rw [qm]; rfl, rfl, Dp _ _, by simpa using um.ins n.ins⟩
theorem fy.succ {sp s : bc} {n : aY} {k : Nat} {lv : List (Tx × Value)} (h : fy sp n k s lv) {i : a8} (hi : n.items[k]? = some i) (hok : dD s (aG lv) i = true) (hnd : (aG (lv ++ bu (.int .i64 k) (bH i))).Nodup) :
  fy sp n (k + 1) (s.addItem i) (lv ++ bu (.int .i64 k) (bH i)) := by
 obtain ⟨h1, h2, h3, h4⟩ := h; rw [ep, qm] at hnd; refine ⟨?_, h2, IU h3 (Dp _ _), ?_⟩
 . rw [h1, cU hi, ow, if_pos hok, ep, qm]; rfl
 . rw [bo hi, List.flatMap_append]; have := h4.snoc (b := k) zO hnd; simpa using this
theorem fy.no {sp s : bc} {n : aY} {k : Nat} {lv : List (Tx × Value)} (h : fy sp n k s lv) {i : a8} (hi : n.items[k]? = some i) (hok : dD s (aG lv) i = false) : eJ 0 sp n.ins n.items = .inr k := by
 rw [h.1, cU hi, ow, if_neg (by rw [hok]; simp)]
theorem fy.done {sp s : bc} {n : aY} {k : Nat} {lv : List (Tx × Value)} (h : fy sp n k s lv) (hk : k = n.items.length) : eJ 0 sp n.ins n.items = .inl (s, aG lv) /\ um lv (n.items.flatMap bH) := by
 subst hk; obtain ⟨h1, _, _, h4⟩ := h; rw [List.take_length] at h4; exact ⟨by rw [h1, List.drop_length]; rfl, h4⟩
section
variable {P e1 c1 n1 t1 : Nat} {sp : bc}
theorem xg {made : Bool} {w0 : World} {L : List Value} {n : aY} (hL : ch w0 L n) (hfit : Bb made n) {w : World} (hb : Below w0.heap.size w0 w) (hS : bb w P e1 c1 n1 t1 sp) (hn1 : w0.heap.size <= n1) (ht1 : w0.heap.size <= t1) :
  Calls prog 21 #[.pointer (some ⟨P, 0, none⟩), .agg L.toArray] w (qZ P e1 c1 n1 t1 sp n w) := by
 have hmm := @run_makeMap prog; obtain ⟨hf1, hf2, hf3⟩ := hfit; have HF1 := zH hf1; have HF2 := zH hf2; have HF3 := zH hf3; have HB := zH hb; have HS := zH hS; have hsz := hb.size; obtain ⟨fv, iv, ov, xv, rfl, hnl, hfu, hin, hou, hit⟩ := hL; have HNL := zH hnl; have HFU := zH hfu; have HIN := zH hin; have HOU := zH hou; obtain ⟨fA, fk, rfl, q1, q2, q3⟩ := hfu; obtain ⟨iA, ik, rfl, q4, q5, q6⟩ := hin; obtain ⟨oA, ok, rfl, q7, q8, q9⟩ := hou; obtain ⟨xA, xk, rfl, hxc, hxm, hxe⟩ := hit; have HXE := zH hxe; have hxl : n.items.length <= 9223372036854775807 := (by have h : n.items.length <= xk := hxc; unfold maxLen at hxm; omega); clear hf1 hf2 hf3 hb hS hnl hxc hxm hxe q1 q2 q3 q4 q5 q6 q7 q8 q9; go_enter func21, ntmps21
 go_wp2_with fail
 clear hmm; generalize hV : (((w.alloc (.cells #[.string (str n.name), .slice fA n.funs.length fk, .slice iA n.ins.length ik, .slice oA n.outs.length ok, .slice xA n.items.length xk] 36)).alloc (.map #[] 0)).alloc (.map #[] 0)).alloc (.cells #[.pointer (some ⟨P, 0, none⟩), .string (str n.name), .slice fA n.funs.length fk, .slice iA n.ins.length ik, .slice oA n.outs.length ok, .slice xA n.items.length xk, .map (some (w.heap.size + 1)), .map (some (w.heap.size + 1 + 1))] 124) = V; have al : ∀ (W : World) (o : Obj), Below W.heap.size W (W.alloc o) := λ W o => (Below.refl _ W).alloc (Nat.le_refl _) _; have a1 := al w (.cells #[.string (str n.name), .slice fA n.funs.length fk, .slice iA n.ins.length ik, .slice oA n.outs.length ok, .slice xA n.items.length xk] 36); have m2 := aP.made (w.alloc (.cells #[.string (str n.name), .slice fA n.funs.length fk, .slice iA n.ins.length ik, .slice oA n.outs.length ok, .slice xA n.items.length xk] 36)); have m3 := aP.made ((w.alloc (.cells #[.string (str n.name), .slice fA n.funs.length fk, .slice iA n.ins.length ik, .slice oA n.outs.length ok, .slice xA n.items.length xk] 36)).alloc (.map #[] 0)); have m4 := heap_alloc_new (((w.alloc (.cells #[.string (str n.name), .slice fA n.funs.length fk, .slice iA n.ins.length ik, .slice oA n.outs.length ok, .slice xA n.items.length xk] 36)).alloc (.map #[] 0)).alloc (.map #[] 0)) (.cells #[.pointer (some ⟨P, 0, none⟩), .string (str n.name), .slice fA n.funs.length fk, .slice iA n.ins.length ik, .slice oA n.outs.length ok, .slice xA n.items.length xk, .map (some (w.heap.size + 1)), .map (some (w.heap.size + 1 + 1))] 124); have m1 := heap_alloc_new w (.cells #[.string (str n.name), .slice fA n.funs.length fk, .slice iA n.ins.length ik, .slice oA n.outs.length ok, .slice xA n.items.length xk] 36); simp only [World.size_alloc] at m2 m3 m4; have HV := zH (show Below w.heap.size w V by rw [<- hV]; exact ((a1.alloc (by simp) _).alloc (by simp <;> omega) _).alloc (by simp <;> omega) _)
 have H1 := zH (show aP V (w.heap.size + 1) [] by rw [<- hV]; exact (m2.under (al _ _)).under (al _ _)); have H2 := zH (show aP V (w.heap.size + 1 + 1) [] by rw [<- hV]; exact m3.under (al _ _)); have BS := zH (show V.heap[w.heap.size + 1 + 1 + 1]? = some (.cells #[.pointer (some ⟨P, 0, none⟩), .string (str n.name), .slice fA n.funs.length fk, .slice iA n.ins.length ik, .slice oA n.outs.length ok, .slice xA n.items.length xk, .map (some (w.heap.size + 1)), .map (some (w.heap.size + 1 + 1))] 124 (0, 0)) by rw [<- hV]; exact m4); have BN := zH (show V.heap[w.heap.size]? = some (.cells #[.string (str n.name), .slice fA n.funs.length fk, .slice iA n.ins.length ik, .slice oA n.outs.length ok, .slice xA n.items.length xk] 36 (0, 0)) by rw [<- hV]; exact aT (aT (aT m1))); clear hV m1 m2 m3 m4 a1 al; have HSV := zH (HS.o.under HV.o); have hle1 := HS.o.me.lt; have hlc1 : c1 < w.heap.size := (by obtain ⟨_, h, _⟩ := HS.o.mc; exact h.lt); have hln1 : n1 < w.heap.size := (by obtain ⟨_, h, _⟩ := HS.o.mn; exact h.lt); have hlt1 := HS.o.mt.lt; generalize hS0 : w.heap.size + 1 + 1 + 1 = S at *; generalize hv0 : w.heap.size + 1 + 1 = v1 at *; generalize hf0 : w.heap.size + 1 = f1 at *; have hlf : w.heap.size <= f1 := zO; have hlv : w.heap.size <= v1 := zO; have hfv : f1 ≠ v1 := zO; have HFV := zH hfv; have HX1 := zH hS0; have HX2 := zH hv0; have HX3 := zH hf0; have HCUT1 := zH (show ∀ x ∈ [f1, v1], x ∈ [n1, t1] ∨ w.heap.size <= x by intro x hx; simp only [List.mem_cons, List.not_mem_nil, or_false] at hx; rcases hx with rfl | rfl <;> (right; omega))
 have HCUT2 := zH (show ∀ x ∈ [f1, v1, t1, n1], x ∈ [n1, t1] ∨ w.heap.size <= x by
  intro x hx; simp only [List.mem_cons, List.not_mem_nil, or_false] at hx ⊢; rcases hx with rfl | rfl | rfl | rfl
  . right; omega
  . right; omega
  . left; right; rfl
  . left; left; rfl)
 have HNV := zH (show v1 ≠ e1 /\ v1 ≠ c1 /\ v1 ≠ n1 /\ v1 ≠ t1 by omega); have HNF := zH (show f1 ≠ e1 /\ f1 ≠ c1 /\ f1 ≠ n1 /\ f1 ≠ t1 by omega); have HOLD := zH (show e1 ∉ [f1, v1] /\ c1 ∉ [f1, v1] /\ n1 ∉ [f1, v1] /\ t1 ∉ [f1, v1] by simp; omega); have HBV := zH (HB.o.trans (HV.o.mono hsz)); have hv1w : w0.heap.size <= v1 := zO; have hf1w : w0.heap.size <= f1 := zO; clear hS0 hv0 hf0 hfv; cases hhd : dQ sp n
 . have HHD := zH hhd; clear hhd
   go_wp2_with (go_at_call 52
                (with_reducible refine (oH HSV.o BS.o (HFU.o.under HBV.o) (HIN.o.under HBV.o) (HOU.o.under HBV.o) HNL.o H1.o H2.o HFV.o HF1.o HF2.o).mono ?_); rintro e w7 ⟨he, hk, _⟩; rw [HHD.o] at he; subst he; have HK7 := zH (hk.cut HV.o HCUT1.o); clear hk)
   go_ret2
   exact pa (rK HHD.o) HK7.o
 . have HHD := zH hhd; clear hhd
   go_wp2_with (go_at_call 52
                (with_reducible refine (oH HSV.o BS.o (HFU.o.under HBV.o) (HIN.o.under HBV.o) (HOU.o.under HBV.o) HNL.o H1.o H2.o HFV.o HF1.o HF2.o).mono ?_); rintro e V1 ⟨he, hk, hm⟩; rw [HHD.o] at he; subst he; have MI := jA.two H1.o H2.o; have HK1 := zH hk; have HMF1 := zH (hm HHD.o).1; have HMV1 := zH (hm HHD.o).2; have HS1 := zH (HSV.o.others MI hk HOLD.o); have BS1 := zH (MI.box hk BS.o); have BN1 := zH (MI.box hk BN.o); have HB1 := zH (HBV.o.trans (hk.below (B := w0.heap.size) (by intro x hx; simp only [List.mem_cons, List.not_mem_nil, or_false] at hx; rcases hx with rfl | rfl <;> omega) HBV.o.size))
                obtain ⟨nb0, nb1, nb2, nb3, nb4⟩ := aN BN1.o; clear hk hm MI)
   have MI1 := zH (jA.two HS1.o.mt HMV1.o); clear nb0 nb1 nb2 nb3; go_loopg [23] n.items.length (λ g v wr => ∃ (k : Nat) (s : bc) (lv : List (Tx × Value)), k + g = n.items.length /\ v = .int .i64 k /\ fy sp n k s lv /\ bb wr P e1 c1 n1 t1 s /\ aP wr v1 lv /\ aC [t1, v1] V1 wr)
   case atStart => exact ⟨0, sp, _, by omega, rfl, fy.zero sp n, HS1.o, HMV1.o, aC.refl _ _⟩
   case round =>
    obtain ⟨wq, rfl⟩ := zW wr; obtain ⟨k, s, lv, hkg, rfl, hto, hsq, hmq, hkq⟩ := hrel; have HK := zH hkg; have HTO := zH hto; have HSQ := zH hsq; have HMQ := zH hmq; have HKQ := zH hkq; have BSQ := zH (MI1.o.box hkq BS1.o); have BNQ := zH (MI1.o.box hkq BN1.o); have HBQ := zH (HB1.o.trans (hkq.below (B := w0.heap.size) (by intro x hx; simp only [List.mem_cons, List.not_mem_nil, or_false] at hx; rcases hx with rfl | rfl <;> omega) HB1.o.size))
    have hkl : k <= n.items.length := zO; clear hkg hto hsq hmq hkq nb4; by_cases hlt : k < n.items.length
    . obtain ⟨i, hi⟩ := zG hlt; have HI := zH hi; obtain ⟨_, hi2, hi3⟩ := HF3.o i (List.mem_of_getElem? hi); obtain ⟨Li, hEI, hIi⟩ := HXE.o k i hi; have HIT := zH hIi; obtain ⟨A0, n0, k0, o1, s2, o3, A4, n4, k4, A5, n5, k5, A6, n6, k6, rfl⟩ := hIi.shape; obtain ⟨a, ea, ha, haa, d0, d1, d2, d3, d4, d5, d6⟩ := qG (hEI.under HBQ.o); subst ea; have hal := zH (zA wq (.cells #[.slice A0 n0 k0, .int .i64 o1, .string s2, .int .i64 o3, .slice A4 n4 k4, .slice A5 n5 k5, .slice A6 n6 k6] 44)); have HBZ := zH (HBQ.o.trans (hal.o.mono HBQ.o.size)); have HI2 := zH hi2; have HI3 := zH hi3; have BSZ := zH (ab hal.o BSQ.o); have HSZ := zH (HSQ.o.under hal.o); have HMZ := zH (HMQ.o.under hal.o); have HADD := zH (xh HIT.o HI2.o HI3.o HBZ.o HSZ.o ht1 hv1w HNV.o BSZ.o HMZ.o HTO.o.2.2.1 (k : Int)); clear hi hEI hIi hi2 hi3; cases hok : dD s (aG lv) i
      . have HOK := zH hok; clear hok
        go_wp2_with (go_at_call 53
                     (with_reducible refine HADD.o.mono ?_); rintro e w9 ⟨he, hk9, _⟩; rw [HOK.o] at he; subst he; have HK9 := zH (((HKQ.o.mono (M' := [f1, v1, t1, n1]) (by simp)).trans (aC.of_below hal.o)).trans (hk9.mono (by simp))); clear hk9)
        go_ret2
        exact pa (pJ HHD.o (HTO.o.no HI.o HOK.o)) (((HK1.o.mono (by simp)).trans HK9.o).cut HV.o HCUT2.o)
      . have HOK := zH hok; clear hok
        go_wp2_with (go_at_call 53
                     (with_reducible refine HADD.o.mono ?_); rintro e w9 ⟨he, hk9, hs9⟩; rw [HOK.o] at he; subst he; have HK9 := zH ((HKQ.o.trans (aC.of_below hal.o)).trans hk9); have HS9 := zH (hs9 HOK.o); clear hk9 hs9)
        go_roundg (n.items.length - (k + 1))
        case measure => have := HK.o; omega
        case rel => exact ⟨k + 1, _, _, by omega, by go_num, HTO.o.succ HI.o HOK.o HS9.o.2.nodup, HS9.o.1, HS9.o.2, HK9.o⟩
    . have hke : k = n.items.length := by omega
      obtain ⟨hit1, hval⟩ := HTO.o.done hke; have HIT1 := zH hit1; have HVAL := zH hval; have HND := zH HTO.o.2.1; have HMFQ := zH (HMF1.o.keptM HKQ.o (by simp only [List.mem_cons, List.not_mem_nil, or_false, not_or]; exact ⟨HNF.o.2.2.2, HFV.o⟩)); have HSHQ := zH HTO.o.2.2.1; clear hke hit1 hval; have HOUQ := zH (HOU.o.under HBQ.o); have HKV := zH ((HK1.o.mono (M' := [f1, v1, t1, n1]) (by simp)).trans (HKQ.o.mono (by simp))); cases hou : n.outs.all (n.items.flatMap bH).contains
      . have HO := zH hou; clear hou
        go_wp2_with (go_at_call 54
                     (with_reducible refine (jG BSQ.o HMQ.o HVAL.o HOUQ.o).mono ?_); rintro e w9 ⟨he, hb9⟩; rw [HO.o] at he; subst he; have HK9 := zH (HKV.o.trans (aC.of_below hb9)); clear hb9)
        go_ret2
        exact pa (rJ HHD.o HIT1.o HO.o) (HK9.o.cut HV.o HCUT2.o)
      . have HO := zH hou; clear hou
        go_wp2_with (go_at_call 54
                     (with_reducible refine (jG BSQ.o HMQ.o HVAL.o HOUQ.o).mono ?_); rintro e V2 ⟨he, hb9⟩; rw [HO.o] at he; subst he; have HK2 := zH (HKV.o.trans (aC.of_below hb9)); have HS2 := zH (HSQ.o.under hb9); have HM2 := zH (HMQ.o.under hb9); have HMF2 := zH (HMFQ.o.under hb9); have BS2 := zH (ab hb9 BSQ.o); have BN2 := zH (ab hb9 BNQ.o); have HB2 := zH (HBQ.o.trans (hb9.mono HBQ.o.size)); obtain ⟨nb0, nb1, nb2, nb3, nb4⟩ := aN BN2.o; clear hb9)
        have HNS := zH (show dX V2 S P e1 c1 n1 t1 f1 v1 (.string (str n.name), .slice fA n.funs.length fk, .slice iA n.ins.length ik, .slice oA n.outs.length ok, .slice xA n.items.length xk) ⟨s, n.funs, aG lv⟩ from
         ⟨HS2.o, BS2.o, HMF2.o, ⟨lv, HM2.o, rfl, HSHQ.o⟩, HNF.o, ⟨HNV.o.1, HNV.o.2.1, HNV.o.2.2.1, HNV.o.2.2.2, λ e => HFV.o e.symm⟩⟩)
        generalize hns : (⟨s, n.funs, aG lv⟩ : fu) = nsc at HNS; have HNSC := zH hns; clear hns nb0 nb1 nb2 nb3; go_loopg [41] n.items.length (λ g v wr => ∃ j : Nat, j + g = n.items.length /\ v = .int .i64 j /\ gZ nsc 0 n.items = gZ nsc j (n.items.drop j) /\ Below V2.heap.size V2 wr)
        case atStart => exact ⟨0, by omega, rfl, rfl, Below.refl _ _⟩
        case round =>
         obtain ⟨wz, rfl⟩ := zW wr; obtain ⟨j, hjg, rfl, hus, hbw⟩ := hrel; have HJ := zH hjg; have HUS := zH hus; have HWZ := zH hbw; have HBW := zH (HB2.o.trans (hbw.mono HB2.o.size)); have hjl : j <= n.items.length := zO; clear hjg hus hbw nb4; by_cases hlt2 : j < n.items.length
         . obtain ⟨i, hi⟩ := zG hlt2; have HDR := zH (cU hi); obtain ⟨hi1, _⟩ := HF3.o i (List.mem_of_getElem? hi); have HI1 := zH hi1; obtain ⟨Li, hEI, hIi⟩ := HXE.o j i hi; have HIT := zH (hIi.under HB2.o); obtain ⟨A0, n0, k0, o1, s2, o3, A4, n4, k4, A5, n5, k5, A6, n6, k6, rfl⟩ := hIi.shape; obtain ⟨a, ea, ha, haa, d0, d1, d2, d3, d4, d5, d6⟩ := qG (hEI.under HBW.o); subst ea; have hal := zH (zA wz (.cells #[.slice A0 n0 k0, .int .i64 o1, .string s2, .int .i64 o3, .slice A4 n4 k4, .slice A5 n5 k5, .slice A6 n6 k6] 44)); have HUZ := zH (HWZ.o.trans (hal.o.mono HWZ.o.size)); have HUSE := zH (C4 HNS.o HIT.o HI1.o _ HUZ.o); clear hi hEI hIi hi1; cases hok : fW nsc i
           . have HOK := zH hok; have HNO := zH (show gZ ⟨s, n.funs, aG lv⟩ 0 n.items = some (j : Int) by rw [HNSC.o, HUS.o, HDR.o, pA, if_neg (by rw [hok]; simp)]); clear hok
             go_wp2_with (go_at_call 55
                          (with_reducible refine HUSE.o.mono ?_); rintro e w9 ⟨he, hb9⟩; rw [HOK.o] at he; subst he; have HK9 := zH ((HK2.o.trans (aC.of_below HUZ.o)).trans (aC.of_below hb9)); clear hb9)
             go_ret2
             exact pa (rI HHD.o HIT1.o HO.o HNO.o) (HK9.o.cut HV.o HCUT2.o)
           . have HOK := zH hok; have HNX := zH (show gZ nsc 0 n.items = gZ nsc (j + 1 : Nat) (n.items.drop (j + 1)) by rw [HUS.o, HDR.o, pA, if_pos hok]; rfl); clear hok
             go_wp2_with (go_at_call 55
                          (with_reducible refine HUSE.o.mono ?_); rintro e w9 ⟨he, hb9⟩; rw [HOK.o] at he; subst he; have HB9 := zH (HUZ.o.trans (hb9.mono HUZ.o.size)); clear hb9)
             go_roundg (n.items.length - (j + 1))
             case measure => have := HJ.o; omega
             case rel => exact ⟨j + 1, by omega, by go_num, HNX.o, HB9.o⟩
         . have hje : j = n.items.length := by omega
           have HNO := zH (show gZ ⟨s, n.funs, aG lv⟩ 0 n.items = none by rw [HNSC.o, HUS.o, hje, List.drop_length]; rfl); have HSW := zH (HS2.o.under HWZ.o); have BNW := zH (ab HWZ.o BN2.o); obtain ⟨_, _, x2, _⟩ := HSW.o.row; obtain ⟨nb0, nb1, nb2, nb3, nb4⟩ := aN BNW.o; have hPl := ak HSW.o.box; have hNl := ak BNW.o; obtain ⟨ln, hmn, hrn⟩ := HSW.o.mn; have HMN := zH hmn; have HRN := zH hrn
           have HROK := zH (show bg (aG ln) [n.name] = true by
            have h1 := HHD.o; rw [dQ, Bool.and_eq_true] at h1; have h2 : aG ln = sp.nodeKeys := (by rw [hrn.1, HND.o]; rfl); rw [du, h2, h1.1]; rfl)
           clear hje hmn hrn; go_wp2_with fail
           refine wp_region_held_drew (S := (λ W => W.cell? ⟨P, 2, none⟩ = some (.map (some n1)) /\ W.cell? ⟨w.heap.size, 0, none⟩ = some (.string (str n.name)) /\ W.cell? ⟨w.heap.size, 1, none⟩ = some (.slice fA n.funs.length fk) /\ W.cell? ⟨w.heap.size, 2, none⟩ = some (.slice iA n.ins.length ik) /\ W.cell? ⟨w.heap.size, 3, none⟩ = some (.slice oA n.outs.length ok) /\ W.cell? ⟨w.heap.size, 4, none⟩ = some (.slice xA n.items.length xk))) zK ?_ (λ hHeld => ?_)
           . (try dsimp only); go_keep
           refine aa 0 ?_; refine aa 1 ?_; refine aa 2 ?_; refine aa 3 ?_; refine aa 4 ?_; refine aa 5 ?_; refine aa 6 ?_; refine ay 7 zK rfl (λ K hK => ?_); go_simp
           refine hK.out _ _ ?_ (λ hHeld => ?_)
           . (try dsimp only); go_keep
           clear hK K; try simp only [Act.put, aK, aI, aJ]
           have B1 := zH (zA wz (.cells #[.string (str n.name)] 9)).drew; have NX := zH (show (wz.alloc (.cells #[.string (str n.name)] 9)).drew.heap[wz.heap.size]? = some (.cells #[.string (str n.name)] 9 (0, 0)) from heap_alloc_new wz (.cells #[.string (str n.name)] 9)); generalize (wz.alloc (.cells #[.string (str n.name)] 9)).drew = Y at *; refine ay 8 zK rfl (λ K hK => ?_); go_simp
           (go_at_call 56
            (with_reducible refine (uV (HMN.o.under B1.o) HRN.o.sh (pG NX.o HNL.o)).mono ?_); rintro e V9 ⟨he, hk9, hm9⟩; rw [HROK.o] at he; subst he; have HK9 := zH (((HK2.o.trans (aC.of_below HWZ.o)).trans (aC.of_below B1.o)).trans (hk9.mono (by simp))); have HS9 := zH ((HSW.o.under B1.o).putN (HMN.o.under B1.o) hk9 (hm9 HROK.o) (HRN.o.snoc ⟨_, fA, fk, iA, ik, oA, ok, xA, _, xk, rfl⟩)); obtain ⟨_, _, x2, _⟩ := HS9.o.row; obtain ⟨nb0, nb1, nb2, nb3, nb4⟩ := aN (fp (HMN.o.under B1.o) hk9 (ab B1.o BNW.o)); clear hk9 hm9)
           refine hK.out _ _ ?_ (λ hHeld => ?_)
           . (try dsimp only); go_keep
           clear hK K; try simp only [Act.put, aK, aI, aJ]
           refine wpAnyH_done zK ?_ _; go_wp2_with fail
           go_ret2
           exact DT (zR HHD.o HIT1.o HO.o HNO.o) HS9.o (HK9.o.cut HV.o HCUT2.o)
end
def sU (f : Int × Int × Int) (w : World) (e : Ending) (w' : World) : Prop := e = .returned (.agg #[.int .i64 f.1, .int .i64 f.2.1, .int .i64 f.2.2]) /\ Below w.heap.size w w'
theorem lP : (prog.info? 29).map (·.size) = some 3 := by kernel_rfl
theorem rm {tmps : Array Value} {w : World} {N : Nat} {x0 x1 x2 : Value} (hp : tmps.getD 4 undef = .pointer (some ⟨N, 0, none⟩)) (hg : w.heap[N]? = some (.cells #[x0, x1, x2] 29 (0, 0))) :
  (results f20 tmps).run prog w = .ok (.agg #[x0, x1, x2]) w :=
 results_cell_row results20 tmps w N 29 _ (0, 0) _ hp hg underlying29 rfl lP
theorem fT {tmps : Array Value} {w : World} {N : Nat} {x0 x1 x2 : Value} (hp : tmps.getD 4 undef = .pointer (some ⟨N, 0, none⟩)) (hg : w.heap[N]? = some (.cells #[x0, x1, x2] 29 (0, 0))) :
  (results f9 tmps).run prog w = .ok (.agg #[x0, x1, x2]) w :=
 results_cell_row results9 tmps w N 29 _ (0, 0) _ hp hg underlying29 rfl lP
theorem jP {w : World} {N : Nat} {T0 : TypeId} {a b c : Value} (x y z : Value) (h : w.heap[N]? = some (.cells #[a, b, c] T0 (0, 0))) : (((w.setCell ⟨N, 0, none⟩ x).setCell ⟨N, 1, none⟩ y).setCell ⟨N, 2, none⟩ z).heap[N]? = some (.cells #[x, y, z] T0 (0, 0)) := by
 have h1 := heap_setCell_same w N 0 _ _ x h; have h2 := heap_setCell_same _ N 1 _ _ y h1; have h3 := heap_setCell_same _ N 2 _ _ z h2; simpa using h3
theorem cQ {w : World} {N : Nat} {cs : Array Value} {T0 : TypeId} (h : w.heap[N]? = some (.cells cs T0 (0, 0))) (j : Nat) : w.frozen? ⟨N, j, none⟩ = false := by simp [World.frozen?, h]
theorem gX {B : Nat} {a w : World} {N : Nat} (h : Below B a w) (hN : B <= N) (x y z : Value) : Below B a (((w.setCell ⟨N, 0, none⟩ x).setCell ⟨N, 1, none⟩ y).setCell ⟨N, 2, none⟩ z) := ((h.setCell hN x).setCell hN y).setCell hN z
theorem sz (a b : Int) (w : World) : Calls prog 20 #[.int .i64 a, .int .i64 b] w (sU (4, a, b) w) := by
 go_enter func20, ntmps20
 go_wp2_with fail
 exact bodyPost_ret (rm rfl (heap_alloc_new w _)) rfl ⟨rfl, (Below.refl _ w).alloc (Nat.le_refl _) _⟩
theorem En {X : Type} {f : X -> List Tx} {c : Nat} (l : List X) (h : ∀ x ∈ l, (f x).length <= c) : (l.flatMap f).length <= l.length * c := by
 induction l with
 | nil => simp
 | cons x r ih =>
   have h1 := h x (by simp); have h2 := ih (λ y hy => h y (by simp [hy])); rw [List.flatMap_cons, List.length_append, List.length_cons, Nat.add_mul, Nat.one_mul]; omega
theorem fr {X : Type} {l : List X} {a b : Nat} {f : X -> Bool} (h : gk l a b f = true) : a <= l.length /\ l.length <= b /\ ∀ x ∈ l, f x = true := by
 unfold gk at h; rw [Bool.and_eq_true, Bool.and_eq_true, decide_eq_true_eq, decide_eq_true_eq, List.all_eq_true] at h; exact ⟨h.1.1, h.1.2, h.2⟩
theorem Ed {made : Bool} {i : a8} (h : cK made i = true) : (bH i).length <= 144 /\ i.states.length <= 8 := by
 obtain ⟨⟨nm, e⟩, sts⟩ := i; unfold cK at h; by_cases h0 : sts = []
 . subst h0; rw [if_pos rfl] at h; unfold fi at h; rw [Bool.and_eq_true] at h; have := fr h.1; have h2 : nm.length <= 6 := this.2.1; exact ⟨by show nm.length <= 144; omega, by simp⟩
 . rw [if_neg h0, Bool.and_eq_true, Bool.and_eq_true] at h; obtain ⟨_, _, h3⟩ := h; obtain ⟨_, h4, h5⟩ := fr h3; refine ⟨?_, h4⟩; cases sts with
   | nil => exact absurd rfl h0
   | cons z r =>
     have h6 := h5 z (by simp); unfold dM at h6; rw [Bool.and_eq_true, Bool.and_eq_true] at h6; obtain ⟨_, h7, h8⟩ := fr h6.2.1; show (z.eqs.flatMap QEq.names).length <= 144
     have := En (f := QEq.names) (c := 6) z.eqs (λ q hq => by
      have := h8 q hq; unfold fi at this; rw [Bool.and_eq_true] at this; exact (fr this.1).2.1)
     omega
theorem DU {made : Bool} {n : aY} (h : e8 made n = true) : Bb made n := by
 unfold e8 at h; simp only [Bool.and_eq_true] at h; obtain ⟨_, h1, h2, h3, h4⟩ := h; have a1 := (fr h1).2.1; have a2 := (fr h2).2.1; have a3 := (fr h3).2.1; refine ⟨by rw [List.length_append]; omega, by omega, λ i hi => ?_⟩; have h5 := (fr h4).2.2 i hi; have h6 := Ed h5; exact ⟨h5, by omega, by omega⟩
theorem uR {made : Bool} {p : cZ} (h : dg made p = 0) : lD made p = true /\ p.nodes.any ji = false := by
 unfold dg at h; split at h
 . rename_i h1; split at h
   . omega
   . rename_i h2; exact ⟨h1, by simpa using h2⟩
 . omega
theorem uQ {made : Bool} {p : cZ} (h : dg made p = 0) : ∀ n ∈ p.nodes, e8 made n = true := by
 have h1 := (uR h).1; unfold lD at h1; rw [Bool.and_eq_true] at h1; exact (fr h1.2).2.2
theorem oB (k : Int) (s : bc) (e : dw) (r : List dw) : fo k s (e :: r) = if iC s e = true then fo (k + 1) (s.addEnum e) r else .inr k := rfl
theorem nJ {k : Int} {s : bc} {n : aY} {r : List aY} {b : Int} (h : b5 s n = .inr b) : eH k s (n :: r) = (4, k, b) := by rw [eH, h]
theorem lH {k : Int} {s s' : bc} {n : aY} {r : List aY} (h : b5 s n = .inl s') : eH k s (n :: r) = eH (k + 1) s' r := by rw [eH, h]
theorem sM {made : Bool} {p : cZ} (h : dg made p ≠ 0) : br made p = (dg made p, 0, 0) := by rw [br, if_neg h]
theorem qN {made : Bool} {p : cZ} (h : dg made p = 0) {i : Int} (he : fo 0 .new p.enums = .inr i) : br made p = (4, -1, i) := by rw [br, if_pos h, he]
theorem oD {made : Bool} {p : cZ} (h : dg made p = 0) {s : bc} (he : fo 0 .new p.enums = .inl s) : br made p = eH 0 s p.nodes := by rw [br, if_pos h, he]
theorem Cz {w0 : World} {L : List Value} {p : cZ} (made : Bool) (hL : ew w0 L p) (hq : ∀ x ∈ p.nodes, (fc x).length <= 1048576) :
  ∀ w, Below w0.heap.size w0 w -> Calls prog 9 #[.agg L.toArray, .bool made] w (sU (br made p) w) := by
 intro w hb; have HRI := zH (nD made hL hq); have HB := zH hb; have hsz := hb.size; obtain ⟨ev, nv, rfl, he, hn⟩ := hL; obtain ⟨E, ek, rfl, hec, hem, hee⟩ := he; obtain ⟨C, ck, rfl, hcc, hmc, hce⟩ := hn; have hel : p.enums.length <= 9223372036854775807 := (by have h : p.enums.length <= ek := hec; unfold maxLen at hem; omega); have hnl : p.nodes.length <= 9223372036854775807 := (by have h : p.nodes.length <= ck := hcc; unfold maxLen at hmc; omega); have HEE := zH hee; have HCE := zH hce; clear hb hec hem hee hcc hmc hce hq; by_cases h0 : dg made p = 0
 . have H0 := zH h0; rw [h0] at HRI; clear h0; go_enter func9, ntmps9
   go_wp2_with fail
   have a1 := zH (zA w (.cells #[.slice E p.enums.length ek, .slice C p.nodes.length ck] 25)); have HV := zH (a1.o.alloc a1.o.size (.cells #[.int .i64 0, .int .i64 0, .int .i64 0] 29)); have BF := zH (show ((w.alloc (.cells #[.slice E p.enums.length ek, .slice C p.nodes.length ck] 25)).alloc (.cells #[.int .i64 0, .int .i64 0, .int .i64 0] 29)).heap[w.heap.size + 1]? = some (.cells #[.int .i64 0, .int .i64 0, .int .i64 0] 29 (0, 0)) from aF (by simp)); have BP := zH (show ((w.alloc (.cells #[.slice E p.enums.length ek, .slice C p.nodes.length ck] 25)).alloc (.cells #[.int .i64 0, .int .i64 0, .int .i64 0] 29)).heap[w.heap.size]? = some (.cells #[.slice E p.enums.length ek, .slice C p.nodes.length ck] 25 (0, 0)) from aT (heap_alloc_new w _)); generalize (w.alloc (.cells #[.slice E p.enums.length ek, .slice C p.nodes.length ck] 25)).alloc (.cells #[.int .i64 0, .int .i64 0, .int .i64 0] 29) = V at *
   go_wp2_with (first
    | (go_at_call 11; (with_reducible refine (HRI.o _ (HB.o.trans (HV.o.mono hsz))).mono ?_); rintro e V1 ⟨rfl, hb7⟩; have HB7 := zH (HV.o.trans (hb7.mono HV.o.size)); have BF7 := zH (ab hb7 BF.o); have BP7 := zH (ab hb7 BP.o); clear hb7)
    | (go_at_call 18; (with_reducible refine (tF _).mono ?_); rintro e V2 ⟨P, e1, c1, n1, t1, rfl, hs8, hb8, le1, lc1, ln1, lt1, _⟩; have HS8 := zH hs8; have HB8 := zH hb8; have BF8 := zH (ab hb8 BF7.o); have BP8 := zH (ab hb8 BP7.o); obtain ⟨p0, p1⟩ := bG BP8.o; clear hb8 hs8))
   have hs17 := HB7.o.size; have hszF := ak BF7.o; have HBW := zH (HB.o.trans (HB7.o.mono hsz)); have hszW := HBW.o.size; clear p0 p1; go_loopg [24] p.enums.length (λ g v wr => ∃ (k : Nat) (s : bc), k + g = p.enums.length /\ v = .int .i64 k /\ fo 0 .new p.enums = fo k s (p.enums.drop k) /\ bb wr P e1 c1 n1 t1 s /\ Below V1.heap.size V1 wr)
   case atStart => exact ⟨0, _, by omega, rfl, rfl, HS8.o, HB8.o⟩
   case round =>
    obtain ⟨wq, rfl⟩ := zW wr; obtain ⟨k, s, hkg, rfl, hto, hsq, hbq⟩ := hrel; have HK := zH hkg; have HTO := zH hto; have HSQ := zH hsq; have HBQ := zH hbq; have HQ0 := zH (HBW.o.trans (hbq.mono hszW)); have BFQ := zH (ab hbq BF7.o); have BPQ := zH (ab hbq BP7.o); have hkl : k <= p.enums.length := zO; clear hkg hto hsq hbq; by_cases hlt : k < p.enums.length
    . obtain ⟨q, hq⟩ := zG hlt; have HDR := zH (cU hq); obtain ⟨Lq, hEq, hRq⟩ := HEE.o k q hq; have HEQ := zH hRq; obtain ⟨s0, A1, m1, k1, rfl⟩ := hRq.shape; obtain ⟨a, ea, ha, haa, d0, d1⟩ := mT (hEq.under HQ0.o); subst ea; have hal := zH (zA wq (.cells #[.string s0, .slice A1 m1 k1] 46)); have HADD := zH (xi HEQ.o (HSQ.o.under hal.o) (HQ0.o.trans (hal.o.mono HQ0.o.size))); clear hq hEq hRq; cases hok : iC s q
      . have HOK := zH hok; have HNO := zH (qN (made := made) H0.o (show fo 0 .new p.enums = .inr (k : Int) by rw [HTO.o, HDR.o, oB, if_neg (by rw [hok]; simp)])); clear hok
        go_wp2_with (first
         | (go_at_call 19; (with_reducible refine HADD.o.mono ?_); rintro e V9 ⟨he, hk9, _⟩; rw [HOK.o] at he; subst he; have HB9 := zH ((HBQ.o.trans (hal.o.mono HBQ.o.size)).trans (hk9.below (B := V1.heap.size) (by intro x hx; simp only [List.mem_cons, List.not_mem_nil, or_false] at hx; rcases hx with rfl | rfl <;> omega) (Nat.le_trans HBQ.o.size hal.o.size)))
            clear hk9)
         | (go_at_call 20; (with_reducible refine (sz _ _ _).mono ?_); rintro e V10 ⟨rfl, hb10⟩; have HB10 := zH (HB9.o.trans (hb10.mono HB9.o.size)); have BF10 := zH (ab HB10.o BF7.o); obtain ⟨q0, q1, q2⟩ := eG BF10.o; have g0 := cQ BF10.o 0; have g1 := cQ BF10.o 1; have g2 := cQ BF10.o 2; clear hb10))
        exact bodyPost_ret (fT rfl (jP _ _ _ BF10.o)) rfl ⟨by rw [HNO.o], gX (HB7.o.trans (HB10.o.mono hs17)) zO _ _ _⟩
      . have HOK := zH hok; have HNX := zH (show fo 0 .new p.enums = fo (k + 1 : Nat) (s.addEnum q) (p.enums.drop (k + 1)) by rw [HTO.o, HDR.o, oB, if_pos hok]; rfl); clear hok
        go_wp2_with (go_at_call 19
                     (with_reducible refine HADD.o.mono ?_); rintro e w9 ⟨he, hk9, hs9⟩; rw [HOK.o] at he; subst he; have HB9 := zH ((HBQ.o.trans (hal.o.mono HBQ.o.size)).trans (hk9.below (B := V1.heap.size) (by intro x hx; simp only [List.mem_cons, List.not_mem_nil, or_false] at hx; rcases hx with rfl | rfl <;> omega) (Nat.le_trans HBQ.o.size hal.o.size)))
                     have HS9 := zH (hs9 HOK.o); clear hk9 hs9)
        go_roundg (p.enums.length - (k + 1))
        case measure => have := HK.o; omega
        case rel => exact ⟨k + 1, _, by omega, by go_num, HNX.o, HS9.o, HB9.o⟩
    . have hke : k = p.enums.length := by omega
      have HCN := zH (oD (made := made) H0.o (show fo 0 .new p.enums = .inl s by rw [HTO.o, hke, List.drop_length]; rfl)); obtain ⟨p0, p1⟩ := bG BPQ.o; clear hke; go_wp2_with fail
      clear p0 p1; go_loopg [39] p.nodes.length (λ g v wr => ∃ (j : Nat) (sj : bc), j + g = p.nodes.length /\ v = .int .i64 j /\ eH 0 s p.nodes = eH j sj (p.nodes.drop j) /\ bb wr P e1 c1 n1 t1 sj /\ Below V1.heap.size V1 wr)
      case atStart => exact ⟨0, _, by omega, rfl, rfl, HSQ.o, HBQ.o⟩
      case round =>
       obtain ⟨wz, rfl⟩ := zW wr; obtain ⟨j, sj, hjg, rfl, htz, hsz', hbz⟩ := hrel; have HJ := zH hjg; have HTZ := zH htz; have HSZ := zH hsz'; have HBZ := zH hbz; have HZ0 := zH (HBW.o.trans (hbz.mono hszW)); have BFZ := zH (ab hbz BF7.o); have hjl : j <= p.nodes.length := zO; clear hjg htz hsz' hbz; by_cases hlt2 : j < p.nodes.length
       . obtain ⟨n, hn⟩ := zG hlt2; have HDR := zH (cU hn); have HFIT := zH (DU (uQ H0.o n (List.mem_of_getElem? hn))); obtain ⟨Ln, hEn, hRn⟩ := HCE.o j n hn; have HNA := zH hRn; obtain ⟨s0, A1, m1, k1, A2, m2, k2, A3, m3, k3, A4, m4, k4, rfl⟩ := hRn.shape; obtain ⟨a, ea, ha, haa, d0, d1, d2, d3, d4⟩ := fB (hEn.under HZ0.o); subst ea; have hal := zH (zA wz (.cells #[.string s0, .slice A1 m1 k1, .slice A2 m2 k2, .slice A3 m3 k3, .slice A4 m4 k4] 36)); have HADD := zH (xg HNA.o HFIT.o (HZ0.o.trans (hal.o.mono HZ0.o.size)) (HSZ.o.under hal.o) (Nat.le_trans hszW ln1) (Nat.le_trans hszW lt1)); clear hn hEn hRn; cases hst : b5 sj n with
         | inr b =>
           have HST := zH hst; have HNO := zH (show br made p = (4, (j : Int), b) by rw [HCN.o, HTZ.o, HDR.o, nJ hst]); clear hst
           go_wp2_with (first
            | (go_at_call 21; (with_reducible refine HADD.o.mono ?_); rintro e V9 ⟨he, hk9⟩; rw [HST.o] at he; replace he : e = .returned (.tuple #[.int .i64 b, .bool false]) := he; subst he; have HB9 := zH ((HBZ.o.trans (hal.o.mono HBZ.o.size)).trans (hk9.below (B := V1.heap.size) (by intro x hx; simp only [List.mem_cons, List.not_mem_nil, or_false] at hx; rcases hx with rfl | rfl <;> omega) (Nat.le_trans HBZ.o.size hal.o.size)))
               clear hk9)
            | (go_at_call 20; (with_reducible refine (sz _ _ _).mono ?_); rintro e V10 ⟨rfl, hb10⟩; have HB10 := zH (HB9.o.trans (hb10.mono HB9.o.size)); have BF10 := zH (ab HB10.o BF7.o); obtain ⟨q0, q1, q2⟩ := eG BF10.o; have g0 := cQ BF10.o 0; have g1 := cQ BF10.o 1; have g2 := cQ BF10.o 2; clear hb10))
           exact bodyPost_ret (fT rfl (jP _ _ _ BF10.o)) rfl ⟨by rw [HNO.o], gX (HB7.o.trans (HB10.o.mono hs17)) zO _ _ _⟩
         | inl s2 =>
           have HST := zH hst; have HNX := zH (show eH 0 s p.nodes = eH (j + 1 : Nat) s2 (p.nodes.drop (j + 1)) by rw [HTZ.o, HDR.o, lH hst]; rfl); clear hst
           go_wp2_with (go_at_call 21
                        (with_reducible refine HADD.o.mono ?_); rintro e w9 ⟨he, hk9⟩; rw [HST.o] at he; obtain ⟨he, hs9⟩ : e = .returned (.tuple #[.int .i64 0, .bool true]) /\ bb w9 P e1 c1 n1 t1 s2 := he; subst he; have HB9 := zH ((HBZ.o.trans (hal.o.mono HBZ.o.size)).trans (hk9.below (B := V1.heap.size) (by intro x hx; simp only [List.mem_cons, List.not_mem_nil, or_false] at hx; rcases hx with rfl | rfl <;> omega) (Nat.le_trans HBZ.o.size hal.o.size)))
                        have HS9 := zH hs9; clear hk9 hs9)
           go_roundg (p.nodes.length - (j + 1))
           case measure => have := HJ.o; omega
           case rel => exact ⟨j + 1, _, by omega, by go_num, HNX.o, HS9.o, HB9.o⟩
       . have hje : j = p.nodes.length := by omega
         have HY := zH (show br made p = (0, 0, 0) by rw [HCN.o, HTZ.o, hje, List.drop_length]; rfl); obtain ⟨q0, q1, q2⟩ := eG BFZ.o; have g0 := cQ BFZ.o 0; have g1 := cQ BFZ.o 1; have g2 := cQ BFZ.o 2; clear hje; go_wp2_with fail
         exact bodyPost_ret (fT rfl (jP _ _ _ BFZ.o)) rfl ⟨by rw [HY.o], gX (HB7.o.trans (HBZ.o.mono hs17)) zO _ _ _⟩
 . have H0 := zH (sM h0); have hd : (dg made p != 0) = true := (by simp [h0]); generalize dg made p = r at *; clear h0; go_enter func9, ntmps9
   go_wp2_with fail
   have a1 := zH (zA w (.cells #[.slice E p.enums.length ek, .slice C p.nodes.length ck] 25)); have HV := zH (a1.o.alloc a1.o.size (.cells #[.int .i64 0, .int .i64 0, .int .i64 0] 29)); have BF := zH (show ((w.alloc (.cells #[.slice E p.enums.length ek, .slice C p.nodes.length ck] 25)).alloc (.cells #[.int .i64 0, .int .i64 0, .int .i64 0] 29)).heap[w.heap.size + 1]? = some (.cells #[.int .i64 0, .int .i64 0, .int .i64 0] 29 (0, 0)) from aF (by simp)); generalize (w.alloc (.cells #[.slice E p.enums.length ek, .slice C p.nodes.length ck] 25)).alloc (.cells #[.int .i64 0, .int .i64 0, .int .i64 0] 29) = V at *
   go_wp2_with (go_at_call 11
                (with_reducible refine (HRI.o _ (HB.o.trans (HV.o.mono hsz))).mono ?_); rintro e V1 ⟨rfl, hb7⟩; have HB7 := zH (HV.o.trans (hb7.mono HV.o.size)); have BF7 := zH (ab hb7 BF.o); obtain ⟨q0, q1, q2⟩ := eG BF7.o; have g0 := cQ BF7.o 0; have g1 := cQ BF7.o 1; have g2 := cQ BF7.o 2; clear hb7)
   exact bodyPost_ret (fT rfl (jP _ _ _ BF7.o)) rfl ⟨by rw [H0.o], gX HB7.o zO _ _ _⟩
end Go.Proofs.YtkfacdofkfabnaaGreatDoor
