import Derived.Test.YtdcjlihaldhhjaaGreatDoorKm38
import Derived.Test.YtdcjlihaldhhjaaGreatDoorKm39
set_option maxHeartbeats 16000000
set_option maxRecDepth 100000
namespace Go.Proofs.YtdcjlihaldhhjaaGreatDoor
open _root_.Go.Proofs.Tryz
open Go.RowKit
open Go.ChangeMaps Go.MapKept
open Go.Maps
theorem CN : ∀ p ∈ ([] : List (Tx × Value)), ShI p.2 := λ _ hp => absurd hp (List.not_mem_nil)
theorem aL.drew {w : World} {b : Nat} {l : List (Tx × Value)} (h : aL w b l) : aL w.drew b l := h
theorem Aj {a b : List Tx} (h : a5 [] (a ++ b) = true) : a5 [] a = true := by
 rw [yi, Bool.and_eq_true] at h; exact h.1
theorem yg {a b : List Tx} (h : a5 [] (a ++ b) = true) : a5 [] b = true := by
 rw [yh _ _ List.nodup_nil] at h ⊢; rw [List.nil_append] at h ⊢; exact (List.nodup_append.1 h).2.1
theorem fH {W : World} {N : Nat} {T0 : TypeId} {fz : Nat × Nat} {u v : Value} {a b : List Tx} (h : W.heap[N]? = some (.cells #[u, v] T0 fz)) (h1 : aG W u a) (h2 : aG W v b) (hl : (a ++ b).length <= 2097152) :
  Calls prog 106 #[.slice (some ⟨N, 0, none⟩) 2 2] W (ax (a5 [] (a ++ b)) W) := by
 have := lq (w := W) (A := some ⟨N, 0, none⟩) (c := 2) (ls := [a, b]) (kV h ⟨u, rfl, h1⟩ ⟨v, rfl, h2⟩ rfl rfl) (by simpa using hl); simpa using this
theorem ip {W : World} {N : Nat} {T0 : TypeId} {fz : Nat × Nat} {u : Value} {a : List Tx} (h : W.heap[N]? = some (.cells #[u] T0 fz)) (h1 : aG W u a) (hl : a.length <= 2097152) :
  Calls prog 106 #[.slice (some ⟨N, 0, none⟩) 1 1] W (ax (a5 [] a) W) := by
 have := lq (w := W) (A := some ⟨N, 0, none⟩) (c := 1) (ls := [a]) (oE h ⟨u, rfl, h1⟩ rfl) (by simpa using hl); simpa using this
def uv (f1 v1 : Nat) (s : a6) (q : bc) (w : World) (e : Ending) (w' : World) : Prop :=
 e = .returned (.bool (dF s q)) /\ az [f1, v1] w w' /\ (dF s q = true -> aL w' f1 (bb eo q.funs) /\ aL w' v1 (bb (.int .i64 (-1)) q.ins))
theorem nz {f1 v1 : Nat} {s : a6} {q : bc} {w w' : World} (h : dF s q = false) (hk : az [f1, v1] w w') : uv f1 v1 s q w (.returned (.bool false)) w' :=
 ⟨aj h.symm, hk, λ h' => by rw [h] at h'; cases h'⟩
section
variable {S P e1 c1 n1 t1 f1 v1 : Nat} {xA : Option Addr} {xn xk : Nat} {sp : a6}
theorem mL {w : World} {q : bc} {fA iA oA : Option Addr} {fk ik ok : Nat} (hS : aY w P e1 c1 n1 t1 sp)
  (hbox : w.heap[S]? = some (.cells #[.pointer (some ⟨P, 0, none⟩), .string (str q.name), .slice fA q.funs.length fk, .slice iA q.ins.length ik, .slice oA q.outs.length ok, .slice xA xn xk, .map (some f1), .map (some v1)] 120 (0, 0)))
  (hf : aG w (.slice fA q.funs.length fk) q.funs) (hi : aG w (.slice iA q.ins.length ik) q.ins) (ho : aG w (.slice oA q.outs.length ok) q.outs) (hnl : q.name.length <= maxLen)
  (hmf : aL w f1 []) (hmv : aL w v1 []) (hfv : f1 ≠ v1) (hl1 : (q.funs ++ q.ins).length <= 2097152) (hl2 : q.outs.length <= 2097152) :
  Calls prog 55 #[.pointer (some ⟨S, 0, none⟩)] w (uv f1 v1 sp q w) := by
 have hmk : ∀ (fn : Fn) (first cap : Array Value) (w : World), (Instr.makeFunc fn first cap).run prog w = .ok (.func fn first cap) w := λ _ _ _ _ => rfl; have HS := zH hS; have HBOX := zH hbox; have HF0 := zH hf; have HI0 := zH hi; have HO0 := zH ho; have HNL := zH hnl; have HMF0 := zH hmf; have HMV0 := zH hmv; have HFV := zH hfv; have HL1 := zH hl1; have HL2 := zH hl2; have HOK := zH (show dF sp q = (!sp.nodeKeys.contains q.name && (a5 [] (q.funs ++ q.ins) && (a5 [] q.outs && !q.funs.any λ f => f == q.name || sp.nodeKeys.contains f))) from rfl); have hSl := ar hbox; have hPl := ar hS.box; obtain ⟨y0, y1, y2, y3, y4, y5, y6, y7⟩ := fq hbox; clear hS hbox hf hi ho hnl hmf hmv hfv hl1 hl2; go_enter func55, ntmps55
 go_wp2_with fail
 have BN0 := heap_alloc_new w (.cells #[.pointer (some ⟨S, 0, none⟩)] 117); have HVa := zA w (.cells #[.pointer (some ⟨S, 0, none⟩)] 117); have HV := zH (HVa.alloc HVa.size (.cells #[.string (str q.name), .slice fA q.funs.length fk, .slice iA q.ins.length ik, .slice oA q.outs.length ok, .slice xA xn xk] 34)); have BN := zH (aQ (o := .cells #[.string (str q.name), .slice fA q.funs.length fk, .slice iA q.ins.length ik, .slice oA q.outs.length ok, .slice xA xn xk] 34) BN0); have BM := zH (show ((w.alloc (.cells #[.pointer (some ⟨S, 0, none⟩)] 117)).alloc (.cells #[.string (str q.name), .slice fA q.funs.length fk, .slice iA q.ins.length ik, .slice oA q.outs.length ok, .slice xA xn xk] 34)).heap[w.heap.size + 1]? = some (.cells #[.string (str q.name), .slice fA q.funs.length fk, .slice iA q.ins.length ik, .slice oA q.outs.length ok, .slice xA xn xk] 34 (0, 0)) from aB (by simp)); generalize (w.alloc (.cells #[.pointer (some ⟨S, 0, none⟩)] 117)).alloc (.cells #[.string (str q.name), .slice fA q.funs.length fk, .slice iA q.ins.length ik, .slice oA q.outs.length ok, .slice xA xn xk] 34) = V at *; clear HVa BN0; have HSV := zH (HS.o.under HV.o); have HBX := zH (ag HV.o HBOX.o); have HF := zH (HF0.o.under HV.o); have HI := zH (HI0.o.under HV.o); have HO := zH (HO0.o.under HV.o); have HMF := zH (HMF0.o.under HV.o); have HMV := zH (HMV0.o.under HV.o); obtain ⟨ln, hmn, hrn⟩ := HSV.o.mn; have HMN := zH hmn; have HSHN := zH hrn.sh; have HKN := zH (show aC ln = sp.nodeKeys from hrn.1); clear hmn hrn
 have KEEP := zH (show ∀ W, az [f1, v1] V W -> W.cell? ⟨w.heap.size, 0, none⟩ = some (.pointer (some ⟨S, 0, none⟩)) /\ W.cell? ⟨S, 0, none⟩ = some (.pointer (some ⟨P, 0, none⟩)) /\ W.cell? ⟨S, 6, none⟩ = some (.map (some f1)) /\ W.cell? ⟨S, 7, none⟩ = some (.map (some v1)) /\ W.cell? ⟨P, 2, none⟩ = some (.map (some n1)) /\ W.cell? ⟨w.heap.size + 1, 0, none⟩ = some (.string (str q.name)) /\ W.cell? ⟨w.heap.size + 1, 1, none⟩ = some (.slice fA q.funs.length fk) /\ W.cell? ⟨w.heap.size + 1, 2, none⟩ = some (.slice iA q.ins.length ik) /\ W.cell? ⟨w.heap.size + 1, 3, none⟩ = some (.slice oA q.outs.length ok) from λ W hW => by
  have nb : ∀ {g : Nat} {cs : Array Value} {T0 : TypeId}, V.heap[g]? = some (.cells cs T0 (0, 0)) -> g ∉ [f1, v1] := λ h => by
   have h1 := HMF.o.notbox h; have h2 := HMV.o.notbox h; simp [h1, h2]
  have a1 := mO (cK hW (nb BN.o) BN.o); obtain ⟨b0, _, _, _, _, _, b6, b7⟩ := fq (cK hW (nb HBX.o) HBX.o); obtain ⟨_, _, c2, _⟩ := kE (cK hW (nb HSV.o.box) HSV.o.box); obtain ⟨d0, d1, d2, d3, _⟩ := aN (cK hW (nb BM.o) BM.o); exact ⟨a1, b0, b6, b7, c2, d0, d1, d2, d3⟩)
 have HCF := zH (f8 HF.o DO (f := λ f => f == q.name || sp.nodeKeys.contains f) (cap := #[.pointer (some ⟨w.heap.size + 1, 0, none⟩), .pointer (some ⟨w.heap.size, 0, none⟩)]) (λ x _ hx => uB HSV.o HBX.o BN.o BM.o hx)); clear y0 y1 y2 y3 y4 y5 y6 y7; cases ha : sp.nodeKeys.contains q.name
 . have HA := zH ha; rw [ha, Bool.not_false, Bool.true_and] at HOK; clear ha; cases hb1 : a5 [] (q.funs ++ q.ins)
   . have HB1 := zH hb1; have HNO := zH (show dF sp q = false by rw [HOK.o, hb1]; rfl); clear hb1; refine wp_region_held_drew (S := (λ W => W.cell? ⟨w.heap.size, 0, none⟩ = some (.pointer (some ⟨S, 0, none⟩)) /\ W.cell? ⟨S, 0, none⟩ = some (.pointer (some ⟨P, 0, none⟩)) /\ W.cell? ⟨S, 6, none⟩ = some (.map (some f1)) /\ W.cell? ⟨S, 7, none⟩ = some (.map (some v1)) /\ W.cell? ⟨P, 2, none⟩ = some (.map (some n1)) /\ W.cell? ⟨w.heap.size + 1, 0, none⟩ = some (.string (str q.name)) /\ W.cell? ⟨w.heap.size + 1, 1, none⟩ = some (.slice fA q.funs.length fk) /\ W.cell? ⟨w.heap.size + 1, 2, none⟩ = some (.slice iA q.ins.length ik) /\ W.cell? ⟨w.heap.size + 1, 3, none⟩ = some (.slice oA q.outs.length ok))) zK ?_ (λ hHeld => ?_)
     . exact KEEP.o _ (az.of_below (Below.refl _ _).drew)
     refine aa 0 ?_; refine aa 1 ?_; refine aa 2 ?_; refine aa 3 ?_; refine aa 4 ?_; refine aa 5 ?_; refine aa 6 ?_; refine aa 7 ?_; refine aa 8 ?_; refine au 9 zK rfl (λ K hK => ?_); go_simp
     (go_at_call 105
      (with_reducible refine (ec HMN.o.drew HSHN.o HNL.o).mono ?_); rintro e w7 ⟨he, hb7⟩; rw [HKN.o, HA.o] at he; subst he; obtain ⟨V1, rfl⟩ := zW w7; have B1 := zH ((zB V).drew.trans hb7); clear hb7)
     refine hK.out _ _ (KEEP.o _ (az.of_below B1.o)) (λ hHeld => ?_); clear hK K; try simp only [Act.put, aK, aI, aJ]
     refine aa 10 ?_; refine aa 11 ?_; refine aa 12 ?_; refine aa 13 ?_; refine aa 14 ?_; refine aa 15 ?_; refine au 16 zK rfl (λ K hK => ?_); go_simp
     refine hK.out _ _ (KEEP.o _ (az.of_below (B1.o.alloc B1.o.size _))) (λ hHeld => ?_); clear hK K; try simp only [Act.put, aK, aI, aJ]
     have B2 := zH (B1.o.alloc B1.o.size (.cells #[.slice fA q.funs.length fk, .slice iA q.ins.length ik] 22)); have BX2 := zH (heap_alloc_new V1 (.cells #[.slice fA q.funs.length fk, .slice iA q.ins.length ik] 22)); generalize V1.alloc (.cells #[.slice fA q.funs.length fk, .slice iA q.ins.length ik] 22) = V2 at *; refine au 17 zK rfl (λ K hK => ?_); go_simp
     (go_at_call 106
      (with_reducible refine (fH BX2.o (HF.o.under B2.o) (HI.o.under B2.o) HL1.o).mono ?_); rintro e w7 ⟨he, hb7⟩; rw [HB1.o] at he; subst he; obtain ⟨V3, rfl⟩ := zW w7; have B3 := zH (B2.o.trans (hb7.mono B2.o.size)); clear hb7)
     refine hK.out _ _ (KEEP.o _ (az.of_below B3.o)) (λ hHeld => ?_); clear hK K; try simp only [Act.put, aK, aI, aJ]
     refine aa 18 ?_; refine aa 19 ?_; refine ah 20 ?_; refine ah 21 ?_; refine ah 22 ?_; refine ah 23 ?_; refine aa 24 ?_; refine aa 25 ?_; refine ah 26 ?_; refine ah 27 ?_; refine ah 28 ?_; refine ah 29 ?_; refine ah 30 ?_; refine aa 31 ?_; refine aa 32 ?_; refine ah 33 ?_; refine ah 34 ?_; refine ah 35 ?_; refine ah 36 ?_; refine ah 37 ?_; refine ah 38 ?_; refine ah 39 ?_; refine ah 40 ?_; refine aa 41 ?_; refine aa 42 ?_; refine ah 43 ?_; refine ah 44 ?_; refine ah 45 ?_; refine ah 46 ?_; refine ah 47 ?_; refine ah 48 ?_; refine ah 49 ?_; refine aa 50 ?_; refine aa 51 ?_; refine wpAnyH_done zK ?_ _; go_wp2_with fail
     go_ret; exact nz HNO.o ((az.of_below HV.o).trans (az.of_below B3.o))
   . have HB1 := zH hb1; rw [hb1, Bool.true_and] at HOK; have HR1 := zH (Aj hb1); have HR2 := zH (yg hb1); clear hb1; cases hc1 : a5 [] q.outs
     . have HC1 := zH hc1; have HNO := zH (show dF sp q = false by rw [HOK.o, hc1]; rfl); clear hc1; refine wp_region_held_drew (S := (λ W => W.cell? ⟨w.heap.size, 0, none⟩ = some (.pointer (some ⟨S, 0, none⟩)) /\ W.cell? ⟨S, 0, none⟩ = some (.pointer (some ⟨P, 0, none⟩)) /\ W.cell? ⟨S, 6, none⟩ = some (.map (some f1)) /\ W.cell? ⟨S, 7, none⟩ = some (.map (some v1)) /\ W.cell? ⟨P, 2, none⟩ = some (.map (some n1)) /\ W.cell? ⟨w.heap.size + 1, 0, none⟩ = some (.string (str q.name)) /\ W.cell? ⟨w.heap.size + 1, 1, none⟩ = some (.slice fA q.funs.length fk) /\ W.cell? ⟨w.heap.size + 1, 2, none⟩ = some (.slice iA q.ins.length ik) /\ W.cell? ⟨w.heap.size + 1, 3, none⟩ = some (.slice oA q.outs.length ok))) zK ?_ (λ hHeld => ?_)
       . exact KEEP.o _ (az.of_below (Below.refl _ _).drew)
       refine aa 0 ?_; refine aa 1 ?_; refine aa 2 ?_; refine aa 3 ?_; refine aa 4 ?_; refine aa 5 ?_; refine aa 6 ?_; refine aa 7 ?_; refine aa 8 ?_; refine au 9 zK rfl (λ K hK => ?_); go_simp
       (go_at_call 105
        (with_reducible refine (ec HMN.o.drew HSHN.o HNL.o).mono ?_); rintro e w7 ⟨he, hb7⟩; rw [HKN.o, HA.o] at he; subst he; obtain ⟨V1, rfl⟩ := zW w7; have B1 := zH ((zB V).drew.trans hb7); clear hb7)
       refine hK.out _ _ (KEEP.o _ (az.of_below B1.o)) (λ hHeld => ?_); clear hK K; try simp only [Act.put, aK, aI, aJ]
       refine aa 10 ?_; refine aa 11 ?_; refine aa 12 ?_; refine aa 13 ?_; refine aa 14 ?_; refine aa 15 ?_; refine au 16 zK rfl (λ K hK => ?_); go_simp
       refine hK.out _ _ (KEEP.o _ (az.of_below (B1.o.alloc B1.o.size _))) (λ hHeld => ?_); clear hK K; try simp only [Act.put, aK, aI, aJ]
       have B2 := zH (B1.o.alloc B1.o.size (.cells #[.slice fA q.funs.length fk, .slice iA q.ins.length ik] 22)); have BX2 := zH (heap_alloc_new V1 (.cells #[.slice fA q.funs.length fk, .slice iA q.ins.length ik] 22)); generalize V1.alloc (.cells #[.slice fA q.funs.length fk, .slice iA q.ins.length ik] 22) = V2 at *; refine au 17 zK rfl (λ K hK => ?_); go_simp
       (go_at_call 106
        (with_reducible refine (fH BX2.o (HF.o.under B2.o) (HI.o.under B2.o) HL1.o).mono ?_); rintro e w7 ⟨he, hb7⟩; rw [HB1.o] at he; subst he; obtain ⟨V3, rfl⟩ := zW w7; have B3 := zH (B2.o.trans (hb7.mono B2.o.size)); clear hb7)
       refine hK.out _ _ (KEEP.o _ (az.of_below B3.o)) (λ hHeld => ?_); clear hK K; try simp only [Act.put, aK, aI, aJ]
       refine aa 18 ?_; refine aa 19 ?_; refine aa 20 ?_; refine aa 21 ?_; refine au 22 zK rfl (λ K hK => ?_); go_simp
       refine hK.out _ _ (KEEP.o _ (az.of_below (B3.o.alloc B3.o.size _))) (λ hHeld => ?_); clear hK K; try simp only [Act.put, aK, aI, aJ]
       have B4 := zH (B3.o.alloc B3.o.size (.cells #[.slice oA q.outs.length ok] 22)); have BX4 := zH (heap_alloc_new V3 (.cells #[.slice oA q.outs.length ok] 22)); generalize V3.alloc (.cells #[.slice oA q.outs.length ok] 22) = V4 at *; refine au 23 zK rfl (λ K hK => ?_); go_simp
       (go_at_call 106
        (with_reducible refine (ip BX4.o (HO.o.under B4.o) HL2.o).mono ?_); rintro e w7 ⟨he, hb7⟩; rw [HC1.o] at he; subst he; obtain ⟨V5, rfl⟩ := zW w7; have B5 := zH (B4.o.trans (hb7.mono B4.o.size)); clear hb7)
       refine hK.out _ _ (KEEP.o _ (az.of_below B5.o)) (λ hHeld => ?_); clear hK K; try simp only [Act.put, aK, aI, aJ]
       refine aa 24 ?_; refine aa 25 ?_; refine ah 26 ?_; refine ah 27 ?_; refine ah 28 ?_; refine ah 29 ?_; refine ah 30 ?_; refine aa 31 ?_; refine aa 32 ?_; refine ah 33 ?_; refine ah 34 ?_; refine ah 35 ?_; refine ah 36 ?_; refine ah 37 ?_; refine ah 38 ?_; refine ah 39 ?_; refine ah 40 ?_; refine aa 41 ?_; refine aa 42 ?_; refine ah 43 ?_; refine ah 44 ?_; refine ah 45 ?_; refine ah 46 ?_; refine ah 47 ?_; refine ah 48 ?_; refine ah 49 ?_; refine aa 50 ?_; refine aa 51 ?_; refine wpAnyH_done zK ?_ _; go_wp2_with fail
       go_ret; exact nz HNO.o ((az.of_below HV.o).trans (az.of_below B5.o))
     . have HC1 := zH hc1; rw [hc1, Bool.true_and] at HOK; clear hc1; cases hd1 : q.funs.any (λ f => f == q.name || sp.nodeKeys.contains f)
       . have HD1 := zH hd1; have HY := zH (show dF sp q = true by rw [HOK.o, hd1]; rfl); clear hd1; refine wp_region_held_drew (S := (λ W => W.cell? ⟨w.heap.size, 0, none⟩ = some (.pointer (some ⟨S, 0, none⟩)) /\ W.cell? ⟨S, 0, none⟩ = some (.pointer (some ⟨P, 0, none⟩)) /\ W.cell? ⟨S, 6, none⟩ = some (.map (some f1)) /\ W.cell? ⟨S, 7, none⟩ = some (.map (some v1)) /\ W.cell? ⟨P, 2, none⟩ = some (.map (some n1)) /\ W.cell? ⟨w.heap.size + 1, 0, none⟩ = some (.string (str q.name)) /\ W.cell? ⟨w.heap.size + 1, 1, none⟩ = some (.slice fA q.funs.length fk) /\ W.cell? ⟨w.heap.size + 1, 2, none⟩ = some (.slice iA q.ins.length ik) /\ W.cell? ⟨w.heap.size + 1, 3, none⟩ = some (.slice oA q.outs.length ok))) zK ?_ (λ hHeld => ?_)
         . exact KEEP.o _ (az.of_below (Below.refl _ _).drew)
         refine aa 0 ?_; refine aa 1 ?_; refine aa 2 ?_; refine aa 3 ?_; refine aa 4 ?_; refine aa 5 ?_; refine aa 6 ?_; refine aa 7 ?_; refine aa 8 ?_; refine au 9 zK rfl (λ K hK => ?_); go_simp
         (go_at_call 105
          (with_reducible refine (ec HMN.o.drew HSHN.o HNL.o).mono ?_); rintro e w7 ⟨he, hb7⟩; rw [HKN.o, HA.o] at he; subst he; obtain ⟨V1, rfl⟩ := zW w7; have B1 := zH ((zB V).drew.trans hb7); clear hb7)
         refine hK.out _ _ (KEEP.o _ (az.of_below B1.o)) (λ hHeld => ?_); clear hK K; try simp only [Act.put, aK, aI, aJ]
         refine aa 10 ?_; refine aa 11 ?_; refine aa 12 ?_; refine aa 13 ?_; refine aa 14 ?_; refine aa 15 ?_; refine au 16 zK rfl (λ K hK => ?_); go_simp
         refine hK.out _ _ (KEEP.o _ (az.of_below (B1.o.alloc B1.o.size _))) (λ hHeld => ?_); clear hK K; try simp only [Act.put, aK, aI, aJ]
         have B2 := zH (B1.o.alloc B1.o.size (.cells #[.slice fA q.funs.length fk, .slice iA q.ins.length ik] 22)); have BX2 := zH (heap_alloc_new V1 (.cells #[.slice fA q.funs.length fk, .slice iA q.ins.length ik] 22)); generalize V1.alloc (.cells #[.slice fA q.funs.length fk, .slice iA q.ins.length ik] 22) = V2 at *; refine au 17 zK rfl (λ K hK => ?_); go_simp
         (go_at_call 106
          (with_reducible refine (fH BX2.o (HF.o.under B2.o) (HI.o.under B2.o) HL1.o).mono ?_); rintro e w7 ⟨he, hb7⟩; rw [HB1.o] at he; subst he; obtain ⟨V3, rfl⟩ := zW w7; have B3 := zH (B2.o.trans (hb7.mono B2.o.size)); clear hb7)
         refine hK.out _ _ (KEEP.o _ (az.of_below B3.o)) (λ hHeld => ?_); clear hK K; try simp only [Act.put, aK, aI, aJ]
         refine aa 18 ?_; refine aa 19 ?_; refine aa 20 ?_; refine aa 21 ?_; refine au 22 zK rfl (λ K hK => ?_); go_simp
         refine hK.out _ _ (KEEP.o _ (az.of_below (B3.o.alloc B3.o.size _))) (λ hHeld => ?_); clear hK K; try simp only [Act.put, aK, aI, aJ]
         have B4 := zH (B3.o.alloc B3.o.size (.cells #[.slice oA q.outs.length ok] 22)); have BX4 := zH (heap_alloc_new V3 (.cells #[.slice oA q.outs.length ok] 22)); generalize V3.alloc (.cells #[.slice oA q.outs.length ok] 22) = V4 at *; refine au 23 zK rfl (λ K hK => ?_); go_simp
         (go_at_call 106
          (with_reducible refine (ip BX4.o (HO.o.under B4.o) HL2.o).mono ?_); rintro e w7 ⟨he, hb7⟩; rw [HC1.o] at he; subst he; obtain ⟨V5, rfl⟩ := zW w7; have B5 := zH (B4.o.trans (hb7.mono B4.o.size)); clear hb7)
         refine hK.out _ _ (KEEP.o _ (az.of_below B5.o)) (λ hHeld => ?_); clear hK K; try simp only [Act.put, aK, aI, aJ]
         refine aa 24 ?_; refine aa 25 ?_; refine aa 26 ?_; refine aa 27 ?_; refine aa 28 ?_; refine au 29 zK rfl (λ K hK => ?_); go_simp
         (go_at_call 107
          (with_reducible refine (HCF.o _ B5.o).mono ?_); rintro e w7 ⟨he, hb7⟩; rw [HD1.o] at he; subst he; obtain ⟨V6, rfl⟩ := zW w7; have B6 := zH (B5.o.trans (hb7.mono B5.o.size)); clear hb7)
         refine hK.out _ _ (KEEP.o _ (az.of_below B6.o)) (λ hHeld => ?_); clear hK K; try simp only [Act.put, aK, aI, aJ]
         refine aa 30 ?_; refine aa 31 ?_; refine aa 32 ?_; refine aa 33 ?_; refine aa 34 ?_; refine aa 35 ?_; refine aa 36 ?_; refine aa 37 ?_; refine aa 38 ?_; refine aa 39 ?_; refine au 40 zK rfl (λ K hK => ?_); go_simp
         (go_at_call 54
          (with_reducible refine (cS (l := []) (HMF.o.under B6.o) zY (HF.o.under B6.o)).mono ?_); rintro e w7 ⟨he, hk, hm⟩; rw [show aC ([] : List (Tx × Value)) = [] from rfl, HR1.o] at he; subst he; obtain ⟨V7, rfl⟩ := zW w7; have K7 := zH ((az.of_below (M := [f1, v1]) B6.o).trans (hk.mono (by simp))); have HM7 := zH (hm HR1.o); have HV7 := zH ((HMV.o.under B6.o).keptM hk (by simpa using λ e => HFV.o e.symm)); have HI7 := zH ((HI.o.under B6.o).kept (HMF.o.under B6.o) hk); clear hk hm)
         refine hK.out _ _ (KEEP.o _ (K7.o)) (λ hHeld => ?_); clear hK K; try simp only [Act.put, aK, aI, aJ]
         refine aa 41 ?_; refine aa 42 ?_; refine aa 43 ?_; refine aa 44 ?_; refine aa 45 ?_; refine aa 46 ?_; refine aa 47 ?_; refine aa 48 ?_; refine au 49 zK rfl (λ K hK => ?_); go_simp
         (go_at_call 108
          (with_reducible refine (iU (l := []) HV7.o CN HI7.o).mono ?_); rintro e w7 ⟨he, hk, hm⟩; rw [show aC ([] : List (Tx × Value)) = [] from rfl, HR2.o] at he; subst he; obtain ⟨V8, rfl⟩ := zW w7; have K8 := zH (K7.o.trans (hk.mono (by simp))); have HM8 := zH (hm HR2.o); have HF8 := zH (HM7.o.keptM hk (by simpa using HFV.o)); clear hk hm)
         refine hK.out _ _ (KEEP.o _ (K8.o)) (λ hHeld => ?_); clear hK K; try simp only [Act.put, aK, aI, aJ]
         refine aa 50 ?_; refine aa 51 ?_; refine wpAnyH_done zK ?_ _; go_wp2_with fail
         go_ret; exact ⟨aj HY.o.symm, (az.of_below HV.o).trans K8.o, λ _ => ⟨HF8.o, HM8.o⟩⟩
       . have HD1 := zH hd1; have HNO := zH (show dF sp q = false by rw [HOK.o, hd1]; rfl); clear hd1; refine wp_region_held_drew (S := (λ W => W.cell? ⟨w.heap.size, 0, none⟩ = some (.pointer (some ⟨S, 0, none⟩)) /\ W.cell? ⟨S, 0, none⟩ = some (.pointer (some ⟨P, 0, none⟩)) /\ W.cell? ⟨S, 6, none⟩ = some (.map (some f1)) /\ W.cell? ⟨S, 7, none⟩ = some (.map (some v1)) /\ W.cell? ⟨P, 2, none⟩ = some (.map (some n1)) /\ W.cell? ⟨w.heap.size + 1, 0, none⟩ = some (.string (str q.name)) /\ W.cell? ⟨w.heap.size + 1, 1, none⟩ = some (.slice fA q.funs.length fk) /\ W.cell? ⟨w.heap.size + 1, 2, none⟩ = some (.slice iA q.ins.length ik) /\ W.cell? ⟨w.heap.size + 1, 3, none⟩ = some (.slice oA q.outs.length ok))) zK ?_ (λ hHeld => ?_)
         . exact KEEP.o _ (az.of_below (Below.refl _ _).drew)
         refine aa 0 ?_; refine aa 1 ?_; refine aa 2 ?_; refine aa 3 ?_; refine aa 4 ?_; refine aa 5 ?_; refine aa 6 ?_; refine aa 7 ?_; refine aa 8 ?_; refine au 9 zK rfl (λ K hK => ?_); go_simp
         (go_at_call 105
          (with_reducible refine (ec HMN.o.drew HSHN.o HNL.o).mono ?_); rintro e w7 ⟨he, hb7⟩; rw [HKN.o, HA.o] at he; subst he; obtain ⟨V1, rfl⟩ := zW w7; have B1 := zH ((zB V).drew.trans hb7); clear hb7)
         refine hK.out _ _ (KEEP.o _ (az.of_below B1.o)) (λ hHeld => ?_); clear hK K; try simp only [Act.put, aK, aI, aJ]
         refine aa 10 ?_; refine aa 11 ?_; refine aa 12 ?_; refine aa 13 ?_; refine aa 14 ?_; refine aa 15 ?_; refine au 16 zK rfl (λ K hK => ?_); go_simp
         refine hK.out _ _ (KEEP.o _ (az.of_below (B1.o.alloc B1.o.size _))) (λ hHeld => ?_); clear hK K; try simp only [Act.put, aK, aI, aJ]
         have B2 := zH (B1.o.alloc B1.o.size (.cells #[.slice fA q.funs.length fk, .slice iA q.ins.length ik] 22)); have BX2 := zH (heap_alloc_new V1 (.cells #[.slice fA q.funs.length fk, .slice iA q.ins.length ik] 22)); generalize V1.alloc (.cells #[.slice fA q.funs.length fk, .slice iA q.ins.length ik] 22) = V2 at *; refine au 17 zK rfl (λ K hK => ?_); go_simp
         (go_at_call 106
          (with_reducible refine (fH BX2.o (HF.o.under B2.o) (HI.o.under B2.o) HL1.o).mono ?_); rintro e w7 ⟨he, hb7⟩; rw [HB1.o] at he; subst he; obtain ⟨V3, rfl⟩ := zW w7; have B3 := zH (B2.o.trans (hb7.mono B2.o.size)); clear hb7)
         refine hK.out _ _ (KEEP.o _ (az.of_below B3.o)) (λ hHeld => ?_); clear hK K; try simp only [Act.put, aK, aI, aJ]
         refine aa 18 ?_; refine aa 19 ?_; refine aa 20 ?_; refine aa 21 ?_; refine au 22 zK rfl (λ K hK => ?_); go_simp
         refine hK.out _ _ (KEEP.o _ (az.of_below (B3.o.alloc B3.o.size _))) (λ hHeld => ?_); clear hK K; try simp only [Act.put, aK, aI, aJ]
         have B4 := zH (B3.o.alloc B3.o.size (.cells #[.slice oA q.outs.length ok] 22)); have BX4 := zH (heap_alloc_new V3 (.cells #[.slice oA q.outs.length ok] 22)); generalize V3.alloc (.cells #[.slice oA q.outs.length ok] 22) = V4 at *; refine au 23 zK rfl (λ K hK => ?_); go_simp
         (go_at_call 106
          (with_reducible refine (ip BX4.o (HO.o.under B4.o) HL2.o).mono ?_); rintro e w7 ⟨he, hb7⟩; rw [HC1.o] at he; subst he; obtain ⟨V5, rfl⟩ := zW w7; have B5 := zH (B4.o.trans (hb7.mono B4.o.size)); clear hb7)
         refine hK.out _ _ (KEEP.o _ (az.of_below B5.o)) (λ hHeld => ?_); clear hK K; try simp only [Act.put, aK, aI, aJ]
         refine aa 24 ?_; refine aa 25 ?_; refine aa 26 ?_; refine aa 27 ?_; refine aa 28 ?_; refine au 29 zK rfl (λ K hK => ?_); go_simp
         (go_at_call 107
          (with_reducible refine (HCF.o _ B5.o).mono ?_); rintro e w7 ⟨he, hb7⟩; rw [HD1.o] at he; subst he; obtain ⟨V6, rfl⟩ := zW w7; have B6 := zH (B5.o.trans (hb7.mono B5.o.size)); clear hb7)
         refine hK.out _ _ (KEEP.o _ (az.of_below B6.o)) (λ hHeld => ?_); clear hK K; try simp only [Act.put, aK, aI, aJ]
         refine aa 30 ?_; refine aa 31 ?_; refine aa 32 ?_; refine ah 33 ?_; refine ah 34 ?_; refine ah 35 ?_; refine ah 36 ?_; refine ah 37 ?_; refine ah 38 ?_; refine ah 39 ?_; refine ah 40 ?_; refine aa 41 ?_; refine aa 42 ?_; refine ah 43 ?_; refine ah 44 ?_; refine ah 45 ?_; refine ah 46 ?_; refine ah 47 ?_; refine ah 48 ?_; refine ah 49 ?_; refine aa 50 ?_; refine aa 51 ?_; refine wpAnyH_done zK ?_ _; go_wp2_with fail
         go_ret; exact nz HNO.o ((az.of_below HV.o).trans (az.of_below B6.o))
 . have HA := zH ha; have HNO := zH (show dF sp q = false by rw [HOK.o, ha]; rfl); clear ha; refine wp_region_held_drew (S := (λ W => W.cell? ⟨w.heap.size, 0, none⟩ = some (.pointer (some ⟨S, 0, none⟩)) /\ W.cell? ⟨S, 0, none⟩ = some (.pointer (some ⟨P, 0, none⟩)) /\ W.cell? ⟨S, 6, none⟩ = some (.map (some f1)) /\ W.cell? ⟨S, 7, none⟩ = some (.map (some v1)) /\ W.cell? ⟨P, 2, none⟩ = some (.map (some n1)) /\ W.cell? ⟨w.heap.size + 1, 0, none⟩ = some (.string (str q.name)) /\ W.cell? ⟨w.heap.size + 1, 1, none⟩ = some (.slice fA q.funs.length fk) /\ W.cell? ⟨w.heap.size + 1, 2, none⟩ = some (.slice iA q.ins.length ik) /\ W.cell? ⟨w.heap.size + 1, 3, none⟩ = some (.slice oA q.outs.length ok))) zK ?_ (λ hHeld => ?_)
   . exact KEEP.o _ (az.of_below (Below.refl _ _).drew)
   refine aa 0 ?_; refine aa 1 ?_; refine aa 2 ?_; refine aa 3 ?_; refine aa 4 ?_; refine aa 5 ?_; refine aa 6 ?_; refine aa 7 ?_; refine aa 8 ?_; refine au 9 zK rfl (λ K hK => ?_); go_simp
   (go_at_call 105
    (with_reducible refine (ec HMN.o.drew HSHN.o HNL.o).mono ?_); rintro e w7 ⟨he, hb7⟩; rw [HKN.o, HA.o] at he; subst he; obtain ⟨V1, rfl⟩ := zW w7; have B1 := zH ((zB V).drew.trans hb7); clear hb7)
   refine hK.out _ _ (KEEP.o _ (az.of_below B1.o)) (λ hHeld => ?_); clear hK K; try simp only [Act.put, aK, aI, aJ]
   refine aa 10 ?_; refine aa 11 ?_; refine ah 12 ?_; refine ah 13 ?_; refine ah 14 ?_; refine ah 15 ?_; refine ah 16 ?_; refine ah 17 ?_; refine aa 18 ?_; refine aa 19 ?_; refine ah 20 ?_; refine ah 21 ?_; refine ah 22 ?_; refine ah 23 ?_; refine aa 24 ?_; refine aa 25 ?_; refine ah 26 ?_; refine ah 27 ?_; refine ah 28 ?_; refine ah 29 ?_; refine ah 30 ?_; refine aa 31 ?_; refine aa 32 ?_; refine ah 33 ?_; refine ah 34 ?_; refine ah 35 ?_; refine ah 36 ?_; refine ah 37 ?_; refine ah 38 ?_; refine ah 39 ?_; refine ah 40 ?_; refine aa 41 ?_; refine aa 42 ?_; refine ah 43 ?_; refine ah 44 ?_; refine ah 45 ?_; refine ah 46 ?_; refine ah 47 ?_; refine ah 48 ?_; refine ah 49 ?_; refine aa 50 ?_; refine aa 51 ?_; refine wpAnyH_done zK ?_ _; go_wp2_with fail
   go_ret; exact nz HNO.o ((az.of_below HV.o).trans (az.of_below B1.o))
end
end Go.Proofs.YtdcjlihaldhhjaaGreatDoor
