import Derived.Test.YtdcjlihaldhhjaaGreatDoorKm19
import Derived.Test.YtdcjlihaldhhjaaGreatDoorKm22
set_option maxHeartbeats 8000000
set_option maxRecDepth 100000
namespace Go.Proofs.YtdcjlihaldhhjaaGreatDoor
open _root_.Go.Proofs.Tryz
open Go.RowKit
def dC (x : Tx) : List Tx -> List Ex -> List Ex
 | c :: cs, a :: ys => fw x c a :: dC x cs ys
 | _, _ => []
def oy (x : Tx) (cs : List Tx) (ys : List Ex) : Ex := .mk 12 x 0 cs (dC x cs ys)
theorem mA (x : Tx) : ∀ (cs : List Tx) (ys : List Ex) (k : Nat) (c : Tx) (a : Ex), cs[k]? = some c -> ys[k]? = some a -> dC x (cs.take (k + 1)) (ys.take (k + 1)) = dC x (cs.take k) (ys.take k) ++ [fw x c a]
 | [], _, _, _, _, h, _ => by simp at h
 | _ :: _, [], _, _, _, _, h => by simp at h
 | c0 :: cs, a0 :: ys, 0, c, a, h, g => by
   simp only [List.getElem?_cons_zero, Option.some.injEq] at h g
   subst h g
   simp [dC]
 | c0 :: cs, a0 :: ys, k + 1, c, a, h, g => by
   simp only [List.getElem?_cons_succ] at h g
   have := mA x cs ys k c a h g
   simp only [List.take_succ_cons, dC, List.cons_append]
   rw [this]
theorem oz (x : Tx) : ∀ (cs : List Tx) (ys : List Ex), ys.length <= cs.length -> (dC x cs ys).length = ys.length
 | _, [], _ => by cases ‹List Tx› <;> simp [dC]
 | [], _ :: _, h => by simp at h
 | _ :: cs, _ :: ys, h => by simp only [dC, List.length_cons] at h ⊢; rw [oz x cs ys zO]
theorem mz (x : Tx) : ∀ (cs : List Tx) (ys : List Ex) (n : Nat), ys.length <= n -> dC x (cs.take n) ys = dC x cs ys
 | _, [], _, _ => by cases ‹List Tx› <;> simp [dC]
 | [], _ :: _, n, _ => by simp [dC]
 | c :: cs, a :: ys, 0, h => by simp at h
 | c :: cs, a :: ys, n + 1, h => by simp only [List.take_succ_cons, dC]; rw [mz x cs ys n (by simpa using h)]
theorem gZ : ∀ (w w' : World) (L : List Value) (x : Ex), Sub w w' -> aT w L x -> aT w' L x := λ _ _ _ _ hs h => aT.sub h hs
theorem cE.ltM {X : Type} {R : World -> List Value -> X -> Prop} {B : Nat} {T : TypeId} {n : Nat} {w : World} {v : Value} {xs : List X} (h : cE R B T n w v xs) : ∀ g, v.ownBlock = some g -> B <= g /\ g < w.heap.size := by
 obtain ⟨Ls, h1, _⟩ := h; exact h1.lt
def Fk : Value := .agg #[.int .i64 0, .string ⟨#[]⟩, .int .i64 0, .slice none 0 0, .slice none 0 0]
theorem oW : (prog.info? 25).map (λ i => (i.zero, i.size, i.bytes)) = some (some Fk, 5, 80) := by kernel_rfl
theorem pE {tmps : Array Value} {w : World} {N : Nat} {x0 x1 x2 x3 x4 : Value} (hp : tmps.getD 6 undef = .pointer (some ⟨N, 0, none⟩)) (hg : w.heap[N]? = some (.cells #[x0, x1, x2, x3, x4] 25 (0, 0))) :
  (results f61 tmps).run prog w = .ok (.agg #[x0, x1, x2, x3, x4]) w :=
 results_cell_row results61 tmps w N 25 _ (0, 0) _ hp hg underlying25 rfl gR
theorem yB {w : World} {x : Tx} {cv av : Value} {cs : List Tx} {ys : List Ex} (hx : x.length <= maxLen) (hcs : aG w cv cs) (has : aw w (aT w) av ys) (hl : ys.length <= cs.length) (hcl : cs.length <= 2097152) (hs : ∀ a ∈ ys, eG a) :
  Calls prog 61 #[.string (str x), cv, av] w (dZ (oy x cs ys) w) := by
 obtain ⟨Ac, nc, rfl, hc1, hc2, hc3⟩ := id hcs; obtain ⟨Aa, na, rfl, ha1, ha2, ha3⟩ := has; have hall : ys.length <= 9223372036854775807 := (by unfold maxLen at ha2; omega); have HCS := zH hcs; have HL := zH hl; have HX := zH hx; have R0 := zH (heap_alloc_new w (.cells #[.int .i64 0, .string ⟨#[]⟩, .int .i64 0, .slice none 0 0, .slice none 0 0] 25)); have hal := zH (zA w (.cells #[.int .i64 0, .string ⟨#[]⟩, .int .i64 0, .slice none 0 0, .slice none 0 0] 25)); clear hcs hx; go_enter func61, ntmps61
 go_wp2_with (first
  | (go_at_call 25; (with_reducible refine (cd (HCS.o.under hal.o) hcl).mono ?_); rintro e w1 ⟨v1, rfl, ho1, hb1⟩; obtain ⟨V1, rfl⟩ := zW w1; obtain ⟨A3, n3, c3, rfl, rfl⟩ := ho1.shape; have HO1 := zH ho1; have HB1 := zH (hal.o.trans (hb1.mono hal.o.size)); have R1 := zH (ag hb1 R0.o); clear ho1 hb1))
 have hz1 := ar R1.o
 go_loopg [16] ys.length (λ g v wr => ∃ (k : Nat) (kv : Value), k + g = ys.length /\ v = .int .i64 k /\ Below V1.heap.size V1 wr /\ V1.heap.size + 1 <= wr.heap.size /\
  wr.heap[V1.heap.size]? = some (.cells #[.int .i64 12, .string (str x), .int .i64 0, .slice A3 cs.length c3, kv] 25 (0, 0)) /\ cE aT (V1.heap.size + 1) 25 5 wr kv (dC x (cs.take k) (ys.take k)))
 case atStart =>
  exact ⟨0, .slice none 0 0, by omega, rfl, (Below.refl _ _).alloc (Nat.le_refl _) _, by simp, heap_alloc_new _ _, by simp only [List.take_zero, dC]; exact cE.nil _⟩
 case round =>
  obtain ⟨k, kv, hkg, rfl, hbw, hz, hOB, hO⟩ := hrel; have HK := zH hkg; have HW := zH hbw; have HZ := zH hz; have HOB := zH hOB; have HO := zH hO; have HBw := zH (HB1.o.trans (hbw.mono HB1.o.size)); obtain ⟨A6, m6, c6, rfl, hm6⟩ := hO.shape; clear hkg hbw hOB hO hm6; by_cases hlt : k < ys.length
  . obtain ⟨y, hy⟩ := zG hlt; obtain ⟨con, hcon⟩ : ∃ y, cs[k]? = some y := zG zO; obtain ⟨L, hL, hex⟩ := ha3 k y hy; obtain ⟨Lc, ⟨ac, rfl, hcc⟩, rfl, hcm⟩ := hc3 k con hcon; have hcc0 : w.cell? (ac.add k) = some (.string (str con)) := (by simpa [add_zero] using hcc 0 _ rfl); have HCC := zH hcc0; have hcc1 := (HBw.o.cell (World.block_lt_of_cell? w _ hcc0)).trans hcc0; have hnc : k < cs.length := zO; have HSA := zH (jO HX.o hcm hex (hs y (List.mem_of_getElem? hy))); have HSN := zH (mA x cs ys k con y hcon hy); have HLN := zH (show (dC x (cs.take k) (ys.take k)).length <= 2097152 by rw [oz x _ _ (by simp only [List.length_take]; omega), List.length_take]; omega); obtain ⟨o1, s1, n1, A1, m1, k1, A2, m2, k2, rfl⟩ := hex.shape; obtain ⟨a, rfl, ha, haa, d0, d1, d2, d3, d4⟩ := dR (hL.under HBw.o); have HT := zH (heap_alloc_new wr (.cells #[.int .i64 o1, .string s1, .int .i64 n1, .slice A1 m1 k1, .slice A2 m2 k2] 25)); have HOB4 := zH (ab (o := .cells #[.int .i64 o1, .string s1, .int .i64 n1, .slice A1 m1 k1, .slice A2 m2 k2] 25) HOB.o); clear hy hcon hL hex ha3 hc3 hcc hcc0; go_wp2_with fail
    obtain ⟨q0, q1, q2, q3, q4⟩ := aN HOB4.o
    have KEEP := zH (show ∀ W, Below (wr.alloc (.cells #[.int .i64 o1, .string s1, .int .i64 n1, .slice A1 m1 k1, .slice A2 m2 k2] 25)).heap.size (wr.alloc (.cells #[.int .i64 o1, .string s1, .int .i64 n1, .slice A1 m1 k1, .slice A2 m2 k2] 25)) W -> (λ W => (W.cell? ⟨wr.heap.size, 0, none⟩ = some (.int .i64 o1) /\ W.cell? ⟨wr.heap.size, 1, none⟩ = some (.string s1) /\ W.cell? ⟨wr.heap.size, 2, none⟩ = some (.int .i64 n1) /\ W.cell? ⟨wr.heap.size, 3, none⟩ = some (.slice A1 m1 k1) /\ W.cell? ⟨wr.heap.size, 4, none⟩ = some (.slice A2 m2 k2)) /\ W.cell? (ac.add k) = some (.string (str con))) W from λ W hW => ⟨aN (ag hW HT.o), by
     have hlt := World.block_lt_of_cell? wr _ hcc1; exact (hW.cell (by simp; omega)).trans (((zA wr (.cells #[.int .i64 o1, .string s1, .int .i64 n1, .slice A1 m1 k1, .slice A2 m2 k2] 25)).cell hlt).trans hcc1)⟩)
    refine wp_region_held_drew (S := (λ W => (W.cell? ⟨wr.heap.size, 0, none⟩ = some (.int .i64 o1) /\ W.cell? ⟨wr.heap.size, 1, none⟩ = some (.string s1) /\ W.cell? ⟨wr.heap.size, 2, none⟩ = some (.int .i64 n1) /\ W.cell? ⟨wr.heap.size, 3, none⟩ = some (.slice A1 m1 k1) /\ W.cell? ⟨wr.heap.size, 4, none⟩ = some (.slice A2 m2 k2)) /\ W.cell? (ac.add k) = some (.string (str con)))) zK ?_ (λ hHeld => ?_)
    . exact KEEP.o _ (Below.refl _ _).drew
    refine aa 0 ?_; refine aa 2 ?_; refine aa 3 ?_; refine aa 4 ?_; refine aa 5 ?_; refine aa 6 ?_; refine aa 7 ?_; refine wpAnyH_ready (rs := [1, 8]) zK (by simp) (bf 1 rfl (λ K hK => ?_) (bf 8 rfl (λ K hK => ?_) AllReadyH.nil))
    . go_simp
      refine hK.out _ _ (KEEP.o _ ?_) (λ hHeld => ?_)
      . (repeat (first | exact Below.refl _ _ | exact Below.refl _ _ | refine Below.drew ?_ | refine Below.alloc ?_ (by simp) _ | refine Below.setCell ?_ (by simp) _))
      clear hK K; try simp only [Act.put, aK, aI, aJ]
      refine au 8 zK rfl (λ K hK => ?_); go_simp
      (go_at_call 6
       (with_reducible refine (HSA.o _ ((HBw.o.alloc zO _).drew)).mono ?_); rintro e w7 ⟨hb7, M, rfl, hM⟩; obtain ⟨V2, rfl⟩ := zW w7; have G2 := zH (show Below (wr.alloc (.cells #[.int .i64 o1, .string s1, .int .i64 n1, .slice A1 m1 k1, .slice A2 m2 k2] 25)).heap.size (wr.alloc (.cells #[.int .i64 o1, .string s1, .int .i64 n1, .slice A1 m1 k1, .slice A2 m2 k2] 25)) V2 from (Below.refl _ _).drew.trans hb7); have HM2 := zH hM; obtain ⟨o3, s3, n3, A7, m7, k7, A8, m8, k8, rfl⟩ := hM.shape; have B2 := zH (ag G2.o HOB4.o); have hz2 := G2.o.size; have hz4 : wr.heap.size + 1 <= V2.heap.size := (by have := G2.o.size; simp at this; omega); obtain ⟨t0, t1, t2, t3, t4⟩ := aN B2.o; have HO2 := zH (λ (o : Obj) => cE.same gZ HO.o ((((aH.refl (V1.heap.size + 1) wr).alloc (.cells #[.int .i64 o1, .string s1, .int .i64 n1, .slice A1 m1 k1, .slice A2 m2 k2] 25)).trans (aH.below G2.o)).alloc o)); have HV2 := zH ((HBw.o.alloc HBw.o.size (.cells #[.int .i64 o1, .string s1, .int .i64 n1, .slice A1 m1 k1, .slice A2 m2 k2] 25)).trans (G2.o.mono (Nat.le_trans HBw.o.size (by simp)))); have HMO := zH (λ (o : Obj) => HM2.o.sub (cg (B := V1.heap.size + 1) (w' := V2.alloc o) (ob := (Value.slice A6 m6 c6).ownBlock) ((aH.refl _ V2).alloc o) (by have := HZ.o; simp [World.drew]; omega) (λ g hg => .inl (by have := (HO.o.ltM g hg).2; simp [World.drew]; omega)))); have hz3 : ∀ o, V1.heap.size + 1 <= (V2.alloc o).heap.size := λ o => by have := HZ.o; simp at hz2 ⊢; omega
       clear hb7 hM)
      refine hK.out _ _ (KEEP.o _ ?_) (λ hHeld => ?_)
      . (repeat (first | exact Below.refl _ _ | exact G2.o | refine Below.drew ?_ | refine Below.alloc ?_ (by simp) _ | refine Below.setCell ?_ (by simp) _))
      clear hK K; try simp only [Act.put, aK, aI, aJ]
      refine au 9 zK rfl (λ K hK => ?_); go_simp
      refine hK.out _ _ (KEEP.o _ ?_) (λ hHeld => ?_)
      . (repeat (first | exact Below.refl _ _ | exact (G2.o.alloc hz2 _) | refine Below.drew ?_ | refine Below.alloc ?_ (by simp) _ | refine Below.setCell ?_ (by simp) _))
      clear hK K; try simp only [Act.put, aK, aI, aJ]
      refine au 10 zK rfl (λ K hK => ?_); rw [if_pos (by rfl)]; refine et (R := aT) (B := V1.heap.size + 1) (L := [.int .i64 o3, .string s3, .int .i64 n3, .slice A7 m7 k7, .slice A8 m8 k8]) gZ _ _ rfl underlying23 oW rfl zD zD rfl rfl (aB rfl) rfl (rU _ _ HM2.o) (HO2.o _) (HMO.o _) HLN.o (hz3 _) ?_; intro v5 w5 h5 g5 f5; obtain ⟨V5, rfl⟩ := zW w5; obtain ⟨A9, m9, c9, rfl, hm9⟩ := h5.shape; have HO5 := zH h5; have HB5 := zH g5; have E5 := zH ((f5.block wr.heap.size (by simp at hz2 ⊢; omega) (λ e => by have := (HO.o.ltM _ e.symm).2; omega)).trans (ab (o := .cells #[.int .i64 o3, .string s3, .int .i64 n3, .slice A7 m7 k7, .slice A8 m8 k8] 25) (ag G2.o HT.o))); have Z5 := zH ((g5.block V1.heap.size zO).trans (ab (o := .cells #[.int .i64 o3, .string s3, .int .i64 n3, .slice A7 m7 k7, .slice A8 m8 k8] 25) B2.o)); have HV5 := zH ((HV2.o.alloc HV2.o.size (.cells #[.int .i64 o3, .string s3, .int .i64 n3, .slice A7 m7 k7, .slice A8 m8 k8] 25)).trans (HB5.o.mono (by have := HBw.o.size; have := HW.o.size; have := HB1.o.size; omega))); have C5 := zH ((HV5.o.cell (World.block_lt_of_cell? w _ HCC.o)).trans HCC.o); clear h5 g5 f5 hm9; obtain ⟨z0, z1, z2, z3, z4⟩ := aN Z5.o; have f4 := ak Z5.o 4; refine hK.out _ _ ⟨aN E5.o, C5.o⟩ (λ hHeld => ?_); clear hK K; try simp only [Act.put, aK, aI, aJ]
      refine aa 11 ?_; refine au 12 zK rfl (λ K hK => ?_); go_simp
      refine hK.out _ _ ⟨aN ((aE _ _ _ _ _ zO).trans E5.o), (World.cell?_of_block (aE _ _ _ _ _ (by have := World.block_lt_of_cell? w _ HCC.o; have := HB1.o.size; omega))).trans C5.o⟩ (λ hHeld => ?_); clear hK K; try simp only [Act.put, aK, aI, aJ]
      refine wpAnyH_done zK ?_ _; go_wp2_with fail
      go_roundg (ys.length - (k + 1))
      case measure => have := HK.o; omega
      case rel =>
       refine ⟨k + 1, .slice A9 m9 c9, by omega, by go_num, ?_, ?_, dJ _ Z5.o, ?_⟩
       . exact (((HW.o.alloc HW.o.size (.cells #[.int .i64 o1, .string s1, .int .i64 n1, .slice A1 m1 k1, .slice A2 m2 k2] 25)).trans (G2.o.mono (Nat.le_trans HW.o.size (by simp)))).alloc (by have := HW.o.size; omega) (.cells #[.int .i64 o3, .string s3, .int .i64 n3, .slice A7 m7 k7, .slice A8 m8 k8] 25)).trans (HB5.o.mono (Nat.le_succ _)) |>.setCell (Nat.le_refl _) _
       . exact Nat.le_trans (ar Z5.o) (Below.size ((Below.refl 0 V5).setCell (p := ⟨V1.heap.size, 4, none⟩) (Nat.zero_le _) (.slice A9 m9 c9)))
       . rw [HSN.o]; exact cE.same gZ HO5.o ((aH.refl _ V5).set (.inl (Nat.lt_succ_self _)) _)
    . go_simp
      (go_at_call 6
       (with_reducible refine (HSA.o _ ((HBw.o.alloc zO _).drew)).mono ?_); rintro e w7 ⟨hb7, M, rfl, hM⟩; obtain ⟨V2, rfl⟩ := zW w7; have G2 := zH (show Below (wr.alloc (.cells #[.int .i64 o1, .string s1, .int .i64 n1, .slice A1 m1 k1, .slice A2 m2 k2] 25)).heap.size (wr.alloc (.cells #[.int .i64 o1, .string s1, .int .i64 n1, .slice A1 m1 k1, .slice A2 m2 k2] 25)) V2 from (Below.refl _ _).drew.trans hb7); have HM2 := zH hM; obtain ⟨o3, s3, n3, A7, m7, k7, A8, m8, k8, rfl⟩ := hM.shape; have B2 := zH (ag G2.o HOB4.o); have hz2 := G2.o.size; have hz4 : wr.heap.size + 1 <= V2.heap.size := (by have := G2.o.size; simp at this; omega); obtain ⟨t0, t1, t2, t3, t4⟩ := aN B2.o; have HO2 := zH (λ (o : Obj) => cE.same gZ HO.o ((((aH.refl (V1.heap.size + 1) wr).alloc (.cells #[.int .i64 o1, .string s1, .int .i64 n1, .slice A1 m1 k1, .slice A2 m2 k2] 25)).trans (aH.below G2.o)).alloc o)); have HV2 := zH ((HBw.o.alloc HBw.o.size (.cells #[.int .i64 o1, .string s1, .int .i64 n1, .slice A1 m1 k1, .slice A2 m2 k2] 25)).trans (G2.o.mono (Nat.le_trans HBw.o.size (by simp)))); have HMO := zH (λ (o : Obj) => HM2.o.sub (cg (B := V1.heap.size + 1) (w' := V2.alloc o) (ob := (Value.slice A6 m6 c6).ownBlock) ((aH.refl _ V2).alloc o) (by have := HZ.o; simp [World.drew]; omega) (λ g hg => .inl (by have := (HO.o.ltM g hg).2; simp [World.drew]; omega)))); have hz3 : ∀ o, V1.heap.size + 1 <= (V2.alloc o).heap.size := λ o => by have := HZ.o; simp at hz2 ⊢; omega
       clear hb7 hM)
      refine hK.out _ _ (KEEP.o _ ?_) (λ hHeld => ?_)
      . (repeat (first | exact Below.refl _ _ | exact G2.o | refine Below.drew ?_ | refine Below.alloc ?_ (by simp) _ | refine Below.setCell ?_ (by simp) _))
      clear hK K; try simp only [Act.put, aK, aI, aJ]
      refine wpAnyH_ready (rs := [1, 9]) zK (by simp) (bf 1 rfl (λ K hK => ?_) (bf 9 rfl (λ K hK => ?_) AllReadyH.nil))
      . go_simp
        refine hK.out _ _ (KEEP.o _ ?_) (λ hHeld => ?_)
        . (repeat (first | exact Below.refl _ _ | exact G2.o | refine Below.drew ?_ | refine Below.alloc ?_ (by simp) _ | refine Below.setCell ?_ (by simp) _))
        clear hK K; try simp only [Act.put, aK, aI, aJ]
        refine au 9 zK rfl (λ K hK => ?_); go_simp
        refine hK.out _ _ (KEEP.o _ ?_) (λ hHeld => ?_)
        . (repeat (first | exact Below.refl _ _ | exact (G2.o.alloc hz2 _) | refine Below.drew ?_ | refine Below.alloc ?_ (by simp) _ | refine Below.setCell ?_ (by simp) _))
        clear hK K; try simp only [Act.put, aK, aI, aJ]
        refine au 10 zK rfl (λ K hK => ?_); rw [if_pos (by rfl)]; refine et (R := aT) (B := V1.heap.size + 1) (L := [.int .i64 o3, .string s3, .int .i64 n3, .slice A7 m7 k7, .slice A8 m8 k8]) gZ _ _ rfl underlying23 oW rfl zD zD rfl rfl (aB rfl) rfl (rU _ _ HM2.o) (HO2.o _) (HMO.o _) HLN.o (hz3 _) ?_; intro v5 w5 h5 g5 f5; obtain ⟨V5, rfl⟩ := zW w5; obtain ⟨A9, m9, c9, rfl, hm9⟩ := h5.shape; have HO5 := zH h5; have HB5 := zH g5; have E5 := zH ((f5.block wr.heap.size (by simp at hz2 ⊢; omega) (λ e => by have := (HO.o.ltM _ e.symm).2; omega)).trans (ab (o := .cells #[.int .i64 o3, .string s3, .int .i64 n3, .slice A7 m7 k7, .slice A8 m8 k8] 25) (ag G2.o HT.o))); have Z5 := zH ((g5.block V1.heap.size zO).trans (ab (o := .cells #[.int .i64 o3, .string s3, .int .i64 n3, .slice A7 m7 k7, .slice A8 m8 k8] 25) B2.o)); have HV5 := zH ((HV2.o.alloc HV2.o.size (.cells #[.int .i64 o3, .string s3, .int .i64 n3, .slice A7 m7 k7, .slice A8 m8 k8] 25)).trans (HB5.o.mono (by have := HBw.o.size; have := HW.o.size; have := HB1.o.size; omega))); have C5 := zH ((HV5.o.cell (World.block_lt_of_cell? w _ HCC.o)).trans HCC.o); clear h5 g5 f5 hm9; obtain ⟨z0, z1, z2, z3, z4⟩ := aN Z5.o; have f4 := ak Z5.o 4; refine hK.out _ _ ⟨aN E5.o, C5.o⟩ (λ hHeld => ?_); clear hK K; try simp only [Act.put, aK, aI, aJ]
        refine aa 11 ?_; refine au 12 zK rfl (λ K hK => ?_); go_simp
        refine hK.out _ _ ⟨aN ((aE _ _ _ _ _ zO).trans E5.o), (World.cell?_of_block (aE _ _ _ _ _ (by have := World.block_lt_of_cell? w _ HCC.o; have := HB1.o.size; omega))).trans C5.o⟩ (λ hHeld => ?_); clear hK K; try simp only [Act.put, aK, aI, aJ]
        refine wpAnyH_done zK ?_ _; go_wp2_with fail
        go_roundg (ys.length - (k + 1))
        case measure => have := HK.o; omega
        case rel =>
         refine ⟨k + 1, .slice A9 m9 c9, by omega, by go_num, ?_, ?_, dJ _ Z5.o, ?_⟩
         . exact (((HW.o.alloc HW.o.size (.cells #[.int .i64 o1, .string s1, .int .i64 n1, .slice A1 m1 k1, .slice A2 m2 k2] 25)).trans (G2.o.mono (Nat.le_trans HW.o.size (by simp)))).alloc (by have := HW.o.size; omega) (.cells #[.int .i64 o3, .string s3, .int .i64 n3, .slice A7 m7 k7, .slice A8 m8 k8] 25)).trans (HB5.o.mono (Nat.le_succ _)) |>.setCell (Nat.le_refl _) _
         . exact Nat.le_trans (ar Z5.o) (Below.size ((Below.refl 0 V5).setCell (p := ⟨V1.heap.size, 4, none⟩) (Nat.zero_le _) (.slice A9 m9 c9)))
         . rw [HSN.o]; exact cE.same gZ HO5.o ((aH.refl _ V5).set (.inl (Nat.lt_succ_self _)) _)
      . go_simp
        refine hK.out _ _ (KEEP.o _ ?_) (λ hHeld => ?_)
        . (repeat (first | exact Below.refl _ _ | exact (G2.o.alloc hz2 _) | refine Below.drew ?_ | refine Below.alloc ?_ (by simp) _ | refine Below.setCell ?_ (by simp) _))
        clear hK K; try simp only [Act.put, aK, aI, aJ]
        obtain ⟨t0, t1, t2, t3, t4⟩ := aN (ab (o := .cells #[.int .i64 o3, .string s3, .int .i64 n3, .slice A7 m7 k7, .slice A8 m8 k8] 25) B2.o); refine au 1 zK rfl (λ K hK => ?_); go_simp
        refine hK.out _ _ (KEEP.o _ ?_) (λ hHeld => ?_)
        . (repeat (first | exact Below.refl _ _ | exact (G2.o.alloc hz2 _) | refine Below.drew ?_ | refine Below.alloc ?_ (by simp) _ | refine Below.setCell ?_ (by simp) _))
        clear hK K; try simp only [Act.put, aK, aI, aJ]
        refine au 10 zK rfl (λ K hK => ?_); rw [if_pos (by rfl)]; refine et (R := aT) (B := V1.heap.size + 1) (L := [.int .i64 o3, .string s3, .int .i64 n3, .slice A7 m7 k7, .slice A8 m8 k8]) gZ _ _ rfl underlying23 oW rfl zD zD rfl rfl (aB rfl) rfl (rU _ _ HM2.o) (HO2.o _) (HMO.o _) HLN.o (hz3 _) ?_; intro v5 w5 h5 g5 f5; obtain ⟨V5, rfl⟩ := zW w5; obtain ⟨A9, m9, c9, rfl, hm9⟩ := h5.shape; have HO5 := zH h5; have HB5 := zH g5; have E5 := zH ((f5.block wr.heap.size (by simp at hz2 ⊢; omega) (λ e => by have := (HO.o.ltM _ e.symm).2; omega)).trans (ab (o := .cells #[.int .i64 o3, .string s3, .int .i64 n3, .slice A7 m7 k7, .slice A8 m8 k8] 25) (ag G2.o HT.o))); have Z5 := zH ((g5.block V1.heap.size zO).trans (ab (o := .cells #[.int .i64 o3, .string s3, .int .i64 n3, .slice A7 m7 k7, .slice A8 m8 k8] 25) B2.o)); have HV5 := zH ((HV2.o.alloc HV2.o.size (.cells #[.int .i64 o3, .string s3, .int .i64 n3, .slice A7 m7 k7, .slice A8 m8 k8] 25)).trans (HB5.o.mono (by have := HBw.o.size; have := HW.o.size; have := HB1.o.size; omega))); have C5 := zH ((HV5.o.cell (World.block_lt_of_cell? w _ HCC.o)).trans HCC.o); clear h5 g5 f5 hm9; obtain ⟨z0, z1, z2, z3, z4⟩ := aN Z5.o; have f4 := ak Z5.o 4; refine hK.out _ _ ⟨aN E5.o, C5.o⟩ (λ hHeld => ?_); clear hK K; try simp only [Act.put, aK, aI, aJ]
        refine aa 11 ?_; refine au 12 zK rfl (λ K hK => ?_); go_simp
        refine hK.out _ _ ⟨aN ((aE _ _ _ _ _ zO).trans E5.o), (World.cell?_of_block (aE _ _ _ _ _ (by have := World.block_lt_of_cell? w _ HCC.o; have := HB1.o.size; omega))).trans C5.o⟩ (λ hHeld => ?_); clear hK K; try simp only [Act.put, aK, aI, aJ]
        refine wpAnyH_done zK ?_ _; go_wp2_with fail
        go_roundg (ys.length - (k + 1))
        case measure => have := HK.o; omega
        case rel =>
         refine ⟨k + 1, .slice A9 m9 c9, by omega, by go_num, ?_, ?_, dJ _ Z5.o, ?_⟩
         . exact (((HW.o.alloc HW.o.size (.cells #[.int .i64 o1, .string s1, .int .i64 n1, .slice A1 m1 k1, .slice A2 m2 k2] 25)).trans (G2.o.mono (Nat.le_trans HW.o.size (by simp)))).alloc (by have := HW.o.size; omega) (.cells #[.int .i64 o3, .string s3, .int .i64 n3, .slice A7 m7 k7, .slice A8 m8 k8] 25)).trans (HB5.o.mono (Nat.le_succ _)) |>.setCell (Nat.le_refl _) _
         . exact Nat.le_trans (ar Z5.o) (Below.size ((Below.refl 0 V5).setCell (p := ⟨V1.heap.size, 4, none⟩) (Nat.zero_le _) (.slice A9 m9 c9)))
         . rw [HSN.o]; exact cE.same gZ HO5.o ((aH.refl _ V5).set (.inl (Nat.lt_succ_self _)) _)
  . have hke : k = ys.length := by have := HK.o; omega
    subst hke; have R5 := zH (ag (HW.o) R1.o); obtain ⟨q0, q1, q2, q3, q4⟩ := aN HOB.o; obtain ⟨r0, r1, r2, r3, r4⟩ := aN R5.o; have f0 := ak R5.o 0; have f1 := ak R5.o 1; have f2 := ak R5.o 2; have f3 := ak R5.o 3; have f4 := ak R5.o 4; go_wp2_with fail
    refine bodyPost_ret (pE rfl (bZ _ _ _ _ _ R5.o)) rfl ⟨bJ HBw.o (Nat.le_refl _) _ _ _ _ _, _, rfl, ?_⟩; have hO := HO.o; rw [List.take_length, mz x cs ys ys.length (Nat.le_refl _)] at hO; have hz := HZ.o; have hn := HB1.o.size; have hsub := λ a b c d e => Sub.trans (aH.sub (c8 (N := w.heap.size) (aH.refl (w.heap.size + 1) wr) (.inl (Nat.lt_succ_self _)) a b c d e)) (bo (B' := w.heap.size) (Nat.le_succ _) _)
    have hcv : aG (dB (w.heap.size + 1) wr) (.slice A3 cs.length c3) cs := (eE.newS HO1.o).sub (by
     have := HW.o; rw [World.size_alloc]; exact aH.sub (aH.below this))
    exact gp (cp zO) (cp zO) HX.o (hcv.sub (hsub _ _ _ _ _)) ((cE.at_ gZ hO).sub (Sub.trans (bo (B' := w.heap.size + 1) zO _) (hsub _ _ _ _ _)) λ L x h => aT.sub h (Sub.trans (bo (B' := w.heap.size + 1) zO _) (hsub _ _ _ _ _)))
def gA : Ex -> Option Ex
 | .mk op nm _ cs ks => if op = 13 then some (oy nm cs ks) else none
def deM (e : Ex) : Ex := gM gA e
mutual
def gG : Ex -> Prop
 | .mk op _ _ cs ks => if op = 13 then ks.length <= cs.length else nI ks
def nI : List Ex -> Prop
 | [] => True
 | k :: l => gG k /\ nI l
end
theorem qS : ∀ {l : List Ex}, nI l -> ∀ k ∈ l, gG k
 | [], _, k, h => by simp at h
 | x :: l, h, k, hk => by
   rw [nI] at h
   rcases List.mem_cons.1 hk with rfl | hk
   . exact h.1
   . exact qS h.2 k hk
theorem zj : ∀ op nm n cs ks, gA (.mk op nm n cs ks) = none -> gG (.mk op nm n cs ks) -> ∀ k ∈ ks, gG k := λ op nm n cs ks hr h => by
 have ho : ¬ op = 13 := λ e => by simp [gA, e] at hr
 rw [gG, if_neg ho] at h
 exact qS h
theorem xY {op n : Int} {nm : Tx} {cs : List Tx} {ks : List Ex} (h : eG (.mk op nm n cs ks)) : ∀ k ∈ ks, eG k := λ k hk => by
 rw [eG] at h
 obtain ⟨i, hi⟩ := List.getElem?_of_mem hk
 exact lH h.2.2 i k hi
theorem Fm {w0 : World} {o0 : Int} {y : Ex} {L : List Value} (h : aT w0 L y) (hy : ∃ s n cs ks, y = .mk o0 s n cs ks) (ho : ¬ o0 = 13) (w : World) :
  Calls prog 60 #[.agg L.toArray] w (lC none w) := by
 have hop : ∃ s0 n0 A0 m0 k0 B0 j0 l0, L = [.int .i64 o0, .string s0, .int .i64 n0, .slice A0 m0 k0, .slice B0 j0 l0] := by
  obtain ⟨s, n, cs, ks, rfl⟩ := hy; cases h with
  | mk _ _ _ hcs _ _ _ _ =>
    obtain ⟨A, c, rfl, _⟩ := hcs; exact ⟨_, _, _, _, _, _, _, _, rfl⟩
 obtain ⟨s0, n0, A0, m0, k0, B0, j0, l0, rfl⟩ := hop; have R0 := zH (aB (w := w.alloc (.cells #[.int .i64 o0, .string s0, .int .i64 n0, .slice A0 m0 k0, .slice B0 j0 l0] 25)) (o := .cells #[.int .i64 0, .string ⟨#[]⟩, .int .i64 0, .slice none 0 0, .slice none 0 0] 25) (n := w.heap.size + 1) (by simp)); obtain ⟨r0, r1, r2, r3, r4⟩ := aN R0.o; have f0 := ak R0.o 0; have f1 := ak R0.o 1; have f2 := ak R0.o 2; have f3 := ak R0.o 3; have f4 := ak R0.o 4; have hd : decide (o0 = 13) = false := (by simpa using ho); clear h hy; go_enter func60, ntmps60
 go_wp2_with fail
 refine bodyPost_ret (cu results60 _ _ _ rfl rfl (ic R0.o)) rfl ⟨((Below.refl _ _).alloc (Nat.le_refl _) _).alloc (by simp) _, rfl⟩
theorem Em {w0 : World} {s : Tx} {n : Int} {cs : List Tx} {ks : List Ex} {L : List Value} (h : aT w0 L (.mk 13 s n cs ks)) (hs : eG (.mk 13 s n cs ks)) (hl : ks.length <= cs.length) (w : World) (hb : Below w0.heap.size w0 w) :
  Calls prog 60 #[.agg L.toArray] w (lC (some (oy s cs ks)) w) := by
 have hop : ∃ n0 A0 m0 k0 B0 j0 l0, L = [.int .i64 13, .string (str s), .int .i64 n0, .slice A0 m0 k0, .slice B0 j0 l0] /\ s.length <= maxLen /\ aG w0 (.slice A0 m0 k0) cs /\ aw w0 (aT w0) (.slice B0 j0 l0) ks := by
  cases h with
  | mk _ hnm _ hcs hl hc hk hx =>
    obtain ⟨A, c, rfl, h1⟩ := id hcs; exact ⟨_, _, _, _, _, _, _, rfl, hnm, hcs, _, _, rfl, hl, hc, λ i x hi => ⟨_, hk i x hi, hx i x hi⟩⟩
 obtain ⟨n0, A0, m0, k0, B0, j0, l0, rfl, hn, hcs, hks⟩ := hop; have hm := λ (W : World) (hW : Below w0.heap.size w0 W) => yB (w := W) hn (hcs.under hW) (aw.mono hks hW λ _ _ h => h.under hW) hl (by rw [eG] at hs; exact hs.1) (xY hs); have HM := zH hm; have HB := zH hb; have E0 := zH (aQ (o := .cells #[.int .i64 0, .string ⟨#[]⟩, .int .i64 0, .slice none 0 0, .slice none 0 0] 25) (heap_alloc_new w (.cells #[.int .i64 13, .string (str s), .int .i64 n0, .slice A0 m0 k0, .slice B0 j0 l0] 25))); have R0 := zH (aB (w := w.alloc (.cells #[.int .i64 13, .string (str s), .int .i64 n0, .slice A0 m0 k0, .slice B0 j0 l0] 25)) (o := .cells #[.int .i64 0, .string ⟨#[]⟩, .int .i64 0, .slice none 0 0, .slice none 0 0] 25) (n := w.heap.size + 1) (by simp)); have b2 := zH ((zA w (.cells #[.int .i64 13, .string (str s), .int .i64 n0, .slice A0 m0 k0, .slice B0 j0 l0] 25)).alloc (by simp) (.cells #[.int .i64 0, .string ⟨#[]⟩, .int .i64 0, .slice none 0 0, .slice none 0 0] 25)); obtain ⟨p0, p1, p2, p3, p4⟩ := aN E0.o; clear h hs hm hcs hks hn hb; go_enter func60, ntmps60
 go_wp2_with (first
  | (go_at_call 61; (with_reducible refine (HM.o _ (HB.o.trans (b2.o.mono HB.o.size))).mono ?_); rintro e w1 ⟨hb1, M, rfl, hM⟩; obtain ⟨V1, rfl⟩ := zW w1; obtain ⟨o1, s1, n1, A1, m1, k1, B1, j1, l1, rfl⟩ := hM.shape; have HM1 := zH hM; have HB1 := zH hb1; have R1 := zH (ag hb1 R0.o); obtain ⟨r0, r1, r2, r3, r4⟩ := aN R1.o; have f0 := ak R1.o 0; have f1 := ak R1.o 1; have f2 := ak R1.o 2; have f3 := ak R1.o 3; have f4 := ak R1.o 4; clear hb1 hM))
 refine bodyPost_ret (cu results60 _ _ _ rfl rfl (ic (bZ _ _ _ _ _ R1.o))) rfl ⟨bJ (b2.o.trans (HB1.o.mono b2.o.size)) zO _ _ _ _ _, [.int .i64 o1, .string s1, .int .i64 n1, .slice A1 m1 k1, .slice B1 j1 l1], rfl, ?_⟩; exact HM1.o.sub (Sub.trans (aH.sub (c8 (aH.refl _ V1) (.inl (by simp)) _ _ _ _ _)) (bo (by simp; omega) _))
theorem Fl (w0 : World) : mj gG w0 60 #[] gA := by
 refine ⟨λ args W => by kernel_rfl, λ y L h hs hq w hb => ?_⟩; obtain ⟨op, s, n, cs, ks⟩ := y; by_cases ho : op = 13
 . subst ho; rw [gG, if_pos rfl] at hq; rw [show gA (.mk 13 s n cs ks) = some (oy s cs ks) by simp [gA]]; exact Em h hs hq w hb
 . rw [show gA (.mk op s n cs ks) = none by simp [gA, ho]]; exact Fm h ⟨s, n, cs, ks, rfl⟩ ho w
theorem uw {tmps : Array Value} {w : World} {N : Nat} {x0 x1 x2 x3 x4 : Value} (hp : tmps.getD 2 undef = .pointer (some ⟨N, 0, none⟩)) (hg : w.heap[N]? = some (.cells #[x0, x1, x2, x3, x4] 25 (0, 0))) :
  (results f27 tmps).run prog w = .ok (.agg #[x0, x1, x2, x3, x4]) w :=
 results_cell_row results27 tmps w N 25 _ (0, 0) _ hp hg underlying25 rfl gR
theorem En {w0 : World} {L : List Value} {x : Ex} (h : aT w0 L x) (hs : eG x) (hq : gG x) (w : World) (hb : Below w0.heap.size w0 w) : Calls prog 27 #[.agg L.toArray] w (dZ (deM x) w) := by
 have HR := zH (kI zj (Fl w0) h hs hq); have HQ := zH (show gM gA x = deM x from rfl); obtain ⟨o0, s0, n0, A0, m0, k0, B0, j0, l0, rfl⟩ := h.shape; have HB := zH hb; have E0 := zH (aQ (o := .cells #[.int .i64 0, .string ⟨#[]⟩, .int .i64 0, .slice none 0 0, .slice none 0 0] 25) (heap_alloc_new w (.cells #[.int .i64 o0, .string s0, .int .i64 n0, .slice A0 m0 k0, .slice B0 j0 l0] 25))); have R0 := zH (aB (w := w.alloc (.cells #[.int .i64 o0, .string s0, .int .i64 n0, .slice A0 m0 k0, .slice B0 j0 l0] 25)) (o := .cells #[.int .i64 0, .string ⟨#[]⟩, .int .i64 0, .slice none 0 0, .slice none 0 0] 25) (n := w.heap.size + 1) (by simp)); have b2 := zH ((zA w (.cells #[.int .i64 o0, .string s0, .int .i64 n0, .slice A0 m0 k0, .slice B0 j0 l0] 25)).alloc (by simp) (.cells #[.int .i64 0, .string ⟨#[]⟩, .int .i64 0, .slice none 0 0, .slice none 0 0] 25)); obtain ⟨p0, p1, p2, p3, p4⟩ := aN E0.o; clear h hs hq hb; go_enter func27, ntmps27
 go_wp2_with (first
  | (go_at_call 13; (with_reducible refine (HR.o _ (HB.o.trans (b2.o.mono HB.o.size))).mono ?_); rintro e w1 ⟨hb1, M, rfl, hM⟩; obtain ⟨V1, rfl⟩ := zW w1; obtain ⟨o1, s1, n1, A1, m1, k1, B1, j1, l1, rfl⟩ := hM.shape; have HM1 := zH hM; have HB1 := zH hb1; have R1 := zH (ag hb1 R0.o); obtain ⟨r0, r1, r2, r3, r4⟩ := aN R1.o; have f0 := ak R1.o 0; have f1 := ak R1.o 1; have f2 := ak R1.o 2; have f3 := ak R1.o 3; have f4 := ak R1.o 4; clear hb1 hM))
 refine bodyPost_ret (uw rfl (bZ _ _ _ _ _ R1.o)) rfl ⟨bJ (b2.o.trans (HB1.o.mono b2.o.size)) zO _ _ _ _ _, [.int .i64 o1, .string s1, .int .i64 n1, .slice A1 m1 k1, .slice B1 j1 l1], rfl, ?_⟩; exact HM1.o.sub (Sub.trans (aH.sub (c8 (aH.refl _ V1) (.inl (by simp)) _ _ _ _ _)) (bo (by simp; omega) _))
theorem Bu : (prog.info? 31).map (·.size) = some 7 := by kernel_rfl
theorem tW {tmps : Array Value} {w : World} {N : Nat} {x0 x1 x2 x3 x4 x5 x6 : Value} (hp : tmps.getD 4 undef = .pointer (some ⟨N, 0, none⟩)) (hg : w.heap[N]? = some (.cells #[x0, x1, x2, x3, x4, x5, x6] 31 (0, 0))) :
  (results f26 tmps).run prog w = .ok (.agg #[x0, x1, x2, x3, x4, x5, x6]) w :=
 results_cell_row results26 tmps w N 31 _ (0, 0) _ hp hg underlying31 rfl Bu
theorem nC {A A1 A2 : Option Addr} {n c m1 k1 m2 k2 : Nat} {o1 n1 : Int} {s1 : ByteArray} (w : World) :
  Calls prog 26 #[.slice A n c, .agg #[.int .i64 o1, .string s1, .int .i64 n1, .slice A1 m1 k1, .slice A2 m2 k2]] w
   λ e w' => e = .returned (.agg #[.slice A n c, .int .i64 o1, .string s1, .int .i64 n1, .slice A1 m1 k1, .slice A2 m2 k2, .slice none 0 0]) /\ Below w.heap.size w w' := by
 have E0 := zH (aQ (o := .cells #[.slice none 0 0, .int .i64 0, .string ⟨#[]⟩, .int .i64 0, .slice none 0 0, .slice none 0 0, .slice none 0 0] 31) (heap_alloc_new w (.cells #[.int .i64 o1, .string s1, .int .i64 n1, .slice A1 m1 k1, .slice A2 m2 k2] 25))); obtain ⟨p0, p1, p2, p3, p4⟩ := aN E0.o; go_enter func26, ntmps26
 go_wp2_with fail
 refine bodyPost_ret (tW (N := w.heap.size + 1) rfl (aB (by simp))) rfl ⟨rfl, ((Below.refl _ w).alloc (Nat.le_refl _) _).alloc (by simp) _⟩
def Cy : Value := .agg #[.string ⟨#[]⟩, .slice none 0 0]
theorem jZ : (prog.info? 70).map (λ i => (i.zero, i.size, i.bytes)) = some (some Cy, 2, 40) := by kernel_rfl
def Cw : Value := .agg #[.string ⟨#[]⟩, .slice none 0 0, .slice none 0 0, .slice none 0 0, .slice none 0 0]
theorem vq : (prog.info? 34).map (λ i => (i.zero, i.size, i.bytes)) = some (some Cw, 5, 112) := by kernel_rfl
def Cx : Value := .agg #[.slice none 0 0, .int .i64 0, .string ⟨#[]⟩, .int .i64 0, .slice none 0 0, .slice none 0 0, .slice none 0 0]
theorem fY : (prog.info? 31).map (λ i => (i.zero, i.size, i.bytes)) = some (some Cx, 7, 128) := by kernel_rfl
theorem dV : ∀ (w w' : World) (L : List Value) (x : fp), Sub w w' -> cF w L x -> cF w' L x := λ _ _ _ _ hs h => cF.sub h hs
theorem kr : ∀ (w w' : World) (L : List Value) (x : bc), Sub w w' -> cz w L x -> cz w' L x := λ _ _ _ _ hs h => cz.sub h hs
theorem cH : ∀ (w w' : World) (L : List Value) (x : cC), Sub w w' -> bO w L x -> bO w' L x := λ _ _ _ _ hs h => bO.sub h hs
theorem AD (s : ByteArray) (A1 : Option Addr) (n1 k1 : Nat) : ∀ u ∈ [Value.string s, .slice A1 n1 k1], u.oneCell' = true := by
 intro u hu; simp only [List.mem_cons, List.not_mem_nil, or_false] at hu; rcases hu with rfl | rfl <;> rfl
theorem FI (s : ByteArray) (A1 A2 A3 A4 : Option Addr) (n1 k1 n2 k2 n3 k3 n4 k4 : Nat) : ∀ u ∈ [Value.string s, .slice A1 n1 k1, .slice A2 n2 k2, .slice A3 n3 k3, .slice A4 n4 k4], u.oneCell' = true := by
 intro u hu; simp only [List.mem_cons, List.not_mem_nil, or_false] at hu; rcases hu with rfl | rfl | rfl | rfl | rfl <;> rfl
theorem tq (A0 A4 A5 A6 : Option Addr) (n0 k0 n4 k4 n5 k5 n6 k6 : Nat) (o1 o3 : Int) (s : ByteArray) : ∀ u ∈ [Value.slice A0 n0 k0, .int .i64 o1, .string s, .int .i64 o3, .slice A4 n4 k4, .slice A5 n5 k5, .slice A6 n6 k6], u.oneCell' = true := by
 intro u hu; simp only [List.mem_cons, List.not_mem_nil, or_false] at hu; rcases hu with rfl | rfl | rfl | rfl | rfl | rfl | rfl <;> rfl
end Go.Proofs.YtdcjlihaldhhjaaGreatDoor
