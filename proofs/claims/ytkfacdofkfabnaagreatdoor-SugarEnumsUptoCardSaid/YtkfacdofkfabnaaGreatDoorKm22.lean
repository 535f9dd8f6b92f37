import Derived.Test.YtkfacdofkfabnaaGreatDoorKm18
import Derived.Test.YtkfacdofkfabnaaGreatDoorKm21
set_option maxHeartbeats 8000000
set_option maxRecDepth 100000
namespace Go.Proofs.YtkfacdofkfabnaaGreatDoor
open _root_.Go.Proofs.Tryz
open Go.RowKit
def ej (x : Tx) : List Tx -> List Ex -> List Ex
 | c :: cs, a :: ys => zT x c a :: ej x cs ys
 | _, _ => []
def nL (x : Tx) (cs : List Tx) (ys : List Ex) : Ex := .mk 12 x 0 cs (ej x cs ys)
theorem ot (x : Tx) : ∀ (cs : List Tx) (ys : List Ex) (k : Nat) (c : Tx) (a : Ex), cs[k]? = some c -> ys[k]? = some a -> ej x (cs.take (k + 1)) (ys.take (k + 1)) = ej x (cs.take k) (ys.take k) ++ [zT x c a]
 | [], _, _, _, _, h, _ => by simp at h
 | _ :: _, [], _, _, _, _, h => by simp at h
 | c0 :: cs, a0 :: ys, 0, c, a, h, g => by
   simp only [List.getElem?_cons_zero, Option.some.injEq] at h g
   subst h g
   simp [ej]
 | c0 :: cs, a0 :: ys, k + 1, c, a, h, g => by
   simp only [List.getElem?_cons_succ] at h g
   have := ot x cs ys k c a h g
   simp only [List.take_succ_cons, ej, List.cons_append]
   rw [this]
theorem qb (x : Tx) : ∀ (cs : List Tx) (ys : List Ex), ys.length <= cs.length -> (ej x cs ys).length = ys.length
 | _, [], _ => by cases ‹List Tx› <;> simp [ej]
 | [], _ :: _, h => by simp at h
 | _ :: cs, _ :: ys, h => by simp only [ej, List.length_cons] at h ⊢; rw [qb x cs ys zO]
theorem oq (x : Tx) : ∀ (cs : List Tx) (ys : List Ex) (n : Nat), ys.length <= n -> ej x (cs.take n) ys = ej x cs ys
 | _, [], _, _ => by cases ‹List Tx› <;> simp [ej]
 | [], _ :: _, n, _ => by simp [ej]
 | c :: cs, a :: ys, 0, h => by simp at h
 | c :: cs, a :: ys, n + 1, h => by simp only [List.take_succ_cons, ej]; rw [oq x cs ys n (by simpa using h)]
theorem i7 : ∀ (w w' : World) (L : List Value) (x : Ex), Sub w w' -> a7 w L x -> a7 w' L x := λ _ _ _ _ hs h => a7.sub h hs
theorem cN.ltM {X : Type} {R : World -> List Value -> X -> Prop} {B : Nat} {T : TypeId} {n : Nat} {w : World} {v : Value} {xs : List X} (h : cN R B T n w v xs) : ∀ g, v.ownBlock = some g -> B <= g /\ g < w.heap.size := by
 obtain ⟨Ls, h1, _⟩ := h; exact h1.lt
def JL : Value := .agg #[.int .i64 0, .string ⟨#[]⟩, .int .i64 0, .slice none 0 0, .slice none 0 0]
theorem mQ : (prog.info? 39).map (λ i => (i.zero, i.size, i.bytes)) = some (some JL, 5, 80) := by kernel_rfl
theorem rj {tmps : Array Value} {w : World} {N : Nat} {x0 x1 x2 x3 x4 : Value} (hp : tmps.getD 6 undef = .pointer (some ⟨N, 0, none⟩)) (hg : w.heap[N]? = some (.cells #[x0, x1, x2, x3, x4] 39 (0, 0))) :
  (results f59 tmps).run prog w = .ok (.agg #[x0, x1, x2, x3, x4]) w :=
 results_cell_row results59 tmps w N 39 _ (0, 0) _ hp hg underlying39 rfl eP
theorem se {w : World} {x : Tx} {cv av : Value} {cs : List Tx} {ys : List Ex} (hx : x.length <= maxLen) (hcs : aH w cv cs) (has : aw w (a7 w) av ys) (hl : ys.length <= cs.length) (hcl : cs.length <= 2097152) (hs : ∀ a ∈ ys, dU a) :
  Calls prog 59 #[.string (str x), cv, av] w (fV (nL x cs ys) w) := by
 obtain ⟨Ac, nc, rfl, hc1, hc2, hc3⟩ := id hcs; obtain ⟨Aa, na, rfl, ha1, ha2, ha3⟩ := has; have hall : ys.length <= 9223372036854775807 := (by unfold maxLen at ha2; omega); have HCS := zH hcs; have HL := zH hl; have HX := zH hx; have R0 := zH (heap_alloc_new w (.cells #[.int .i64 0, .string ⟨#[]⟩, .int .i64 0, .slice none 0 0, .slice none 0 0] 39)); have hal := zH (zA w (.cells #[.int .i64 0, .string ⟨#[]⟩, .int .i64 0, .slice none 0 0, .slice none 0 0] 39)); clear hcs hx; go_enter func59, ntmps59
 go_wp2_with (first
  | (go_at_call 22; (with_reducible refine (cx (HCS.o.under hal.o) hcl).mono ?_); rintro e w1 ⟨v1, rfl, ho1, hb1⟩; obtain ⟨V1, rfl⟩ := zW w1; obtain ⟨A3, n3, c3, rfl, rfl⟩ := ho1.shape; have HO1 := zH ho1; have HB1 := zH (hal.o.trans (hb1.mono hal.o.size)); have R1 := zH (ab hb1 R0.o); clear ho1 hb1))
 have hz1 := ak R1.o
 go_loopg [16] ys.length (λ g v wr => ∃ (k : Nat) (kv : Value), k + g = ys.length /\ v = .int .i64 k /\ Below V1.heap.size V1 wr /\ V1.heap.size + 1 <= wr.heap.size /\
  wr.heap[V1.heap.size]? = some (.cells #[.int .i64 12, .string (str x), .int .i64 0, .slice A3 cs.length c3, kv] 39 (0, 0)) /\ cN a7 (V1.heap.size + 1) 39 5 wr kv (ej x (cs.take k) (ys.take k)))
 case atStart =>
  exact ⟨0, .slice none 0 0, by omega, rfl, (Below.refl _ _).alloc (Nat.le_refl _) _, by simp, heap_alloc_new _ _, by simp only [List.take_zero, ej]; exact cN.nil _⟩
 case round =>
  obtain ⟨k, kv, hkg, rfl, hbw, hz, hOB, hO⟩ := hrel; have HK := zH hkg; have HW := zH hbw; have HZ := zH hz; have HOB := zH hOB; have HO := zH hO; have HBw := zH (HB1.o.trans (hbw.mono HB1.o.size)); obtain ⟨A6, m6, c6, rfl, hm6⟩ := hO.shape; clear hkg hbw hOB hO hm6; by_cases hlt : k < ys.length
  . obtain ⟨y, hy⟩ := zG hlt; obtain ⟨con, hcon⟩ : ∃ y, cs[k]? = some y := zG zO; obtain ⟨L, hL, hex⟩ := ha3 k y hy; obtain ⟨Lc, ⟨ac, rfl, hcc⟩, rfl, hcm⟩ := hc3 k con hcon; have hcc0 : w.cell? (ac.add k) = some (.string (str con)) := (by simpa [add_zero] using hcc 0 _ rfl); have HCC := zH hcc0; have hcc1 := (HBw.o.cell (World.block_lt_of_cell? w _ hcc0)).trans hcc0; have hnc : k < cs.length := zO; have HSA := zH (xH HX.o hcm hex (hs y (List.mem_of_getElem? hy))); have HSN := zH (ot x cs ys k con y hcon hy); have HLN := zH (show (ej x (cs.take k) (ys.take k)).length <= 2097152 by rw [qb x _ _ (by simp only [List.length_take]; omega), List.length_take]; omega); obtain ⟨o1, s1, n1, A1, m1, k1, A2, m2, k2, rfl⟩ := hex.shape; obtain ⟨a, rfl, ha, haa, d0, d1, d2, d3, d4⟩ := fB (hL.under HBw.o); have HT := zH (heap_alloc_new wr (.cells #[.int .i64 o1, .string s1, .int .i64 n1, .slice A1 m1 k1, .slice A2 m2 k2] 39)); have HOB4 := zH (ag (o := .cells #[.int .i64 o1, .string s1, .int .i64 n1, .slice A1 m1 k1, .slice A2 m2 k2] 39) HOB.o); clear hy hcon hL hex ha3 hc3 hcc hcc0; go_wp2_with fail
    obtain ⟨q0, q1, q2, q3, q4⟩ := aN HOB4.o
    have KEEP := zH (show ∀ W, Below (wr.alloc (.cells #[.int .i64 o1, .string s1, .int .i64 n1, .slice A1 m1 k1, .slice A2 m2 k2] 39)).heap.size (wr.alloc (.cells #[.int .i64 o1, .string s1, .int .i64 n1, .slice A1 m1 k1, .slice A2 m2 k2] 39)) W -> (λ W => (W.cell? ⟨wr.heap.size, 0, none⟩ = some (.int .i64 o1) /\ W.cell? ⟨wr.heap.size, 1, none⟩ = some (.string s1) /\ W.cell? ⟨wr.heap.size, 2, none⟩ = some (.int .i64 n1) /\ W.cell? ⟨wr.heap.size, 3, none⟩ = some (.slice A1 m1 k1) /\ W.cell? ⟨wr.heap.size, 4, none⟩ = some (.slice A2 m2 k2)) /\ W.cell? (ac.add k) = some (.string (str con))) W from λ W hW => ⟨aN (ab hW HT.o), by
     have hlt := World.block_lt_of_cell? wr _ hcc1; exact (hW.cell (by simp; omega)).trans (((zA wr (.cells #[.int .i64 o1, .string s1, .int .i64 n1, .slice A1 m1 k1, .slice A2 m2 k2] 39)).cell hlt).trans hcc1)⟩)
    refine wp_region_held_drew (S := (λ W => (W.cell? ⟨wr.heap.size, 0, none⟩ = some (.int .i64 o1) /\ W.cell? ⟨wr.heap.size, 1, none⟩ = some (.string s1) /\ W.cell? ⟨wr.heap.size, 2, none⟩ = some (.int .i64 n1) /\ W.cell? ⟨wr.heap.size, 3, none⟩ = some (.slice A1 m1 k1) /\ W.cell? ⟨wr.heap.size, 4, none⟩ = some (.slice A2 m2 k2)) /\ W.cell? (ac.add k) = some (.string (str con)))) zK ?_ (λ hHeld => ?_)
    . exact KEEP.o _ (Below.refl _ _).drew
    refine aa 0 ?_; refine aa 2 ?_; refine aa 3 ?_; refine aa 4 ?_; refine aa 5 ?_; refine aa 6 ?_; refine aa 7 ?_; refine wpAnyH_ready (rs := [1, 8]) zK (by simp) (bh 1 rfl (λ K hK => ?_) (bh 8 rfl (λ K hK => ?_) AllReadyH.nil))
    . go_simp
      refine hK.out _ _ (KEEP.o _ ?_) (λ hHeld => ?_)
      . (repeat (first | exact Below.refl _ _ | exact Below.refl _ _ | refine Below.drew ?_ | refine Below.alloc ?_ (by simp) _ | refine Below.setCell ?_ (by simp) _))
      clear hK K; try simp only [Act.put, aK, aI, aJ]
      refine ay 8 zK rfl (λ K hK => ?_); go_simp
      (go_at_call 111
       (with_reducible refine (HSA.o _ ((HBw.o.alloc zO _).drew)).mono ?_); rintro e w7 ⟨hb7, M, rfl, hM⟩; obtain ⟨V2, rfl⟩ := zW w7; have G2 := zH (show Below (wr.alloc (.cells #[.int .i64 o1, .string s1, .int .i64 n1, .slice A1 m1 k1, .slice A2 m2 k2] 39)).heap.size (wr.alloc (.cells #[.int .i64 o1, .string s1, .int .i64 n1, .slice A1 m1 k1, .slice A2 m2 k2] 39)) V2 from (Below.refl _ _).drew.trans hb7); have HM2 := zH hM; obtain ⟨o3, s3, n3, A7, m7, k7, A8, m8, k8, rfl⟩ := hM.shape; have B2 := zH (ab G2.o HOB4.o); have hz2 := G2.o.size; have hz4 : wr.heap.size + 1 <= V2.heap.size := (by have := G2.o.size; simp at this; omega); obtain ⟨t0, t1, t2, t3, t4⟩ := aN B2.o; have HO2 := zH (λ (o : Obj) => cN.same i7 HO.o ((((aL.refl (V1.heap.size + 1) wr).alloc (.cells #[.int .i64 o1, .string s1, .int .i64 n1, .slice A1 m1 k1, .slice A2 m2 k2] 39)).trans (aL.below G2.o)).alloc o)); have HV2 := zH ((HBw.o.alloc HBw.o.size (.cells #[.int .i64 o1, .string s1, .int .i64 n1, .slice A1 m1 k1, .slice A2 m2 k2] 39)).trans (G2.o.mono (Nat.le_trans HBw.o.size (by simp)))); have HMO := zH (λ (o : Obj) => HM2.o.sub (cO (B := V1.heap.size + 1) (w' := V2.alloc o) (ob := (Value.slice A6 m6 c6).ownBlock) ((aL.refl _ V2).alloc o) (by have := HZ.o; simp [World.drew]; omega) (λ g hg => .inl (by have := (HO.o.ltM g hg).2; simp [World.drew]; omega)))); have hz3 : ∀ o, V1.heap.size + 1 <= (V2.alloc o).heap.size := λ o => by have := HZ.o; simp at hz2 ⊢; omega
       clear hb7 hM)
      refine hK.out _ _ (KEEP.o _ ?_) (λ hHeld => ?_)
      . (repeat (first | exact Below.refl _ _ | exact G2.o | refine Below.drew ?_ | refine Below.alloc ?_ (by simp) _ | refine Below.setCell ?_ (by simp) _))
      clear hK K; try simp only [Act.put, aK, aI, aJ]
      refine ay 9 zK rfl (λ K hK => ?_); go_simp
      refine hK.out _ _ (KEEP.o _ ?_) (λ hHeld => ?_)
      . (repeat (first | exact Below.refl _ _ | exact (G2.o.alloc hz2 _) | refine Below.drew ?_ | refine Below.alloc ?_ (by simp) _ | refine Below.setCell ?_ (by simp) _))
      clear hK K; try simp only [Act.put, aK, aI, aJ]
      refine ay 10 zK rfl (λ K hK => ?_); rw [if_pos (by rfl)]; refine kI (R := a7) (B := V1.heap.size + 1) (L := [.int .i64 o3, .string s3, .int .i64 n3, .slice A7 m7 k7, .slice A8 m8 k8]) i7 _ _ rfl underlying37 mQ rfl zD zD rfl rfl (aF rfl) rfl (tU _ _ HM2.o) (HO2.o _) (HMO.o _) HLN.o (hz3 _) ?_; intro v5 w5 h5 g5 f5; obtain ⟨V5, rfl⟩ := zW w5; obtain ⟨A9, m9, c9, rfl, hm9⟩ := h5.shape; have HO5 := zH h5; have HB5 := zH g5; have E5 := zH ((f5.block wr.heap.size (by simp at hz2 ⊢; omega) (λ e => by have := (HO.o.ltM _ e.symm).2; omega)).trans (ag (o := .cells #[.int .i64 o3, .string s3, .int .i64 n3, .slice A7 m7 k7, .slice A8 m8 k8] 39) (ab G2.o HT.o))); have Z5 := zH ((g5.block V1.heap.size zO).trans (ag (o := .cells #[.int .i64 o3, .string s3, .int .i64 n3, .slice A7 m7 k7, .slice A8 m8 k8] 39) B2.o)); have HV5 := zH ((HV2.o.alloc HV2.o.size (.cells #[.int .i64 o3, .string s3, .int .i64 n3, .slice A7 m7 k7, .slice A8 m8 k8] 39)).trans (HB5.o.mono (by have := HBw.o.size; have := HW.o.size; have := HB1.o.size; omega))); have C5 := zH ((HV5.o.cell (World.block_lt_of_cell? w _ HCC.o)).trans HCC.o); clear h5 g5 f5 hm9; obtain ⟨z0, z1, z2, z3, z4⟩ := aN Z5.o; have f4 := ar Z5.o 4; refine hK.out _ _ ⟨aN E5.o, C5.o⟩ (λ hHeld => ?_); clear hK K; try simp only [Act.put, aK, aI, aJ]
      refine aa 11 ?_; refine ay 12 zK rfl (λ K hK => ?_); go_simp
      refine hK.out _ _ ⟨aN ((aD _ _ _ _ _ zO).trans E5.o), (World.cell?_of_block (aD _ _ _ _ _ (by have := World.block_lt_of_cell? w _ HCC.o; have := HB1.o.size; omega))).trans C5.o⟩ (λ hHeld => ?_); clear hK K; try simp only [Act.put, aK, aI, aJ]
      refine wpAnyH_done zK ?_ _; go_wp2_with fail
      go_roundg (ys.length - (k + 1))
      case measure => have := HK.o; omega
      case rel =>
       refine ⟨k + 1, .slice A9 m9 c9, by omega, by go_num, ?_, ?_, kL _ Z5.o, ?_⟩
       . exact (((HW.o.alloc HW.o.size (.cells #[.int .i64 o1, .string s1, .int .i64 n1, .slice A1 m1 k1, .slice A2 m2 k2] 39)).trans (G2.o.mono (Nat.le_trans HW.o.size (by simp)))).alloc (by have := HW.o.size; omega) (.cells #[.int .i64 o3, .string s3, .int .i64 n3, .slice A7 m7 k7, .slice A8 m8 k8] 39)).trans (HB5.o.mono (Nat.le_succ _)) |>.setCell (Nat.le_refl _) _
       . exact Nat.le_trans (ak Z5.o) (Below.size ((Below.refl 0 V5).setCell (p := ⟨V1.heap.size, 4, none⟩) (Nat.zero_le _) (.slice A9 m9 c9)))
       . rw [HSN.o]; exact cN.same i7 HO5.o ((aL.refl _ V5).set (.inl (Nat.lt_succ_self _)) _)
    . go_simp
      (go_at_call 111
       (with_reducible refine (HSA.o _ ((HBw.o.alloc zO _).drew)).mono ?_); rintro e w7 ⟨hb7, M, rfl, hM⟩; obtain ⟨V2, rfl⟩ := zW w7; have G2 := zH (show Below (wr.alloc (.cells #[.int .i64 o1, .string s1, .int .i64 n1, .slice A1 m1 k1, .slice A2 m2 k2] 39)).heap.size (wr.alloc (.cells #[.int .i64 o1, .string s1, .int .i64 n1, .slice A1 m1 k1, .slice A2 m2 k2] 39)) V2 from (Below.refl _ _).drew.trans hb7); have HM2 := zH hM; obtain ⟨o3, s3, n3, A7, m7, k7, A8, m8, k8, rfl⟩ := hM.shape; have B2 := zH (ab G2.o HOB4.o); have hz2 := G2.o.size; have hz4 : wr.heap.size + 1 <= V2.heap.size := (by have := G2.o.size; simp at this; omega); obtain ⟨t0, t1, t2, t3, t4⟩ := aN B2.o; have HO2 := zH (λ (o : Obj) => cN.same i7 HO.o ((((aL.refl (V1.heap.size + 1) wr).alloc (.cells #[.int .i64 o1, .string s1, .int .i64 n1, .slice A1 m1 k1, .slice A2 m2 k2] 39)).trans (aL.below G2.o)).alloc o)); have HV2 := zH ((HBw.o.alloc HBw.o.size (.cells #[.int .i64 o1, .string s1, .int .i64 n1, .slice A1 m1 k1, .slice A2 m2 k2] 39)).trans (G2.o.mono (Nat.le_trans HBw.o.size (by simp)))); have HMO := zH (λ (o : Obj) => HM2.o.sub (cO (B := V1.heap.size + 1) (w' := V2.alloc o) (ob := (Value.slice A6 m6 c6).ownBlock) ((aL.refl _ V2).alloc o) (by have := HZ.o; simp [World.drew]; omega) (λ g hg => .inl (by have := (HO.o.ltM g hg).2; simp [World.drew]; omega)))); have hz3 : ∀ o, V1.heap.size + 1 <= (V2.alloc o).heap.size := λ o => by have := HZ.o; simp at hz2 ⊢; omega
       clear hb7 hM)
      refine hK.out _ _ (KEEP.o _ ?_) (λ hHeld => ?_)
      . (repeat (first | exact Below.refl _ _ | exact G2.o | refine Below.drew ?_ | refine Below.alloc ?_ (by simp) _ | refine Below.setCell ?_ (by simp) _))
      clear hK K; try simp only [Act.put, aK, aI, aJ]
      refine wpAnyH_ready (rs := [1, 9]) zK (by simp) (bh 1 rfl (λ K hK => ?_) (bh 9 rfl (λ K hK => ?_) AllReadyH.nil))
      . go_simp
        refine hK.out _ _ (KEEP.o _ ?_) (λ hHeld => ?_)
        . (repeat (first | exact Below.refl _ _ | exact G2.o | refine Below.drew ?_ | refine Below.alloc ?_ (by simp) _ | refine Below.setCell ?_ (by simp) _))
        clear hK K; try simp only [Act.put, aK, aI, aJ]
        refine ay 9 zK rfl (λ K hK => ?_); go_simp
        refine hK.out _ _ (KEEP.o _ ?_) (λ hHeld => ?_)
        . (repeat (first | exact Below.refl _ _ | exact (G2.o.alloc hz2 _) | refine Below.drew ?_ | refine Below.alloc ?_ (by simp) _ | refine Below.setCell ?_ (by simp) _))
        clear hK K; try simp only [Act.put, aK, aI, aJ]
        refine ay 10 zK rfl (λ K hK => ?_); rw [if_pos (by rfl)]; refine kI (R := a7) (B := V1.heap.size + 1) (L := [.int .i64 o3, .string s3, .int .i64 n3, .slice A7 m7 k7, .slice A8 m8 k8]) i7 _ _ rfl underlying37 mQ rfl zD zD rfl rfl (aF rfl) rfl (tU _ _ HM2.o) (HO2.o _) (HMO.o _) HLN.o (hz3 _) ?_; intro v5 w5 h5 g5 f5; obtain ⟨V5, rfl⟩ := zW w5; obtain ⟨A9, m9, c9, rfl, hm9⟩ := h5.shape; have HO5 := zH h5; have HB5 := zH g5; have E5 := zH ((f5.block wr.heap.size (by simp at hz2 ⊢; omega) (λ e => by have := (HO.o.ltM _ e.symm).2; omega)).trans (ag (o := .cells #[.int .i64 o3, .string s3, .int .i64 n3, .slice A7 m7 k7, .slice A8 m8 k8] 39) (ab G2.o HT.o))); have Z5 := zH ((g5.block V1.heap.size zO).trans (ag (o := .cells #[.int .i64 o3, .string s3, .int .i64 n3, .slice A7 m7 k7, .slice A8 m8 k8] 39) B2.o)); have HV5 := zH ((HV2.o.alloc HV2.o.size (.cells #[.int .i64 o3, .string s3, .int .i64 n3, .slice A7 m7 k7, .slice A8 m8 k8] 39)).trans (HB5.o.mono (by have := HBw.o.size; have := HW.o.size; have := HB1.o.size; omega))); have C5 := zH ((HV5.o.cell (World.block_lt_of_cell? w _ HCC.o)).trans HCC.o); clear h5 g5 f5 hm9; obtain ⟨z0, z1, z2, z3, z4⟩ := aN Z5.o; have f4 := ar Z5.o 4; refine hK.out _ _ ⟨aN E5.o, C5.o⟩ (λ hHeld => ?_); clear hK K; try simp only [Act.put, aK, aI, aJ]
        refine aa 11 ?_; refine ay 12 zK rfl (λ K hK => ?_); go_simp
        refine hK.out _ _ ⟨aN ((aD _ _ _ _ _ zO).trans E5.o), (World.cell?_of_block (aD _ _ _ _ _ (by have := World.block_lt_of_cell? w _ HCC.o; have := HB1.o.size; omega))).trans C5.o⟩ (λ hHeld => ?_); clear hK K; try simp only [Act.put, aK, aI, aJ]
        refine wpAnyH_done zK ?_ _; go_wp2_with fail
        go_roundg (ys.length - (k + 1))
        case measure => have := HK.o; omega
        case rel =>
         refine ⟨k + 1, .slice A9 m9 c9, by omega, by go_num, ?_, ?_, kL _ Z5.o, ?_⟩
         . exact (((HW.o.alloc HW.o.size (.cells #[.int .i64 o1, .string s1, .int .i64 n1, .slice A1 m1 k1, .slice A2 m2 k2] 39)).trans (G2.o.mono (Nat.le_trans HW.o.size (by simp)))).alloc (by have := HW.o.size; omega) (.cells #[.int .i64 o3, .string s3, .int .i64 n3, .slice A7 m7 k7, .slice A8 m8 k8] 39)).trans (HB5.o.mono (Nat.le_succ _)) |>.setCell (Nat.le_refl _) _
         . exact Nat.le_trans (ak Z5.o) (Below.size ((Below.refl 0 V5).setCell (p := ⟨V1.heap.size, 4, none⟩) (Nat.zero_le _) (.slice A9 m9 c9)))
         . rw [HSN.o]; exact cN.same i7 HO5.o ((aL.refl _ V5).set (.inl (Nat.lt_succ_self _)) _)
      . go_simp
        refine hK.out _ _ (KEEP.o _ ?_) (λ hHeld => ?_)
        . (repeat (first | exact Below.refl _ _ | exact (G2.o.alloc hz2 _) | refine Below.drew ?_ | refine Below.alloc ?_ (by simp) _ | refine Below.setCell ?_ (by simp) _))
        clear hK K; try simp only [Act.put, aK, aI, aJ]
        obtain ⟨t0, t1, t2, t3, t4⟩ := aN (ag (o := .cells #[.int .i64 o3, .string s3, .int .i64 n3, .slice A7 m7 k7, .slice A8 m8 k8] 39) B2.o); refine ay 1 zK rfl (λ K hK => ?_); go_simp
        refine hK.out _ _ (KEEP.o _ ?_) (λ hHeld => ?_)
        . (repeat (first | exact Below.refl _ _ | exact (G2.o.alloc hz2 _) | refine Below.drew ?_ | refine Below.alloc ?_ (by simp) _ | refine Below.setCell ?_ (by simp) _))
        clear hK K; try simp only [Act.put, aK, aI, aJ]
        refine ay 10 zK rfl (λ K hK => ?_); rw [if_pos (by rfl)]; refine kI (R := a7) (B := V1.heap.size + 1) (L := [.int .i64 o3, .string s3, .int .i64 n3, .slice A7 m7 k7, .slice A8 m8 k8]) i7 _ _ rfl underlying37 mQ rfl zD zD rfl rfl (aF rfl) rfl (tU _ _ HM2.o) (HO2.o _) (HMO.o _) HLN.o (hz3 _) ?_; intro v5 w5 h5 g5 f5; obtain ⟨V5, rfl⟩ := zW w5; obtain ⟨A9, m9, c9, rfl, hm9⟩ := h5.shape; have HO5 := zH h5; have HB5 := zH g5; have E5 := zH ((f5.block wr.heap.size (by simp at hz2 ⊢; omega) (λ e => by have := (HO.o.ltM _ e.symm).2; omega)).trans (ag (o := .cells #[.int .i64 o3, .string s3, .int .i64 n3, .slice A7 m7 k7, .slice A8 m8 k8] 39) (ab G2.o HT.o))); have Z5 := zH ((g5.block V1.heap.size zO).trans (ag (o := .cells #[.int .i64 o3, .string s3, .int .i64 n3, .slice A7 m7 k7, .slice A8 m8 k8] 39) B2.o)); have HV5 := zH ((HV2.o.alloc HV2.o.size (.cells #[.int .i64 o3, .string s3, .int .i64 n3, .slice A7 m7 k7, .slice A8 m8 k8] 39)).trans (HB5.o.mono (by have := HBw.o.size; have := HW.o.size; have := HB1.o.size; omega))); have C5 := zH ((HV5.o.cell (World.block_lt_of_cell? w _ HCC.o)).trans HCC.o); clear h5 g5 f5 hm9; obtain ⟨z0, z1, z2, z3, z4⟩ := aN Z5.o; have f4 := ar Z5.o 4; refine hK.out _ _ ⟨aN E5.o, C5.o⟩ (λ hHeld => ?_); clear hK K; try simp only [Act.put, aK, aI, aJ]
        refine aa 11 ?_; refine ay 12 zK rfl (λ K hK => ?_); go_simp
        refine hK.out _ _ ⟨aN ((aD _ _ _ _ _ zO).trans E5.o), (World.cell?_of_block (aD _ _ _ _ _ (by have := World.block_lt_of_cell? w _ HCC.o; have := HB1.o.size; omega))).trans C5.o⟩ (λ hHeld => ?_); clear hK K; try simp only [Act.put, aK, aI, aJ]
        refine wpAnyH_done zK ?_ _; go_wp2_with fail
        go_roundg (ys.length - (k + 1))
        case measure => have := HK.o; omega
        case rel =>
         refine ⟨k + 1, .slice A9 m9 c9, by omega, by go_num, ?_, ?_, kL _ Z5.o, ?_⟩
         . exact (((HW.o.alloc HW.o.size (.cells #[.int .i64 o1, .string s1, .int .i64 n1, .slice A1 m1 k1, .slice A2 m2 k2] 39)).trans (G2.o.mono (Nat.le_trans HW.o.size (by simp)))).alloc (by have := HW.o.size; omega) (.cells #[.int .i64 o3, .string s3, .int .i64 n3, .slice A7 m7 k7, .slice A8 m8 k8] 39)).trans (HB5.o.mono (Nat.le_succ _)) |>.setCell (Nat.le_refl _) _
         . exact Nat.le_trans (ak Z5.o) (Below.size ((Below.refl 0 V5).setCell (p := ⟨V1.heap.size, 4, none⟩) (Nat.zero_le _) (.slice A9 m9 c9)))
         . rw [HSN.o]; exact cN.same i7 HO5.o ((aL.refl _ V5).set (.inl (Nat.lt_succ_self _)) _)
  . have hke : k = ys.length := by have := HK.o; omega
    subst hke; have R5 := zH (ab (HW.o) R1.o); obtain ⟨q0, q1, q2, q3, q4⟩ := aN HOB.o; obtain ⟨r0, r1, r2, r3, r4⟩ := aN R5.o; have f0 := ar R5.o 0; have f1 := ar R5.o 1; have f2 := ar R5.o 2; have f3 := ar R5.o 3; have f4 := ar R5.o 4; go_wp2_with fail
    refine bodyPost_ret (rj rfl (bX _ _ _ _ _ R5.o)) rfl ⟨bD HBw.o (Nat.le_refl _) _ _ _ _ _, _, rfl, ?_⟩; have hO := HO.o; rw [List.take_length, oq x cs ys ys.length (Nat.le_refl _)] at hO; have hz := HZ.o; have hn := HB1.o.size; have hsub := λ a b c d e => Sub.trans (aL.sub (dm (N := w.heap.size) (aL.refl (w.heap.size + 1) wr) (.inl (Nat.lt_succ_self _)) a b c d e)) (bj (B' := w.heap.size) (Nat.le_succ _) _)
    have hcv : aH (cj (w.heap.size + 1) wr) (.slice A3 cs.length c3) cs := (fw.newS HO1.o).sub (by
     have := HW.o; rw [World.size_alloc]; exact aL.sub (aL.below this))
    exact gA (cw zO) (cw zO) HX.o (hcv.sub (hsub _ _ _ _ _)) ((cN.at_ i7 hO).sub (Sub.trans (bj (B' := w.heap.size + 1) zO _) (hsub _ _ _ _ _)) λ L x h => a7.sub h (Sub.trans (bj (B' := w.heap.size + 1) zO _) (hsub _ _ _ _ _)))
def jf : Ex -> Option Ex
 | .mk op nm _ cs ks => if op = 13 then some (nL nm cs ks) else none
def deM (e : Ex) : Ex := i8 jf e
mutual
def fQ : Ex -> Prop
 | .mk op _ _ cs ks => if op = 13 then ks.length <= cs.length else jC ks
def jC : List Ex -> Prop
 | [] => True
 | k :: l => fQ k /\ jC l
end
theorem sR : ∀ {l : List Ex}, jC l -> ∀ k ∈ l, fQ k
 | [], _, k, h => by simp at h
 | x :: l, h, k, hk => by
   rw [jC] at h
   rcases List.mem_cons.1 hk with rfl | hk
   . exact h.1
   . exact sR h.2 k hk
theorem CL : ∀ op nm n cs ks, jf (.mk op nm n cs ks) = none -> fQ (.mk op nm n cs ks) -> ∀ k ∈ ks, fQ k := λ op nm n cs ks hr h => by
 have ho : ¬ op = 13 := λ e => by simp [jf, e] at hr
 rw [fQ, if_neg ho] at h
 exact sR h
theorem Bo {op n : Int} {nm : Tx} {cs : List Tx} {ks : List Ex} (h : dU (.mk op nm n cs ks)) : ∀ k ∈ ks, dU k := λ k hk => by
 rw [dU] at h
 obtain ⟨i, hi⟩ := List.getElem?_of_mem hk
 exact ny h.2.2 i k hi
theorem JN {w0 : World} {o0 : Int} {y : Ex} {L : List Value} (h : a7 w0 L y) (hy : ∃ s n cs ks, y = .mk o0 s n cs ks) (ho : ¬ o0 = 13) (w : World) :
  Calls prog 58 #[.agg L.toArray] w (np none w) := by
 have hop : ∃ s0 n0 A0 m0 k0 B0 j0 l0, L = [.int .i64 o0, .string s0, .int .i64 n0, .slice A0 m0 k0, .slice B0 j0 l0] := by
  obtain ⟨s, n, cs, ks, rfl⟩ := hy; cases h with
  | mk _ _ _ hcs _ _ _ _ =>
    obtain ⟨A, c, rfl, _⟩ := hcs; exact ⟨_, _, _, _, _, _, _, _, rfl⟩
 obtain ⟨s0, n0, A0, m0, k0, B0, j0, l0, rfl⟩ := hop; have R0 := zH (aF (w := w.alloc (.cells #[.int .i64 o0, .string s0, .int .i64 n0, .slice A0 m0 k0, .slice B0 j0 l0] 39)) (o := .cells #[.int .i64 0, .string ⟨#[]⟩, .int .i64 0, .slice none 0 0, .slice none 0 0] 39) (n := w.heap.size + 1) (by simp)); obtain ⟨r0, r1, r2, r3, r4⟩ := aN R0.o; have f0 := ar R0.o 0; have f1 := ar R0.o 1; have f2 := ar R0.o 2; have f3 := ar R0.o 3; have f4 := ar R0.o 4; have hd : decide (o0 = 13) = false := (by simpa using ho); clear h hy; go_enter func58, ntmps58
 go_wp2_with fail
 refine bodyPost_ret (cR results58 _ _ _ rfl rfl (jh R0.o)) rfl ⟨((Below.refl _ _).alloc (Nat.le_refl _) _).alloc (by simp) _, rfl⟩
theorem IN {w0 : World} {s : Tx} {n : Int} {cs : List Tx} {ks : List Ex} {L : List Value} (h : a7 w0 L (.mk 13 s n cs ks)) (hs : dU (.mk 13 s n cs ks)) (hl : ks.length <= cs.length) (w : World) (hb : Below w0.heap.size w0 w) :
  Calls prog 58 #[.agg L.toArray] w (np (some (nL s cs ks)) w) := by
 have hop : ∃ n0 A0 m0 k0 B0 j0 l0, L = [.int .i64 13, .string (str s), .int .i64 n0, .slice A0 m0 k0, .slice B0 j0 l0] /\ s.length <= maxLen /\ aH w0 (.slice A0 m0 k0) cs /\ aw w0 (a7 w0) (.slice B0 j0 l0) ks := by
  cases h with
  | mk _ hnm _ hcs hl hc hk hx =>
    obtain ⟨A, c, rfl, h1⟩ := id hcs; exact ⟨_, _, _, _, _, _, _, rfl, hnm, hcs, _, _, rfl, hl, hc, λ i x hi => ⟨_, hk i x hi, hx i x hi⟩⟩
 obtain ⟨n0, A0, m0, k0, B0, j0, l0, rfl, hn, hcs, hks⟩ := hop; have hm := λ (W : World) (hW : Below w0.heap.size w0 W) => se (w := W) hn (hcs.under hW) (aw.mono hks hW λ _ _ h => h.under hW) hl (by rw [dU] at hs; exact hs.1) (Bo hs); have HM := zH hm; have HB := zH hb; have E0 := zH (aT (o := .cells #[.int .i64 0, .string ⟨#[]⟩, .int .i64 0, .slice none 0 0, .slice none 0 0] 39) (heap_alloc_new w (.cells #[.int .i64 13, .string (str s), .int .i64 n0, .slice A0 m0 k0, .slice B0 j0 l0] 39))); have R0 := zH (aF (w := w.alloc (.cells #[.int .i64 13, .string (str s), .int .i64 n0, .slice A0 m0 k0, .slice B0 j0 l0] 39)) (o := .cells #[.int .i64 0, .string ⟨#[]⟩, .int .i64 0, .slice none 0 0, .slice none 0 0] 39) (n := w.heap.size + 1) (by simp)); have b2 := zH ((zA w (.cells #[.int .i64 13, .string (str s), .int .i64 n0, .slice A0 m0 k0, .slice B0 j0 l0] 39)).alloc (by simp) (.cells #[.int .i64 0, .string ⟨#[]⟩, .int .i64 0, .slice none 0 0, .slice none 0 0] 39)); obtain ⟨p0, p1, p2, p3, p4⟩ := aN E0.o; clear h hs hm hcs hks hn hb; go_enter func58, ntmps58
 go_wp2_with (first
  | (go_at_call 59; (with_reducible refine (HM.o _ (HB.o.trans (b2.o.mono HB.o.size))).mono ?_); rintro e w1 ⟨hb1, M, rfl, hM⟩; obtain ⟨V1, rfl⟩ := zW w1; obtain ⟨o1, s1, n1, A1, m1, k1, B1, j1, l1, rfl⟩ := hM.shape; have HM1 := zH hM; have HB1 := zH hb1; have R1 := zH (ab hb1 R0.o); obtain ⟨r0, r1, r2, r3, r4⟩ := aN R1.o; have f0 := ar R1.o 0; have f1 := ar R1.o 1; have f2 := ar R1.o 2; have f3 := ar R1.o 3; have f4 := ar R1.o 4; clear hb1 hM))
 refine bodyPost_ret (cR results58 _ _ _ rfl rfl (jh (bX _ _ _ _ _ R1.o))) rfl ⟨bD (b2.o.trans (HB1.o.mono b2.o.size)) zO _ _ _ _ _, [.int .i64 o1, .string s1, .int .i64 n1, .slice A1 m1 k1, .slice B1 j1 l1], rfl, ?_⟩; exact HM1.o.sub (Sub.trans (aL.sub (dm (aL.refl _ V1) (.inl (by simp)) _ _ _ _ _)) (bj (by simp; omega) _))
theorem JM (w0 : World) : oa fQ w0 58 #[] jf := by
 refine ⟨λ args W => by kernel_rfl, λ y L h hs hq w hb => ?_⟩; obtain ⟨op, s, n, cs, ks⟩ := y; by_cases ho : op = 13
 . subst ho; rw [fQ, if_pos rfl] at hq; rw [show jf (.mk 13 s n cs ks) = some (nL s cs ks) by simp [jf]]; exact IN h hs hq w hb
 . rw [show jf (.mk op s n cs ks) = none by simp [jf, ho]]; exact JN h ⟨s, n, cs, ks, rfl⟩ ho w
theorem xm {tmps : Array Value} {w : World} {N : Nat} {x0 x1 x2 x3 x4 : Value} (hp : tmps.getD 2 undef = .pointer (some ⟨N, 0, none⟩)) (hg : w.heap[N]? = some (.cells #[x0, x1, x2, x3, x4] 39 (0, 0))) :
  (results f24 tmps).run prog w = .ok (.agg #[x0, x1, x2, x3, x4]) w :=
 results_cell_row results24 tmps w N 39 _ (0, 0) _ hp hg underlying39 rfl eP
theorem IP {w0 : World} {L : List Value} {x : Ex} (h : a7 w0 L x) (hs : dU x) (hq : fQ x) (w : World) (hb : Below w0.heap.size w0 w) : Calls prog 24 #[.agg L.toArray] w (fV (deM x) w) := by
 have HR := zH (mo CL (JM w0) h hs hq); have HQ := zH (show i8 jf x = deM x from rfl); obtain ⟨o0, s0, n0, A0, m0, k0, B0, j0, l0, rfl⟩ := h.shape; have HB := zH hb; have E0 := zH (aT (o := .cells #[.int .i64 0, .string ⟨#[]⟩, .int .i64 0, .slice none 0 0, .slice none 0 0] 39) (heap_alloc_new w (.cells #[.int .i64 o0, .string s0, .int .i64 n0, .slice A0 m0 k0, .slice B0 j0 l0] 39))); have R0 := zH (aF (w := w.alloc (.cells #[.int .i64 o0, .string s0, .int .i64 n0, .slice A0 m0 k0, .slice B0 j0 l0] 39)) (o := .cells #[.int .i64 0, .string ⟨#[]⟩, .int .i64 0, .slice none 0 0, .slice none 0 0] 39) (n := w.heap.size + 1) (by simp)); have b2 := zH ((zA w (.cells #[.int .i64 o0, .string s0, .int .i64 n0, .slice A0 m0 k0, .slice B0 j0 l0] 39)).alloc (by simp) (.cells #[.int .i64 0, .string ⟨#[]⟩, .int .i64 0, .slice none 0 0, .slice none 0 0] 39)); obtain ⟨p0, p1, p2, p3, p4⟩ := aN E0.o; clear h hs hq hb; go_enter func24, ntmps24
 go_wp2_with (first
  | (go_at_call 57; (with_reducible refine (HR.o _ (HB.o.trans (b2.o.mono HB.o.size))).mono ?_); rintro e w1 ⟨hb1, M, rfl, hM⟩; obtain ⟨V1, rfl⟩ := zW w1; obtain ⟨o1, s1, n1, A1, m1, k1, B1, j1, l1, rfl⟩ := hM.shape; have HM1 := zH hM; have HB1 := zH hb1; have R1 := zH (ab hb1 R0.o); obtain ⟨r0, r1, r2, r3, r4⟩ := aN R1.o; have f0 := ar R1.o 0; have f1 := ar R1.o 1; have f2 := ar R1.o 2; have f3 := ar R1.o 3; have f4 := ar R1.o 4; clear hb1 hM))
 refine bodyPost_ret (xm rfl (bX _ _ _ _ _ R1.o)) rfl ⟨bD (b2.o.trans (HB1.o.mono b2.o.size)) zO _ _ _ _ _, [.int .i64 o1, .string s1, .int .i64 n1, .slice A1 m1 k1, .slice B1 j1 l1], rfl, ?_⟩; exact HM1.o.sub (Sub.trans (aL.sub (dm (aL.refl _ V1) (.inl (by simp)) _ _ _ _ _)) (bj (by simp; omega) _))
theorem wB : (prog.info? 44).map (·.size) = some 7 := by kernel_rfl
theorem wC {tmps : Array Value} {w : World} {N : Nat} {x0 x1 x2 x3 x4 x5 x6 : Value} (hp : tmps.getD 4 undef = .pointer (some ⟨N, 0, none⟩)) (hg : w.heap[N]? = some (.cells #[x0, x1, x2, x3, x4, x5, x6] 44 (0, 0))) :
  (results f23 tmps).run prog w = .ok (.agg #[x0, x1, x2, x3, x4, x5, x6]) w :=
 results_cell_row results23 tmps w N 44 _ (0, 0) _ hp hg underlying44 rfl wB
theorem kZ {A A1 A2 : Option Addr} {n c m1 k1 m2 k2 : Nat} {o1 n1 : Int} {s1 : ByteArray} (w : World) :
  Calls prog 23 #[.slice A n c, .agg #[.int .i64 o1, .string s1, .int .i64 n1, .slice A1 m1 k1, .slice A2 m2 k2]] w
   λ e w' => e = .returned (.agg #[.slice A n c, .int .i64 o1, .string s1, .int .i64 n1, .slice A1 m1 k1, .slice A2 m2 k2, .slice none 0 0]) /\ Below w.heap.size w w' := by
 have E0 := zH (aT (o := .cells #[.slice none 0 0, .int .i64 0, .string ⟨#[]⟩, .int .i64 0, .slice none 0 0, .slice none 0 0, .slice none 0 0] 44) (heap_alloc_new w (.cells #[.int .i64 o1, .string s1, .int .i64 n1, .slice A1 m1 k1, .slice A2 m2 k2] 39))); obtain ⟨p0, p1, p2, p3, p4⟩ := aN E0.o; go_enter func23, ntmps23
 go_wp2_with fail
 refine bodyPost_ret (wC (N := w.heap.size + 1) rfl (aF (by simp))) rfl ⟨rfl, ((Below.refl _ w).alloc (Nat.le_refl _) _).alloc (by simp) _⟩
def FI : Value := .agg #[.string ⟨#[]⟩, .slice none 0 0]
theorem jn : (prog.info? 46).map (λ i => (i.zero, i.size, i.bytes)) = some (some FI, 2, 40) := by kernel_rfl
def FG : Value := .agg #[.string ⟨#[]⟩, .slice none 0 0, .slice none 0 0, .slice none 0 0, .slice none 0 0]
theorem yo : (prog.info? 36).map (λ i => (i.zero, i.size, i.bytes)) = some (some FG, 5, 112) := by kernel_rfl
def FH : Value := .agg #[.slice none 0 0, .int .i64 0, .string ⟨#[]⟩, .int .i64 0, .slice none 0 0, .slice none 0 0, .slice none 0 0]
theorem lN : (prog.info? 44).map (λ i => (i.zero, i.size, i.bytes)) = some (some FH, 7, 128) := by kernel_rfl
theorem cd : ∀ (w w' : World) (L : List Value) (x : dw), Sub w w' -> bE w L x -> bE w' L x := λ _ _ _ _ hs h => bE.sub h hs
theorem d8 : ∀ (w w' : World) (L : List Value) (x : aY), Sub w w' -> ch w L x -> ch w' L x := λ _ _ _ _ hs h => ch.sub h hs
theorem iI : ∀ (w w' : World) (L : List Value) (x : a8), Sub w w' -> bf w L x -> bf w' L x := λ _ _ _ _ hs h => bf.sub h hs
theorem Ag (s : ByteArray) (A1 : Option Addr) (n1 k1 : Nat) : ∀ u ∈ [Value.string s, .slice A1 n1 k1], u.oneCell' = true := by
 intro u hu; simp only [List.mem_cons, List.not_mem_nil, or_false] at hu; rcases hu with rfl | rfl <;> rfl
theorem Ka (s : ByteArray) (A1 A2 A3 A4 : Option Addr) (n1 k1 n2 k2 n3 k3 n4 k4 : Nat) : ∀ u ∈ [Value.string s, .slice A1 n1 k1, .slice A2 n2 k2, .slice A3 n3 k3, .slice A4 n4 k4], u.oneCell' = true := by
 intro u hu; simp only [List.mem_cons, List.not_mem_nil, or_false] at hu; rcases hu with rfl | rfl | rfl | rfl | rfl <;> rfl
theorem DN (A0 A4 A5 A6 : Option Addr) (n0 k0 n4 k4 n5 k5 n6 k6 : Nat) (o1 o3 : Int) (s : ByteArray) : ∀ u ∈ [Value.slice A0 n0 k0, .int .i64 o1, .string s, .int .i64 o3, .slice A4 n4 k4, .slice A5 n5 k5, .slice A6 n6 k6], u.oneCell' = true := by
 intro u hu; simp only [List.mem_cons, List.not_mem_nil, or_false] at hu; rcases hu with rfl | rfl | rfl | rfl | rfl | rfl | rfl <;> rfl
theorem fx.same {X : Type} {R : World -> List Value -> X -> Prop} {B : Nat} {D : List Nat} {T : TypeId} {n : Nat} {w w' : World} {v : Value} {xs : List X} (hsub : ∀ w w' L x, Sub w w' -> R w L x -> R w' L x) (h : fx R B D T n w v xs) (hs : aL B w w') : fx R B D T n w' v xs :=
 h.step hsub (.of hs) (λ g hg => hs.2 g (h.lt g hg).1 (h.lt g hg).2.1) (λ _ h => h) λ _ h => .inl h
theorem fx.ofL {X : Type} {R : World -> List Value -> X -> Prop} {B : Nat} {T : TypeId} {n : Nat} {w : World} {v : Value} {xs : List X} (hsub : ∀ w w' L x, Sub w w' -> R w L x -> R w' L x) (h : cN R B T n w v xs) : fx R B v.ownBlock.toList T n w v xs := by
 obtain ⟨Ls, h1, h2, h3, h4⟩ := h; refine ⟨Ls, h1, h2, h3, λ i L x hL hx => hsub _ _ _ _ (λ a u hu => ?_) (h4 i L x hL hx), λ g hg => by simp [hg]⟩; obtain ⟨g1, g2, g3⟩ := gO hu; rw [nP g1 (λ e => g2 (by simpa using e))]; exact g3
structure lU where
 B0 : Nat
 QB : Nat
 NB : Nat
 nm : Tx
 fs : List Tx
 is : List Tx
 os : List Tx
 A2 : Option Addr
 c2 : Nat
 A3 : Option Addr
 c3 : Nat
 A4 : Option Addr
 c4 : Nat
 qn : Value
 ns : List aY
 qbB : QB < B0
 nbB : B0 <= NB
structure Inn (P : lU) (es : List dw) (its : List a8) (qx qe mx mi : Value) (D1 D : List Nat) (X : World) : Prop where
 lt : ∀ d ∈ D, d < X.heap.size
 sub : ∀ d ∈ D1, d ∈ D
 nb : P.NB ∈ D
 nb1 : P.NB ∉ D1
 node : X.heap[P.NB]? = some (.cells #[.string (str P.nm), .slice P.A2 P.fs.length P.c2, .slice P.A3 P.is.length P.c3, .slice P.A4 P.os.length P.c4, mx] 36 (0, 0))
 prog : X.heap[P.QB]? = some (.cells #[qx, P.qn] 25 (0, 0))
 enums : fx bE P.B0 D 46 2 X qe es
 nodes : fx ch P.B0 D 36 5 X P.qn P.ns
 items : fx bf P.B0 D 44 7 X mi its
 qe1 : ∀ g, qe.ownBlock = some g -> g ∈ D1
 qn1 : ∀ g, P.qn.ownBlock = some g -> g ∈ D1 /\ qe.ownBlock ≠ some g
 mi1 : ∀ g, mi.ownBlock = some g -> g ∉ D1 /\ g ≠ P.NB
 s2 : aH (dE P.B0 D X) (.slice P.A2 P.fs.length P.c2) P.fs
 s3 : aH (dE P.B0 D X) (.slice P.A3 P.is.length P.c3) P.is
 s4 : aH (dE P.B0 D X) (.slice P.A4 P.os.length P.c4) P.os
section
variable {P : lU} {es : List dw} {its : List a8} {qx qe mx mi : Value} {D1 D : List Nat} {X X' : World}
theorem Inn.bs (h : Inn P es its qx qe mx mi D1 D X) : P.B0 < X.heap.size := by have := h.lt _ h.nb; have := P.nbB; omega
theorem Inn.calm (h : Inn P es its qx qe mx mi D1 D X) (hb : Below X.heap.size X X') : Inn P es its qx qe mx mi D1 D X' := by
 have hs : aL P.B0 X X' := aL.below hb; have hS := (cW.of (D := D) hs).sub (D' := D) λ _ h => .inl h; exact { h with lt := λ d hd => Nat.lt_of_lt_of_le (h.lt d hd) hb.size, node := ab hb h.node, prog := ab hb h.prog, enums := h.enums.same cd hs, nodes := h.nodes.same d8 hs, items := h.items.same iI hs, s2 := h.s2.sub hS, s3 := h.s3.sub hS, s4 := h.s4.sub hS }
theorem Inn.setNode (h : Inn P es its qx qe mx mi D1 D X) : Inn P es its qx qe mi mi D1 D (X.setCell ⟨P.NB, 4, none⟩ mi) := by
 have hs : cW P.B0 D X (X.setCell ⟨P.NB, 4, none⟩ mi) := (cW.refl _ _ _).set (.inr (.inl h.nb)) _; have hS := hs.sub (D' := D) λ _ h => .inl h; have hne : ∀ g, g ≠ P.NB -> (X.setCell ⟨P.NB, 4, none⟩ mi).heap[g]? = X.heap[g]? := λ g hg => Below.heap_setCell _ _ _ _ λ e => hg e; exact { h with lt := λ d hd => (by rw [World.size_setCell]; exact h.lt d hd), node := (by simpa using heap_setCell_same X P.NB 4 _ _ mi h.node), prog := (hne _ (by have := P.qbB; have := P.nbB; omega)).trans h.prog, enums := h.enums.step cd hs (λ g hg => hne g λ e => h.nb1 (e ▸ h.qe1 g hg)) (λ _ h => h) λ _ h => .inl h, nodes := h.nodes.step d8 hs (λ g hg => hne g λ e => h.nb1 (e ▸ (h.qn1 g hg).1)) (λ _ h => h) λ _ h => .inl h, items := h.items.step iI hs (λ g hg => hne g (h.mi1 g hg).2) (λ _ h => h) λ _ h => .inl h, s2 := h.s2.sub hS, s3 := h.s3.sub hS, s4 := h.s4.sub hS }
theorem Inn.setProg (h : Inn P es its qx qe mx mi D1 D X) : Inn P es its qe qe mx mi D1 D (X.setCell ⟨P.QB, 0, none⟩ qe) := by
 have hs : cW P.B0 D X (X.setCell ⟨P.QB, 0, none⟩ qe) := (cW.refl _ _ _).set (.inl P.qbB) _; have hS := hs.sub (D' := D) λ _ h => .inl h; have hne : ∀ g, P.B0 <= g -> (X.setCell ⟨P.QB, 0, none⟩ qe).heap[g]? = X.heap[g]? := λ g hg => Below.heap_setCell _ _ _ _ λ e => by have := P.qbB; simp at e; omega
 exact { h with lt := λ d hd => (by rw [World.size_setCell]; exact h.lt d hd), node := (hne _ P.nbB).trans h.node, prog := (by simpa using heap_setCell_same X P.QB 0 _ _ qe h.prog), enums := h.enums.step cd hs (λ g hg => hne g (h.enums.lt g hg).1) (λ _ h => h) λ _ h => .inl h, nodes := h.nodes.step d8 hs (λ g hg => hne g (h.nodes.lt g hg).1) (λ _ h => h) λ _ h => .inl h, items := h.items.step iI hs (λ g hg => hne g (h.items.lt g hg).1) (λ _ h => h) λ _ h => .inl h, s2 := h.s2.sub hS, s3 := h.s3.sub hS, s4 := h.s4.sub hS }
theorem GQ (w : World) (M : List Value) (x : a8) (h : bf w M x) : M.length = 7 /\ ∀ u ∈ M, u.oneCell' = true := by
 obtain ⟨A0, n0, k0, o1, s2, o3, A4, n4, k4, A5, n5, k5, A6, n6, k6, rfl⟩ := h.shape; exact ⟨rfl, DN _ _ _ _ _ _ _ _ _ _ _ _ _ _ _⟩
theorem Ho (w : World) (M : List Value) (x : dw) (h : bE w M x) : M.length = 2 /\ ∀ u ∈ M, u.oneCell' = true := by
 obtain ⟨cv, rfl, _, hc⟩ := h; obtain ⟨A, n, k, rfl⟩ := aw.shape hc; exact ⟨rfl, Ag _ _ _ _⟩
theorem gK {o : Oper} {a : Act} {Kc : Act -> World -> Prop} {Q : Exit -> Act -> World -> Prop} {v2 : Value} {ys : List a8} (s y : Operand)
  (hop : o.op = .call { callee := .builtin .append, args := #[s, y], argTypes := #[34, 34] }) (hs : a.eval s = mi) (hy : a.eval y = v2) (h : Inn P es its qx qe mx mi D1 D X) (hys : ys ≠ []) (hR : aw X (bf (dE P.B0 D X)) v2 ys) (hl : its.length + ys.length <= 4194304)
  (hk : ∀ mi' w' D', Inn P es (its ++ ys) qx qe mx mi' D1 D' w' -> Below P.B0 X w' -> (∀ g, g < X.heap.size -> mi.ownBlock ≠ some g -> w'.heap[g]? = X.heap[g]?) -> Kc (a.put o.dst mi') w') : o.wp prog a X Kc Q := by
 refine sX (R := bf) (B := P.B0) (D := D) iI s y hop underlying34 lN rfl zD zD hs hy hys hR (GQ _) h.items hl (Nat.le_of_lt h.bs) ?_; intro v' w' D' h1 d1 d2 hb hg ho; have hS : cW P.B0 D X w' := .grown hg λ g e => (h.items.lt g e).2.2; have hd : ∀ d ∈ D', d ∈ D ∨ X.heap.size <= d := λ d hd => (d2 d hd).imp id And.left; have hT := hS.sub (D' := D') hd; have hne : ∀ g, g < X.heap.size -> mi.ownBlock ≠ some g -> w'.heap[g]? = X.heap[g]? := λ g h1 h2 => hg.block g h1 λ e => h2 e.symm; refine hk v' w' D' { h with lt := λ d hd => (d2 d hd).elim (λ e => Nat.lt_of_lt_of_le (h.lt d e) hb.size) And.right, sub := λ d hd => d1 _ (h.sub d hd), nb := d1 _ h.nb, node := (hne _ (ak h.node) λ e => (h.mi1 _ e).2 rfl).trans h.node, prog := (hne _ (ak h.prog) λ e => (by have := (h.items.lt _ e).1; have := P.qbB; omega)).trans h.prog, enums := h.enums.step cd hS (λ g e => hne g (h.enums.lt g e).2.1 λ e2 => (h.mi1 g e2).1 (h.qe1 g e)) d1 hd, nodes := h.nodes.step d8 hS (λ g e => hne g (h.nodes.lt g e).2.1 λ e2 => (h.mi1 g e2).1 (h.qn1 g e).1) d1 hd, items := h1, mi1 := λ g e => ?_, s2 := h.s2.sub hT, s3 := h.s3.sub hT, s4 := h.s4.sub hT } hb hne; rcases ho with e2 | e2
 . exact h.mi1 g (by rw [<- e2]; exact e)
 . obtain rfl : X.heap.size = g := by rw [e2] at e; exact Option.some.inj e
   exact ⟨λ e => by have := h.lt _ (h.sub _ e); omega, λ e => by have := h.lt _ h.nb; omega⟩
theorem pv {o : Oper} {a : Act} {Kc : Act -> World -> Prop} {Q : Exit -> Act -> World -> Prop} {v2 : Value} {ys : List dw} (s y : Operand)
  (hop : o.op = .call { callee := .builtin .append, args := #[s, y], argTypes := #[22, 22] }) (hs : a.eval s = qe) (hy : a.eval y = v2) (h : Inn P es its qx qe mx mi D1 D X) (hys : ys ≠ []) (hR : aw X (bE (dE P.B0 D X)) v2 ys) (hl : es.length + ys.length <= 4194304)
  (hk : ∀ qe' w' D1' D', Inn P (es ++ ys) its qx qe' mx mi D1' D' w' -> Below P.B0 X w' -> (∀ g, g < X.heap.size -> qe.ownBlock ≠ some g -> w'.heap[g]? = X.heap[g]?) -> Kc (a.put o.dst qe') w') : o.wp prog a X Kc Q := by
 refine sX (R := bE) (B := P.B0) (D := D) cd s y hop underlying22 jn rfl zD zD hs hy hys hR (Ho _) h.enums hl (Nat.le_of_lt h.bs) ?_; intro v' w' D' h1 d1 d2 hb hg ho; have hS : cW P.B0 D X w' := .grown hg λ g e => (h.enums.lt g e).2.2; have hd : ∀ d ∈ D', d ∈ D ∨ X.heap.size <= d := λ d hd => (d2 d hd).imp id And.left; have hT := hS.sub (D' := D') hd; have hne : ∀ g, g < X.heap.size -> qe.ownBlock ≠ some g -> w'.heap[g]? = X.heap[g]? := λ g h1 h2 => hg.block g h1 λ e => h2 e.symm; have hD1 : ∃ D1' : List Nat, (∀ d ∈ D1, d ∈ D1') /\ (∀ d ∈ D1', d ∈ D1 ∨ d = X.heap.size /\ d ∈ D') /\ ∀ g, v'.ownBlock = some g -> g ∈ D1' := by
  rcases ho with e | e
  . exact ⟨D1, λ _ h => h, λ _ h => .inl h, λ g hg => h.qe1 g (by rw [<- e]; exact hg)⟩
  . refine ⟨X.heap.size :: D1, λ d hd => by simp [hd], λ d hd => ?_, λ g hg => by rw [e] at hg; cases hg; simp⟩; rcases List.mem_cons.1 hd with rfl | hd
    . exact .inr ⟨rfl, (h1.lt _ e).2.2⟩
    . exact .inl hd
 obtain ⟨D1', e1, e2, e3⟩ := hD1; refine hk v' w' D1' D' { h with lt := λ d hd => (d2 d hd).elim (λ e => Nat.lt_of_lt_of_le (h.lt d e) hb.size) And.right, sub := λ d hd => (e2 d hd).elim (λ e => d1 _ (h.sub d e)) And.right, nb := d1 _ h.nb, nb1 := λ e => (e2 _ e).elim h.nb1 λ e => (by have := h.lt _ h.nb; omega), node := (hne _ (ak h.node) λ e => h.nb1 (h.qe1 _ e)).trans h.node, prog := (hne _ (ak h.prog) λ e => (by have := (h.enums.lt _ e).1; have := P.qbB; omega)).trans h.prog, enums := h1, nodes := h.nodes.step d8 hS (λ g e => hne g (h.nodes.lt g e).2.1 (h.qn1 g e).2) d1 hd, items := h.items.step iI hS (λ g e => hne g (h.items.lt g e).2.1 λ e2 => (h.mi1 g e).1 (h.qe1 g e2)) d1 hd, qe1 := e3, qn1 := λ g e => ⟨e1 _ (h.qn1 g e).1, λ e4 => ?_⟩, mi1 := λ g e => ⟨λ e4 => (e2 _ e4).elim (h.mi1 g e).1 λ e5 => (by have := (h.items.lt g e).2.1; omega), (h.mi1 g e).2⟩, s2 := h.s2.sub hT, s3 := h.s3.sub hT, s4 := h.s4.sub hT } hb hne; rcases ho with e5 | e5
 . exact (h.qn1 g e).2 (by rw [<- e5]; exact e4)
 . have := (h.nodes.lt g e).2.1; rw [e5] at e4; have := Option.some.inj e4; omega
theorem Inn.leave (h : Inn P es its qx qe mi mi D1 D X) : ch (dE P.B0 D1 X) [.string (str P.nm), .slice P.A2 P.fs.length P.c2, .slice P.A3 P.is.length P.c3, .slice P.A4 P.os.length P.c4, mi] ⟨P.nm, P.fs, P.is, P.os, its⟩ ∨ ¬ P.nm.length <= maxLen := by
 by_cases hn : P.nm.length <= maxLen
 . refine .inl ⟨_, _, _, _, rfl, hn, h.s2.sub (mO h.sub _), h.s3.sub (mO h.sub _), h.s4.sub (mO h.sub _), h.items.at_ iI h.sub λ g e => (h.mi1 g e).1⟩
 . exact .inr hn
end
end Go.Proofs.YtkfacdofkfabnaaGreatDoor
namespace Go.Proofs.YtkfacdofkfabnaaGreatDoor
open _root_.Go.Proofs.Tryz
def qL (s : Tx) : Ex := .mk 3 s 0 [] []
def Ku (s : Tx) : Ex := .mk 4 s 0 [] []
def aU (c : UInt8) (k : Nat) : Tx := 95 :: c :: Lib.itoa (k : Int)
def oK (y : eO) (e : Ex) : Ex := .mk 7 [] 0 [] [y.cond, qL y.to, e]
def p8 (s : aM) : Ex := s.ways.foldr oK (qL s.name)
def cz (q : QEq) : Tx := q.names.headD []
def lR (x : Tx) (s : aM) : Ex := ((s.eqs.find? λ q => cz q == x).map QEq.e).getD pZ
def eQ (k : Nat) (ss : List aM) (x : Tx) (f : aM -> Ex) : a8 := ⟨⟨[x], nL (aU 115 k) (ss.map aM.name) (ss.map f)⟩, []⟩
def iB (k : Nat) (ss : List aM) : a8 := ⟨⟨[aU 115 k], .mk 8 [] 0 [] [qL ((ss.map aM.name).headD []), Ku (aU 110 k)]⟩, []⟩
def yP (ss : List aM) : List QEq := ((ss.head?).map aM.eqs).getD []
def gj (k : Nat) (ss : List aM) : List a8 := iB k ss :: (yP ss).map (λ q => eQ k ss (cz q) (lR (cz q))) ++ [eQ k ss (aU 110 k) p8]
def kq (k : Nat) (ss : List aM) : dw := ⟨aU 116 k, ss.map aM.name⟩
structure Fr (s : aM) : Prop where
 eqs : s.eqs.length <= 1048576
 ways : s.ways.length <= 2097152
 names : ∀ q ∈ s.eqs, q.names ≠ []
 slim : ∀ q ∈ s.eqs, dU q.e
 cond : ∀ y ∈ s.ways, dU y.cond
structure FD (ss : List aM) : Prop where
 some : ss ≠ []
 len : ss.length <= 2097152
 st : ∀ s ∈ ss, Fr s
 defs : ∀ q ∈ yP ss, ∀ s ∈ ss, ∃ r ∈ s.eqs, cz r = cz q
theorem uJ (s : Tx) : dU (qL s) := by simp [qL, dU, nj]
theorem Dj {y : eO} {e : Ex} (h : dU y.cond) (he : dU e) : dU (oK y e) := by
 simp only [oK, dU, nj]; exact ⟨by simp, by simp, h, uJ _, he, trivial⟩
theorem rN (n : Tx) : ∀ l : List eO, (∀ y ∈ l, dU y.cond) -> dU (l.foldr oK (qL n))
 | [], _ => uJ _
 | y :: r, h => Dj (h y (by simp)) (rN n r λ z hz => h z (by simp [hz]))
theorem Bn {s : aM} (h : Fr s) : dU (p8 s) := rN _ _ h.cond
theorem wg {s : aM} {x : Tx} (h : ∃ r ∈ s.eqs, cz r = x) : ∃ q, s.eqs.find? (λ q => cz q == x) = some q /\ q ∈ s.eqs /\ lR x s = q.e := by
 obtain ⟨r, hr, e⟩ := h; cases hf : s.eqs.find? (λ q => cz q == x) with
 | none =>
   have := List.find?_eq_none.1 hf r hr; exact absurd (beq_iff_eq.2 e) this
 | some q => exact ⟨q, rfl, List.mem_of_find?_eq_some hf, by unfold lR; rw [hf]; rfl⟩
theorem Dk {s : aM} {x : Tx} (hs : Fr s) (h : ∃ r ∈ s.eqs, cz r = x) : dU (lR x s) := by
 obtain ⟨q, _, hq, e⟩ := wg h; rw [e]; exact hs.slim q hq
def iq (i : a8) : a8 := ⟨⟨i.eq.names, deM i.eq.e⟩, []⟩
def lY (k : Nat) (i : a8) : List a8 := if i.states = [] then [iq i] else gj k i.states
def nW (k : Nat) (i : a8) : List dw := if i.states = [] then [] else [kq k i.states]
def js (i : a8) : Nat := if i.states = [] then 0 else 1
def b8 : List a8 -> Nat
 | [] => 0
 | i :: r => js i + b8 r
def bp : Nat -> List a8 -> List a8
 | _, [] => []
 | k, i :: r => lY k i ++ bp (k + js i) r
def bw : Nat -> List a8 -> List dw
 | _, [] => []
 | k, i :: r => nW k i ++ bw (k + js i) r
def pD (k : Nat) (n : aY) : aY := ⟨n.name, n.funs, n.ins, n.outs, bp k n.items⟩
def cM : List aY -> Nat
 | [] => 0
 | n :: r => b8 n.items + cM r
def bz : Nat -> List aY -> List aY
 | _, [] => []
 | k, n :: r => pD k n :: bz (k + b8 n.items) r
def bJ : Nat -> List aY -> List dw
 | _, [] => []
 | k, n :: r => bw k n.items ++ bJ (k + b8 n.items) r
def i6 (p : cZ) : cZ := ⟨p.enums ++ bJ 0 p.nodes, bz 0 p.nodes⟩
theorem wP (a b : List a8) : b8 (a ++ b) = b8 a + b8 b := by
 induction a with
 | nil => simp [b8]
 | cons x r ih => simp only [List.cons_append, b8, ih]; omega
theorem lx : ∀ (a b : List a8) (k : Nat), bp k (a ++ b) = bp k a ++ bp (k + b8 a) b
 | [], b, k => by simp [bp, b8]
 | x :: r, b, k => by rw [List.cons_append, bp, bp, lx r b, b8, List.append_assoc, Nat.add_assoc]
theorem jm : ∀ (a b : List a8) (k : Nat), bw k (a ++ b) = bw k a ++ bw (k + b8 a) b
 | [], b, k => by simp [bw, b8]
 | x :: r, b, k => by rw [List.cons_append, bw, bw, jm r b, b8, List.append_assoc, Nat.add_assoc]
theorem wM (a b : List aY) : cM (a ++ b) = cM a + cM b := by
 induction a with
 | nil => simp [cM]
 | cons x r ih => simp only [List.cons_append, cM, ih]; omega
theorem od : ∀ (a b : List aY) (k : Nat), bz k (a ++ b) = bz k a ++ bz (k + cM a) b
 | [], b, k => by simp [bz, cM]
 | x :: r, b, k => by rw [List.cons_append, bz, bz, od r b, cM, List.cons_append, Nat.add_assoc]
theorem jl : ∀ (a b : List aY) (k : Nat), bJ k (a ++ b) = bJ k a ++ bJ (k + cM a) b
 | [], b, k => by simp [bJ, cM]
 | x :: r, b, k => by rw [List.cons_append, bJ, bJ, jl r b, cM, List.append_assoc, Nat.add_assoc]
theorem dI (a : List a8) (i : a8) (k : Nat) : bp k (a ++ [i]) = bp k a ++ lY (k + b8 a) i := by rw [lx]; simp [bp]
theorem er (a : List a8) (i : a8) (k : Nat) : bw k (a ++ [i]) = bw k a ++ nW (k + b8 a) i := by rw [jm]; simp [bw]
theorem ff (a : List a8) (i : a8) : b8 (a ++ [i]) = b8 a + js i := by rw [wP]; simp [b8]
theorem sZ (a : List aY) (n : aY) (k : Nat) : bz k (a ++ [n]) = bz k a ++ [pD (k + cM a) n] := by rw [od]; simp [bz]
theorem oz (a : List aY) (n : aY) (k : Nat) : bJ k (a ++ [n]) = bJ k a ++ bw (k + cM a) n.items := by rw [jl]; simp [bJ]
theorem nX (a : List aY) (n : aY) : cM (a ++ [n]) = cM a + b8 n.items := by rw [wM]; simp [cM]
theorem oc : ∀ (l : List aY) (k : Nat), (bz k l).length = l.length
 | [], _ => rfl
 | n :: r, k => by rw [bz, List.length_cons, List.length_cons, oc r]
theorem pE (l : List a8) (j k : Nat) : (bp k (l.take j)).length <= (bp k l).length := by
 have h := congrArg (λ l => (bp k l).length) (List.take_append_drop j l); simp only [lx, List.length_append] at h; omega
theorem yS (l : List a8) (j k : Nat) : (bw k (l.take j)).length <= (bw k l).length := by
 have h := congrArg (λ l => (bw k l).length) (List.take_append_drop j l); simp only [jm, List.length_append] at h; omega
theorem yR (l : List aY) (j k : Nat) : (bJ k (l.take j)).length <= (bJ k l).length := by
 have h := congrArg (λ l => (bJ k l).length) (List.take_append_drop j l); simp only [jl, List.length_append] at h; omega
theorem EU (l : List a8) (j : Nat) : b8 (l.take j) <= b8 l := by
 have h := congrArg b8 (List.take_append_drop j l); rw [wP] at h; omega
theorem ET (l : List aY) (j : Nat) : cM (l.take j) <= cM l := by
 have h := congrArg cM (List.take_append_drop j l); rw [wM] at h; omega
structure TrJ (i : a8) : Prop where
 bare : i.states = [] -> i.eq.names.length <= 2097152 /\ dU i.eq.e /\ fQ i.eq.e
 auto : i.states ≠ [] -> FD i.states
structure TrM (n : aY) : Prop where
 funs : n.funs.length <= 2097152
 ins : n.ins.length <= 2097152
 outs : n.outs.length <= 2097152
 len : ∀ k, (bp k n.items).length <= 2097152
 items : ∀ i ∈ n.items, TrJ i
structure TrG (p : cZ) : Prop where
 enums : p.enums.length <= 2097152
 all : (p.enums ++ bJ 0 p.nodes).length <= 2097152
 cons : ∀ e ∈ p.enums, e.cons.length <= 2097152
 len : p.nodes.length <= 2097152
 cnt : (cM p.nodes : Int) <= 1048576
 nodes : ∀ n ∈ p.nodes, TrM n
end Go.Proofs.YtkfacdofkfabnaaGreatDoor
