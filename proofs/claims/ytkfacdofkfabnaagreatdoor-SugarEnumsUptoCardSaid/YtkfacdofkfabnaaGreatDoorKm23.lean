import Derived.Shelf.Strconv.Itoa3
import Derived.Test.YtkfacdofkfabnaaGreatDoorKm05
import Derived.Test.YtkfacdofkfabnaaGreatDoorKm13
import Derived.Test.YtkfacdofkfabnaaGreatDoorKm22
set_option maxHeartbeats 4000000
set_option maxRecDepth 100000
namespace Go.Proofs.YtkfacdofkfabnaaGreatDoor
open _root_.Go.Proofs.Tryz
open Go.RowKit
theorem cT {w W : World} {a : Addr} {v : Value} (h : Below w.heap.size w W) (hc : w.cell? a = some v) : W.cell? a = some v := (h.cell (World.block_lt_of_cell? w _ hc)).trans hc
theorem Ec (n : Int) (h : gY n) (w : World) (ht : Tab w) : Calls prog 60 #[.int .i64 n] w λ e w' => e = .returned (.string (str (Lib.itoa n))) /\ Below w.heap.size w w' :=
 (Any.strconv_Itoa laysM171 n h.1 h.2 w ht).mono λ _ _ ⟨h1, k, os, h2⟩ => ⟨h1, by rw [h2]; exact Lib.below_grow _ _ (Nat.le_refl _) _ _⟩
theorem wI {tmps : Array Value} {w : World} {N : Nat} {x0 x1 x2 x3 x4 : Value} (hp : tmps.getD 2 undef = .pointer (some ⟨N, 0, none⟩)) (hg : w.heap[N]? = some (.cells #[x0, x1, x2, x3, x4] 39 (0, 0))) :
  (results f61 tmps).run prog w = .ok (.agg #[x0, x1, x2, x3, x4]) w :=
 results_cell_row results61 tmps w N 39 _ (0, 0) _ hp hg underlying39 rfl eP
theorem mV (s : ByteArray) (w : World) : Calls prog 61 #[.string s] w λ e w' => e = .returned (.agg #[.int .i64 3, .string s, .int .i64 0, .slice none 0 0, .slice none 0 0]) /\ Below w.heap.size w w' := by
 go_enter func61, ntmps61
 go_wp2_with fail
 refine bodyPost_ret (wI (N := w.heap.size) rfl (heap_alloc_new _ _)) rfl ⟨rfl, (Below.refl _ w).alloc (Nat.le_refl _) _⟩
theorem pI (c : UInt8) (l : List UInt8) : (⟨#[95, c]⟩ ++ str l : ByteArray) = str (95 :: c :: l) := by
 apply ByteArray.ext; rw [ByteArray.data_append]; simp [str]
theorem CK : (prog.info? 81).map (·.size) = some 5 := by kernel_rfl
theorem uf {tmps : Array Value} {w : World} {N : Nat} {x0 x1 x2 x3 x4 : Value} (hp : tmps.getD 4 undef = .pointer (some ⟨N, 0, none⟩)) (hg : w.heap[N]? = some (.cells #[x0, x1, x2, x3, x4] 81 (0, 0))) :
  (results f25 tmps).run prog w = .ok (.agg #[x0, x1, x2, x3, x4]) w :=
 results_cell_row results25 tmps w N 81 _ (0, 0) _ hp hg underlying81 rfl CK
theorem oS : ∀ (w w' : World) (L : List Value) (x : Tx), Sub w w' -> iw L x -> iw L x := λ _ _ _ _ _ h => h
theorem J9 (s : ByteArray) : ∀ u ∈ [Value.string s], u.oneCell' = true := by intro u hu; simp at hu; subst hu; rfl
theorem vF {w : World} {sv : Value} {ss : List aM} (k : Nat) (hk : (k : Int) <= 1048576) (hs : aw w (bt w) sv ss) (hl : ss.length <= 2097152) (htab : Tab w) :
  Calls prog 25 #[.int .i64 k, sv] w λ e w' => Below w.heap.size w w' /\ ∃ A c, e = .returned (.agg #[sv, .slice A ss.length c, .string (str (aU 116 k)), .string (str (aU 115 k)), .string (str (aU 110 k))]) /\
   aH (cj w.heap.size w') (.slice A ss.length c) (ss.map aM.name) := by
 obtain ⟨S, ks, rfl, h1, h2, h3⟩ := hs; have hle : ss.length <= 9223372036854775807 := (by unfold maxLen at h2; omega); have R0 := zH (heap_alloc_new w (.cells #[.slice none 0 0, .slice none 0 0, .string ⟨#[]⟩, .string ⟨#[]⟩, .string ⟨#[]⟩] 81)); have hal := zH (zA w (.cells #[.slice none 0 0, .slice none 0 0, .string ⟨#[]⟩, .string ⟨#[]⟩, .string ⟨#[]⟩] 81)); have HT := zH (htab.under hal.o); have HL := zH hl; have HKB := zH (show gY (k : Int) from ⟨by omega, by omega⟩); have hsz : (str (Lib.itoa (k : Int))).size <= 21 := (by rw [fX]; exact Lib.itoa_length_le _ zO zO); clear htab h1 hl hk; go_enter func25, ntmps25
 go_wp2_with (first
  | (go_at_call 60; (with_reducible refine (Ec _ HKB.o _ HT.o).mono ?_); rintro e w1 ⟨rfl, hb1⟩; obtain ⟨V1, rfl⟩ := zW w1; have HB1 := zH (hal.o.trans (hb1.mono hal.o.size)); have R1 := zH (ab hb1 R0.o); clear hb1))
 have eT : (⟨#[95, 116]⟩ ++ str (Lib.itoa (k : Int)) : ByteArray) = str (aU 116 k) := pI _ _; have eS : (⟨#[95, 115]⟩ ++ str (Lib.itoa (k : Int)) : ByteArray) = str (aU 115 k) := pI _ _; have eN : (⟨#[95, 110]⟩ ++ str (Lib.itoa (k : Int)) : ByteArray) = str (aU 110 k) := pI _ _; rw [eT, eS, eN]; clear eT eS eN hsz; have hz1 := ak R1.o
 go_loopg [21] ss.length (λ g v wr => ∃ (j : Nat) (kv : Value), j + g = ss.length /\ v = .int .i64 j /\ Below V1.heap.size V1 wr /\ V1.heap.size + 1 <= wr.heap.size /\
  wr.heap[V1.heap.size]? = some (.cells #[.slice S ss.length ks, kv, .string (str (aU 116 k)), .string (str (aU 115 k)), .string (str (aU 110 k))] 81 (0, 0)) /\ cN (λ _ L x => iw L x) (V1.heap.size + 1) 9 1 wr kv ((ss.take j).map aM.name))
 case atStart => exact ⟨0, .slice none 0 0, by omega, rfl, (Below.refl _ _).alloc (Nat.le_refl _) _, by simp, heap_alloc_new _ _, by rw [List.take_zero]; exact cN.nil _⟩
 case round =>
  obtain ⟨j, kv, hjg, rfl, hbw, hz, hBX, hO⟩ := hrel; have HK := zH hjg; have HW := zH hbw; have HZ := zH hz; have HBX := zH hBX; have HBw := zH (HB1.o.trans (hbw.mono HB1.o.size)); obtain ⟨A6, m6, c6, rfl, hm6⟩ := hO.shape; have HO := zH hO; obtain ⟨x0, x1, x2, x3, x4⟩ := aN HBX.o; clear hjg hbw hBX hO; by_cases hlt : j < ss.length
  . obtain ⟨s, hs⟩ := zG hlt; obtain ⟨L, hL, ev, wv, rfl, hnl, hev, hwv⟩ := h3 j s hs; obtain ⟨A1, n1, c1, rfl⟩ := aw.shape hev; obtain ⟨A2, n2, c2, rfl⟩ := aw.shape hwv; have HNL := zH hnl; have HSN := zH (show (ss.take (j + 1)).map aM.name = (ss.take j).map aM.name ++ [s.name] by rw [bo hs]; simp); have HLN := zH (show ((ss.take j).map aM.name).length <= 2097152 by have := HL.o; rw [List.length_map, List.length_take]; omega); obtain ⟨a, rfl, ha, haa, d0, d1, d2⟩ := il (hL.under HBw.o); have HX4 := zH (ag (o := .cells #[.string (str s.name), .slice A1 n1 c1, .slice A2 n2 c2] 50) HBX.o); have HX5 := zH (ag (o := .cells #[.string (str s.name)] 9) HX4.o); obtain ⟨y0, y1, y2, y3, y4⟩ := aN HX4.o; obtain ⟨z0, z1, z2⟩ := eG (heap_alloc_new wr (.cells #[.string (str s.name), .slice A1 n1 c1, .slice A2 n2 c2] 50)); have HO5 := zH (cN.same oS HO.o (((aL.refl (V1.heap.size + 1) wr).alloc (.cells #[.string (str s.name), .slice A1 n1 c1, .slice A2 n2 c2] 50)).alloc (.cells #[.string (str s.name)] 9))); have HW5 := zH ((HW.o.alloc (by have := HZ.o; omega) (.cells #[.string (str s.name), .slice A1 n1 c1, .slice A2 n2 c2] 50)).alloc (by have := HZ.o; simp; omega) (.cells #[.string (str s.name)] 9)); clear hs hL h3 hnl hev hwv hm6
    go_wp2_with (first
     | (at_builtin; refine ir (R := λ _ L x => iw L x) (B := V1.heap.size + 1) (L := [.string (str s.name)]) oS rfl _ _ rfl underlying33 lZ rfl zD zD rfl rfl (aF (by simp)) rfl (J9 _) HO5.o ⟨rfl, HNL.o⟩ HLN.o ?_ ?_; (have := HZ.o; simp; omega); (intro v5 w5 ho5 hb5; obtain ⟨A7, m7, c7, rfl, hm7⟩ := ho5.shape; obtain ⟨V5, rfl⟩ := zW w5; have HO6 := zH ho5; have HW6 := zH (HW5.o.trans (hb5.mono (Nat.le_succ _))); have HX6 := zH ((hb5.block V1.heap.size (Nat.lt_succ_self _)).trans HX5.o); have b1 := ar HX6.o 1; obtain ⟨g0, g1, g2, g3, g4⟩ := aN HX6.o; clear ho5 hb5 hm7)))
    go_roundg (ss.length - (j + 1))
    case measure => have := HK.o; omega
    case rel =>
     refine ⟨j + 1, .slice A7 m7 c7, by omega, by go_num, HW6.o.setCell (Nat.le_refl _) _, by rw [World.size_setCell]; exact ak HX6.o, by simpa using heap_setCell_same V5 V1.heap.size 1 _ _ (.slice A7 m7 c7) HX6.o, ?_⟩; rw [HSN.o]; exact cN.same oS HO6.o ((aL.refl _ V5).set (.inl (Nat.lt_succ_self _)) _)
  . have hke : j = ss.length := by have := HK.o; omega
    subst hke; rw [List.take_length] at HO; obtain rfl : m6 = ss.length := by rw [hm6]; simp
    clear hm6; have HR := zH (ab HW.o R1.o); have b0 := ar HR.o 0; have b1 := ar HR.o 1; have b2 := ar HR.o 2; have b3 := ar HR.o 3; have b4 := ar HR.o 4; obtain ⟨r0, r1, r2, r3, r4⟩ := aN HR.o; go_wp2_with fail
    refine bodyPost_ret (uf (N := w.heap.size) rfl (bX _ _ _ _ _ HR.o)) rfl ⟨bD HBw.o (Nat.le_refl _) _ _ _ _ _, A6, c6, rfl, ?_⟩; have hsub := λ a b c d e => Sub.trans (aL.sub (dm (N := w.heap.size) (aL.refl (w.heap.size + 1) wr) (.inl (Nat.lt_succ_self _)) a b c d e)) (bj (B' := w.heap.size) (Nat.le_succ _) _); have hB := HB1.o.size; exact (cN.at_ oS HO.o).sub (Sub.trans (bj (B' := w.heap.size + 1) zO _) (hsub _ _ _ _ _)) λ _ _ h => h
theorem yT : (prog.info? 46).map (·.size) = some 2 := by kernel_rfl
theorem ro {tmps : Array Value} {w : World} {N : Nat} {x0 x1 : Value} (hp : tmps.getD 2 undef = .pointer (some ⟨N, 0, none⟩)) (hg : w.heap[N]? = some (.cells #[x0, x1] 46 (0, 0))) :
  (results f26 tmps).run prog w = .ok (.agg #[x0, x1]) w :=
 results_cell_row results26 tmps w N 46 _ (0, 0) _ hp hg underlying46 rfl yT
theorem xG {w : World} {N : Nat} {T0 : TypeId} {a b : Value} (u : Value) (h : w.heap[N]? = some (.cells #[a, b] T0 (0, 0))) : (w.setCell ⟨N, 0, none⟩ u).heap[N]? = some (.cells #[u, b] T0 (0, 0)) := by simpa using heap_setCell_same w N 0 _ _ u h
theorem xF {w : World} {N : Nat} {T0 : TypeId} {a b : Value} (u : Value) (h : w.heap[N]? = some (.cells #[a, b] T0 (0, 0))) : (w.setCell ⟨N, 1, none⟩ u).heap[N]? = some (.cells #[a, u] T0 (0, 0)) := by simpa using heap_setCell_same w N 1 _ _ u h
theorem sH {w : World} {S C : Option Addr} {n k c nn : Nat} {cs : List Tx} {nm : Tx} {u v : ByteArray} (hn : nm.length <= maxLen) (hcs : aH w (.slice C nn c) cs) (hcl : cs.length <= 2097152) :
  Calls prog 26 #[.agg #[.slice S n k, .slice C nn c, .string (str nm), .string u, .string v]] w λ e w' => Below w.heap.size w w' /\ ∃ A m l, e = .returned (.agg #[.string (str nm), .slice A m l]) /\ bE (cj w.heap.size w') [.string (str nm), .slice A m l] ⟨nm, cs⟩ := by
 have HN := zH hn; have HCS := zH hcs; have HB0 := zH ((zA w (.cells #[.slice S n k, .slice C nn c, .string (str nm), .string u, .string v] 81)).alloc (by simp) (.cells #[.string ⟨#[]⟩, .slice none 0 0] 46)); have HX := zH (ag (o := .cells #[.string ⟨#[]⟩, .slice none 0 0] 46) (heap_alloc_new w (.cells #[.slice S n k, .slice C nn c, .string (str nm), .string u, .string v] 81))); have HR := zH (aF (w := w.alloc (.cells #[.slice S n k, .slice C nn c, .string (str nm), .string u, .string v] 81)) (o := .cells #[.string ⟨#[]⟩, .slice none 0 0] 46) (n := w.heap.size + 1) (by simp)); clear hn hcs; go_enter func26, ntmps26
 go_wp2_with fail
 obtain ⟨V, hV⟩ : ∃ W, W = (w.alloc (.cells #[.slice S n k, .slice C nn c, .string (str nm), .string u, .string v] 81)).alloc (.cells #[.string ⟨#[]⟩, .slice none 0 0] 46) := ⟨_, rfl⟩; rw [<- hV] at HB0 HX HR ⊢; have hVs : V.heap.size = w.heap.size + 2 := (by rw [hV]; simp); clear hV; obtain ⟨x0, x1, x2, x3, x4⟩ := aN HX.o; have KEEP := zH (show ∀ W, Below V.heap.size V W -> (λ W => W.cell? ⟨w.heap.size, 1, none⟩ = some (.slice C nn c) /\ W.cell? ⟨w.heap.size, 2, none⟩ = some (.string (str nm))) W from λ W hW => ⟨cT hW x1, cT hW x2⟩); refine wp_region_held_drew (S := (λ W => W.cell? ⟨w.heap.size, 1, none⟩ = some (.slice C nn c) /\ W.cell? ⟨w.heap.size, 2, none⟩ = some (.string (str nm)))) zK ?_ (λ hHeld => ?_)
 . exact KEEP.o _ (Below.refl _ _).drew
 refine aa 0 ?_; refine aa 1 ?_; refine aa 2 ?_; refine aa 3 ?_; refine ay 4 zK rfl (λ K hK => ?_); go_simp
 (go_at_call 22
  (with_reducible refine (cx (HCS.o.under (HB0.o.drew)) hcl).mono ?_); rintro e w7 ⟨v7, rfl, ho7, hb7⟩; obtain ⟨V2, rfl⟩ := zW w7; obtain ⟨A7, n7, c7, rfl, rfl⟩ := ho7.shape; have G2 := zH (show Below V.heap.size V V2 from (Below.refl _ _).drew.trans hb7); have HM := zH (show aH (cj V.heap.size V2) (.slice A7 cs.length c7) cs from ho7.newS); have HR2 := zH (ab G2.o HR.o); have f0 := ar HR2.o 0; have f1 := ar HR2.o 1; obtain ⟨r0, r1⟩ := bG HR2.o; clear ho7 hb7)
 refine hK.out _ _ (KEEP.o _ ?_) (λ hHeld => ?_)
 . (repeat (first | exact Below.refl _ _ | exact G2.o | refine Below.drew ?_ | refine Below.alloc ?_ (by simp) _ | refine Below.setCell ?_ (by simp) _))
 clear hK K; try simp only [Act.put, aK, aI, aJ]
 refine aa 5 ?_; refine ay 6 zK rfl (λ K hK => ?_); go_simp
 refine hK.out _ _ ?_ (λ hHeld => ?_)
 . have h6 : ((V2.setCell ⟨w.heap.size + 1, 0, none⟩ (.string (str nm))).setCell ⟨w.heap.size + 1, 1, none⟩ (.slice A7 cs.length c7)).heap[w.heap.size]? = some (.cells #[.slice S n k, .slice C nn c, .string (str nm), .string u, .string v] 81) := (aD _ _ _ _ _ zO).trans ((aD _ _ _ _ _ zO).trans (ab G2.o HX.o)); obtain ⟨y0, y1, y2, y3, y4⟩ := aN h6; exact ⟨y1, y2⟩
 clear hK K; try simp only [Act.put, aK, aI, aJ]
 refine wpAnyH_done zK ?_ _; go_wp2_with fail
 refine bodyPost_ret (ro (N := w.heap.size + 1) rfl (xF _ (xG _ HR2.o))) rfl ⟨?_, A7, _, c7, rfl, ⟨_, rfl, HN.o, ?_⟩⟩
 . exact ((HB0.o.trans (G2.o.mono HB0.o.size)).setCell (by simp) _).setCell (by simp) _
 . exact HM.o.sub (Sub.trans (aL.sub (((aL.refl V.heap.size V2).set (.inl (by rw [hVs]; simp)) _).set (.inl (by rw [hVs]; simp)) _)) (bj (by rw [hVs]; omega) _))
end Go.Proofs.YtkfacdofkfabnaaGreatDoor
