import Derived.Test.YtkfacdofkfabnaaGreatDoorKm04
import Derived.Test.YtkfacdofkfabnaaGreatDoorKm11
import Derived.Test.YtkfacdofkfabnaaGreatDoorKm19
import Derived.Test.YtkfacdofkfabnaaGreatDoorKm24
set_option maxHeartbeats 4000000
set_option maxRecDepth 100000
namespace Go.Proofs.YtkfacdofkfabnaaGreatDoor
open _root_.Go.Proofs.Tryz
open Go.RowKit
open Go.ChangeMaps Go.MapKept
open Go.Maps
structure aC (M : List Nat) (w w' : World) : Prop where
 os : w'.os = w.os
 tape : w'.tape = w.tape
 output : w'.output = w.output
 size : w.heap.size <= w'.heap.size
 block : ∀ k, k < w.heap.size -> k ∉ M -> w'.heap[k]? = w.heap[k]?
theorem aC.refl (M : List Nat) (w : World) : aC M w w := ⟨rfl, rfl, rfl, Nat.le_refl _, λ _ _ _ => rfl⟩
theorem aC.trans {M : List Nat} {a b c : World} (h : aC M a b) (g : aC M b c) : aC M a c :=
 ⟨g.os.trans h.os, g.tape.trans h.tape, g.output.trans h.output, Nat.le_trans h.size g.size, λ k hk hm => (g.block k (Nat.lt_of_lt_of_le hk h.size) hm).trans (h.block k hk hm)⟩
theorem aC.of_below {M : List Nat} {w w' : World} (h : Below w.heap.size w w') : aC M w w' := ⟨h.os, h.tape, h.output, h.size, λ k hk _ => h.block k hk⟩
theorem aC.of_grown {M : List Nat} {b : Nat} {w w' : World} (h : w.grownBy w' (some b)) (hb : b ∈ M) : aC M w w' := ⟨h.os, h.tape, h.output, h.size, λ k hk hm => h.block k hk (λ e => hm (by cases e; exact hb))⟩
theorem aC.mono {M M' : List Nat} {w w' : World} (h : aC M w w') (hs : ∀ x ∈ M, x ∈ M') : aC M' w w' := ⟨h.os, h.tape, h.output, h.size, λ k hk hm => h.block k hk (λ e => hm (hs k e))⟩
theorem aC.below {M : List Nat} {B : Nat} {w w' : World} (h : aC M w w') (hM : ∀ b ∈ M, B <= b) (hB : B <= w.heap.size) : Below B w w' :=
 ⟨h.os, h.tape, h.output, h.size, λ k hk => h.block k (Nat.lt_of_lt_of_le hk hB) (λ e => absurd (hM k e) zO)⟩
theorem aC.cell {M : List Nat} {w w' : World} (h : aC M w w') {a : Addr} (ha : a.block < w.heap.size) (hm : a.block ∉ M) : w'.cell? a = w.cell? a := World.cell?_of_block (h.block _ ha hm)
def aG (l : List (Tx × Value)) : List Tx := l.map Prod.fst
def bu (v : Value) (l : List Tx) : List (Tx × Value) := l.map λ s => (s, v)
theorem ep (l m : List (Tx × Value)) : aG (l ++ m) = aG l ++ aG m := by simp [aG]
theorem dJ (v : Value) (l : List Tx) : aG (bu v l) = l := by
 unfold aG bu; rw [List.map_map]; induction l with
 | nil => rfl
 | cons x r ih => rw [List.map_cons, ih]; rfl
def po (b : Nat) (l : List (Tx × Value)) (v : Value) (names : List Tx) (w : World) (e : Ending) (w' : World) : Prop :=
 e = .returned (.bool (bg (aG l) names)) /\ aC [b] w w' /\ (bg (aG l) names = true -> aP w' b (l ++ bu v names))
theorem aP.notcell {w : World} {b : Nat} {l : List (Tx × Value)} (h : aP w b l) {a : Addr} {u : Value} (hc : w.cell? a = some u) : a.block ≠ b := by
 obtain ⟨es, clock, hb, _⟩ := h; intro e; unfold World.cell? at hc; rw [e, hb] at hc; simp at hc
theorem aH.kept {w w' : World} {b : Nat} {l : List (Tx × Value)} {v : Value} {names : List Tx} (ha : aH w v names) (hm : aP w b l) (hk : aC [b] w w') : aH w' v names := by
 obtain ⟨A, c, rfl, h1, h2, h3⟩ := ha; refine ⟨A, c, rfl, h1, h2, λ i x hx => ?_⟩; obtain ⟨L, ⟨a, ea, hc⟩, hR⟩ := h3 i x hx; refine ⟨L, ⟨a, ea, λ j u hu => ?_⟩, hR⟩; have h0 := hc j u hu; rw [hk.cell (World.block_lt_of_cell? w _ h0) (by simpa using hm.notcell h0)]; exact h0
theorem mj {names : List Tx} {k : Nat} {s : Tx} (h : names[k]? = some s) (v : Value) : bu v (names.take (k + 1)) = bu v (names.take k) ++ [(s, v)] := by
 unfold bu; rw [bo h]; simp
theorem oL {w : World} {N : Nat} {T0 : TypeId} {v0 : Value} (h : w.heap[N]? = some (.cells #[v0] T0 (0, 0))) : w.cell? ⟨N, 0, none⟩ = some v0 := by simp [World.cell?, h]
theorem dd {M : List Nat} {w w1 : World} {g : Nat} {o : Obj} (hb : aC M w w1) (hg : g ∉ M) (h : w.heap[g]? = some o) : w1.heap[g]? = some o := (hb.block g (ak h) hg).trans h
def ShS (v : Value) : Prop := v = .agg #[]
theorem CW (w : World) : (zeroValue 120).run prog w = .ok (.agg #[]) w := by kernel_rfl
theorem yz {w : World} {b : Nat} {l : List (Tx × Value)} (h : aP w b l) {s : Tx} (hs : (s, .agg #[]) ∈ l) : Calls prog 101 #[.map (some b), .string (str s)] w (aA true w) := by
 have hrun := h.look_yes underlying112 hs; clear h hs; go_enter func101, ntmps101
 go_wp2_with fail
 go_ret; first | exact ⟨rfl, (Below.refl _ _).alloc (Nat.le_refl _) _⟩ | exact ⟨rfl, Below.refl _ _⟩
theorem B9 {w : World} {b : Nat} {l : List (Tx × Value)} (h : aP w b l) {s : Tx} (hl : s.length <= maxLen) (hs : s ∉ l.map Prod.fst) : Calls prog 101 #[.map (some b), .string (str s)] w (aA false w) := by
 have hrun := h.look_no underlying112 (CW w) hl hs; clear h hs hl; go_enter func101, ntmps101
 go_wp2_with fail
 go_ret; first | exact ⟨rfl, (Below.refl _ _).alloc (Nat.le_refl _) _⟩ | exact ⟨rfl, Below.refl _ _⟩
theorem eV {w : World} {b : Nat} {l : List (Tx × Value)} (h : aP w b l) (hv : ∀ p ∈ l, ShS p.2) {s : Tx} (hl : s.length <= maxLen) : Calls prog 101 #[.map (some b), .string (str s)] w (aA ((aG l).contains s) w) := by
 by_cases hs : s ∈ l.map Prod.fst
 . obtain ⟨⟨s', v⟩, hp, rfl⟩ := List.mem_map.1 hs; have hc : (aG l).contains s' = true := (by rw [List.contains_iff_mem]; exact hs); show Calls _ _ _ _ (aA ((aG l).contains s') w); rw [hc]; have := hv _ hp; obtain rfl := this; exact yz h hp
 . have hc : (aG l).contains s = false := by rw [Bool.eq_false_iff]; intro h; exact hs (List.contains_iff_mem.1 h)
   rw [hc]; exact B9 h hl hs
theorem dr {w : World} {b : Nat} {l : List (Tx × Value)} (h : aP w b l) (hv : ∀ p ∈ l, ShS p.2) {va : Value} {names : List Tx} (ha : aH w va names) :
  Calls prog 51 #[.map (some b), .agg #[], va] w (po b l (.agg #[]) names w) := by
 have hbl := h.lt; have HH := zH h; have HA := zH ha; have HV := zH hv; obtain ⟨A, c, rfl, hc, hm, _⟩ := ha; have hll : names.length <= 9223372036854775807 := (by unfold maxLen at hm; omega); clear h hv hc hm; go_enter func51, ntmps51
 go_wp2_with fail
 go_loopg [11] names.length (λ g v wr => ∃ k : Nat, k + g = names.length /\ v = .int .i64 k /\ aP wr b (l ++ bu (.agg #[]) (names.take k)) /\ aC [b] w wr /\ bg (aG l) names = bg (aG l ++ names.take k) (names.drop k) /\ wr.heap[w.heap.size]? = some (.cells #[] 120 (0, 0)))
 case atStart =>
  have hb0 : Below w.heap.size w (w.alloc (.cells #[] 120)) := (Below.refl _ _).alloc (Nat.le_refl _) _; exact ⟨0, by omega, rfl, by simpa [bu] using HH.o.under hb0, aC.of_below hb0, by simp, heap_alloc_new w _⟩
 case round =>
  obtain ⟨k, hkg, rfl, hma, hkm, hr, hbox⟩ := hrel; obtain ⟨wq, rfl⟩ := zW wr; have HK := zH hkg; have HMA := zH hma; have HKM := zH hkm; have HR := zH hr; have BX := zH hbox; have hkl : k <= names.length := zO; clear hkg hma hkm hr hbox; by_cases hlt : k < names.length
  . obtain ⟨s, hs⟩ := zG hlt; have HSA := zH (HA.o.kept HH.o HKM.o); obtain ⟨A9, c9, e9, _, _, he9⟩ := HSA.o; obtain ⟨L9, hE9, rfl, hsl⟩ := he9 k s hs; injection e9 with e9 e10 e11; clear e10 e11; obtain ⟨a9, ea9, _, hzc, q9⟩ := et hE9; rw [ea9] at e9; subst e9; simp only [Nat.mul_one] at q9; have HSL := zH hsl; have HT := zH (mj hs (.agg #[])); have HD := zH (cU hs); have HTS := zH (bo hs); have HKN := zH (eV HMA.o (λ p hp => (List.mem_append.1 hp).elim (HV.o p) (λ hq => by obtain ⟨_, _, rfl⟩ := List.mem_map.1 hq; exact rfl)) hsl); rw [ep, dJ] at HKN; clear hs he9 hE9 ea9 hzc hsl; cases hc : (aG l ++ names.take k).contains s
    . rw [hc] at HKN; have HC := zH hc; clear hc; have HRN := zH (show bg (aG l) names = bg (aG l ++ names.take (k + 1)) (names.drop (k + 1)) by rw [HR.o, HD.o, du, HC.o, HTS.o, <- List.append_assoc]; rfl)
      go_wp2_with (first
       | (go_at_call 101; (with_reducible refine HKN.o.mono ?_); rintro e w1 ⟨rfl, hb1⟩; obtain ⟨v1, rfl⟩ := zW w1; have HM1 := zH (HMA.o.under hb1); have BX1 := zH (ab hb1 BX.o); have HK1 := zH (HKM.o.trans (aC.of_below hb1)); clear hb1)
       | (at_mapUpdate; refine iZ _ rfl _ _ _ 112 rfl underlying112 rfl rfl rfl HM1.o HSL.o ?_ ?_; (simpa [aG, bu, List.contains_iff_mem, Function.comp_def] using HC.o); (intro w2 hm2 hg2; obtain ⟨v2, rfl⟩ := zW w2; have HM2 := zH hm2; have HK2 := zH (HK1.o.trans (aC.of_grown hg2 (by simp))); have BX2 := zH (dd (aC.of_grown hg2 (List.mem_singleton.2 rfl)) (by simp; omega) BX1.o); clear hm2 hg2)))
      go_roundg (names.length - (k + 1))
      case measure => have := HK.o; omega
      case rel => exact ⟨k + 1, by omega, by go_num, by rw [HT.o, <- List.append_assoc]; exact HM2.o, HK2.o, HRN.o, BX2.o⟩
    . rw [hc] at HKN; have HC := zH hc; clear hc; have HRN := zH (show bg (aG l) names = false by rw [HR.o, HD.o, du, HC.o]; rfl); go_wp2_with (go_at_call 101; (with_reducible refine HKN.o.mono ?_); rintro e w1 ⟨rfl, hb1⟩)
      go_ret; exact ⟨au HRN.o.symm, HKM.o.trans (aC.of_below hb1), λ h => by rw [HRN.o] at h; cases h⟩
  . have hke : k = names.length := by omega
    have HRN := zH (show bg (aG l) names = true by rw [HR.o, hke, List.drop_length]; rfl); have HM3 := zH (show aP wq b (l ++ bu (.agg #[]) names) by have := HMA.o; rwa [hke, List.take_length] at this); clear hke; go_wp2_with fail
    go_ret; exact ⟨au HRN.o.symm, HKM.o, λ _ => HM3.o⟩
def ShI (v : Value) : Prop := ∃ n1 : Int, v = .int .i64 n1
theorem Ir (w : World) : (zeroValue 3).run prog w = .ok (.int .i64 0) w := by kernel_rfl
theorem yC {w : World} {b : Nat} {l : List (Tx × Value)} (h : aP w b l) {s : Tx} {n1 : Int} (hs : (s, .int .i64 n1) ∈ l) : Calls prog 144 #[.map (some b), .string (str s)] w (aA true w) := by
 have hrun := h.look_yes underlying122 hs; clear h hs; go_enter func144, ntmps144
 go_wp2_with fail
 go_ret; first | exact ⟨rfl, (Below.refl _ _).alloc (Nat.le_refl _) _⟩ | exact ⟨rfl, Below.refl _ _⟩
theorem Cb {w : World} {b : Nat} {l : List (Tx × Value)} (h : aP w b l) {s : Tx} (hl : s.length <= maxLen) (hs : s ∉ l.map Prod.fst) : Calls prog 144 #[.map (some b), .string (str s)] w (aA false w) := by
 have hrun := h.look_no underlying122 (Ir w) hl hs; clear h hs hl; go_enter func144, ntmps144
 go_wp2_with fail
 go_ret; first | exact ⟨rfl, (Below.refl _ _).alloc (Nat.le_refl _) _⟩ | exact ⟨rfl, Below.refl _ _⟩
theorem eo {w : World} {b : Nat} {l : List (Tx × Value)} (h : aP w b l) (hv : ∀ p ∈ l, ShI p.2) {s : Tx} (hl : s.length <= maxLen) : Calls prog 144 #[.map (some b), .string (str s)] w (aA ((aG l).contains s) w) := by
 by_cases hs : s ∈ l.map Prod.fst
 . obtain ⟨⟨s', v⟩, hp, rfl⟩ := List.mem_map.1 hs; have hc : (aG l).contains s' = true := (by rw [List.contains_iff_mem]; exact hs); show Calls _ _ _ _ (aA ((aG l).contains s') w); rw [hc]; have := hv _ hp; obtain ⟨n1, rfl⟩ := this; exact yC h hp
 . have hc : (aG l).contains s = false := by rw [Bool.eq_false_iff]; intro h; exact hs (List.contains_iff_mem.1 h)
   rw [hc]; exact Cb h hl hs
theorem jS {w : World} {b : Nat} {l : List (Tx × Value)} (h : aP w b l) (hv : ∀ p ∈ l, ShI p.2) {n1 : Int} {va : Value} {names : List Tx} (ha : aH w va names) :
  Calls prog 106 #[.map (some b), .int .i64 n1, va] w (po b l (.int .i64 n1) names w) := by
 have hbl := h.lt; have HH := zH h; have HA := zH ha; have HV := zH hv; obtain ⟨A, c, rfl, hc, hm, _⟩ := ha; have hll : names.length <= 9223372036854775807 := (by unfold maxLen at hm; omega); clear h hv hc hm; go_enter func106, ntmps106
 go_wp2_with fail
 go_loopg [11] names.length (λ g v wr => ∃ k : Nat, k + g = names.length /\ v = .int .i64 k /\ aP wr b (l ++ bu (.int .i64 n1) (names.take k)) /\ aC [b] w wr /\ bg (aG l) names = bg (aG l ++ names.take k) (names.drop k))
 case atStart =>
  exact ⟨0, by omega, rfl, by simpa [bu] using HH.o, aC.refl _ _, by simp⟩
 case round =>
  obtain ⟨k, hkg, rfl, hma, hkm, hr⟩ := hrel; obtain ⟨wq, rfl⟩ := zW wr; have HK := zH hkg; have HMA := zH hma; have HKM := zH hkm; have HR := zH hr; have hkl : k <= names.length := zO; clear hkg hma hkm hr; by_cases hlt : k < names.length
  . obtain ⟨s, hs⟩ := zG hlt; have HSA := zH (HA.o.kept HH.o HKM.o); obtain ⟨A9, c9, e9, _, _, he9⟩ := HSA.o; obtain ⟨L9, hE9, rfl, hsl⟩ := he9 k s hs; injection e9 with e9 e10 e11; clear e10 e11; obtain ⟨a9, ea9, _, hzc, q9⟩ := et hE9; rw [ea9] at e9; subst e9; simp only [Nat.mul_one] at q9; have HSL := zH hsl; have HT := zH (mj hs (.int .i64 n1)); have HD := zH (cU hs); have HTS := zH (bo hs); have HKN := zH (eo HMA.o (λ p hp => (List.mem_append.1 hp).elim (HV.o p) (λ hq => by obtain ⟨_, _, rfl⟩ := List.mem_map.1 hq; exact ⟨_, rfl⟩)) hsl); rw [ep, dJ] at HKN; clear hs he9 hE9 ea9 hzc hsl; cases hc : (aG l ++ names.take k).contains s
    . rw [hc] at HKN; have HC := zH hc; clear hc; have HRN := zH (show bg (aG l) names = bg (aG l ++ names.take (k + 1)) (names.drop (k + 1)) by rw [HR.o, HD.o, du, HC.o, HTS.o, <- List.append_assoc]; rfl)
      go_wp2_with (first
       | (go_at_call 144; (with_reducible refine HKN.o.mono ?_); rintro e w1 ⟨rfl, hb1⟩; obtain ⟨v1, rfl⟩ := zW w1; have HM1 := zH (HMA.o.under hb1); have HK1 := zH (HKM.o.trans (aC.of_below hb1)); clear hb1)
       | (at_mapUpdate; refine iZ _ rfl _ _ _ 122 rfl underlying122 rfl rfl rfl HM1.o HSL.o ?_ ?_; (simpa [aG, bu, List.contains_iff_mem, Function.comp_def] using HC.o); (intro w2 hm2 hg2; obtain ⟨v2, rfl⟩ := zW w2; have HM2 := zH hm2; have HK2 := zH (HK1.o.trans (aC.of_grown hg2 (by simp))); clear hm2 hg2)))
      go_roundg (names.length - (k + 1))
      case measure => have := HK.o; omega
      case rel => exact ⟨k + 1, by omega, by go_num, by rw [HT.o, <- List.append_assoc]; exact HM2.o, HK2.o, HRN.o⟩
    . rw [hc] at HKN; have HC := zH hc; clear hc; have HRN := zH (show bg (aG l) names = false by rw [HR.o, HD.o, du, HC.o]; rfl); go_wp2_with (go_at_call 144; (with_reducible refine HKN.o.mono ?_); rintro e w1 ⟨rfl, hb1⟩)
      go_ret; exact ⟨au HRN.o.symm, HKM.o.trans (aC.of_below hb1), λ h => by rw [HRN.o] at h; cases h⟩
  . have hke : k = names.length := by omega
    have HRN := zH (show bg (aG l) names = true by rw [HR.o, hke, List.drop_length]; rfl); have HM3 := zH (show aP wq b (l ++ bu (.int .i64 n1) names) by have := HMA.o; rwa [hke, List.take_length] at this); clear hke; go_wp2_with fail
    go_ret; exact ⟨au HRN.o.symm, HKM.o, λ _ => HM3.o⟩
def ShE (v : Value) : Prop := ∃ s1 : ByteArray, ∃ A1 : Option Addr, ∃ m1 j1 : Nat, v = .agg #[.string s1, .slice A1 m1 j1]
theorem Is (w : World) : (zeroValue 46).run prog w = .ok (.agg #[.string ⟨#[]⟩, .slice none 0 0]) w := by kernel_rfl
theorem yD {w : World} {b : Nat} {l : List (Tx × Value)} (h : aP w b l) {s : Tx} {s1 : ByteArray} {A1 : Option Addr} {m1 j1 : Nat} (hs : (s, .agg #[.string s1, .slice A1 m1 j1]) ∈ l) : Calls prog 100 #[.map (some b), .string (str s)] w (aA true w) := by
 have hrun := h.look_yes underlying113 hs; clear h hs; go_enter func100, ntmps100
 go_wp2_with fail
 go_ret; first | exact ⟨rfl, (Below.refl _ _).alloc (Nat.le_refl _) _⟩ | exact ⟨rfl, Below.refl _ _⟩
theorem Cc {w : World} {b : Nat} {l : List (Tx × Value)} (h : aP w b l) {s : Tx} (hl : s.length <= maxLen) (hs : s ∉ l.map Prod.fst) : Calls prog 100 #[.map (some b), .string (str s)] w (aA false w) := by
 have hrun := h.look_no underlying113 (Is w) hl hs; clear h hs hl; go_enter func100, ntmps100
 go_wp2_with fail
 go_ret; first | exact ⟨rfl, (Below.refl _ _).alloc (Nat.le_refl _) _⟩ | exact ⟨rfl, Below.refl _ _⟩
theorem jj {w : World} {b : Nat} {l : List (Tx × Value)} (h : aP w b l) (hv : ∀ p ∈ l, ShE p.2) {s : Tx} (hl : s.length <= maxLen) : Calls prog 100 #[.map (some b), .string (str s)] w (aA ((aG l).contains s) w) := by
 by_cases hs : s ∈ l.map Prod.fst
 . obtain ⟨⟨s', v⟩, hp, rfl⟩ := List.mem_map.1 hs; have hc : (aG l).contains s' = true := (by rw [List.contains_iff_mem]; exact hs); show Calls _ _ _ _ (aA ((aG l).contains s') w); rw [hc]; have := hv _ hp; obtain ⟨s1, A1, m1, j1, rfl⟩ := this; exact yD h hp
 . have hc : (aG l).contains s = false := by rw [Bool.eq_false_iff]; intro h; exact hs (List.contains_iff_mem.1 h)
   rw [hc]; exact Cc h hl hs
theorem oh {w : World} {b : Nat} {l : List (Tx × Value)} (h : aP w b l) (hv : ∀ p ∈ l, ShE p.2) {s1 : ByteArray} {A1 : Option Addr} {m1 j1 : Nat} {va : Value} {names : List Tx} (ha : aH w va names) :
  Calls prog 49 #[.map (some b), .agg #[.string s1, .slice A1 m1 j1], va] w (po b l (.agg #[.string s1, .slice A1 m1 j1]) names w) := by
 have hbl := h.lt; have HH := zH h; have HA := zH ha; have HV := zH hv; obtain ⟨A, c, rfl, hc, hm, _⟩ := ha; have hll : names.length <= 9223372036854775807 := (by unfold maxLen at hm; omega); clear h hv hc hm; go_enter func49, ntmps49
 go_wp2_with fail
 go_loopg [11] names.length (λ g v wr => ∃ k : Nat, k + g = names.length /\ v = .int .i64 k /\ aP wr b (l ++ bu (.agg #[.string s1, .slice A1 m1 j1]) (names.take k)) /\ aC [b] w wr /\ bg (aG l) names = bg (aG l ++ names.take k) (names.drop k) /\ wr.heap[w.heap.size]? = some (.cells #[.string s1, .slice A1 m1 j1] 46 (0, 0)))
 case atStart =>
  have hb0 : Below w.heap.size w (w.alloc (.cells #[.string s1, .slice A1 m1 j1] 46)) := (Below.refl _ _).alloc (Nat.le_refl _) _; exact ⟨0, by omega, rfl, by simpa [bu] using HH.o.under hb0, aC.of_below hb0, by simp, heap_alloc_new w _⟩
 case round =>
  obtain ⟨k, hkg, rfl, hma, hkm, hr, hbox⟩ := hrel; obtain ⟨wq, rfl⟩ := zW wr; have HK := zH hkg; have HMA := zH hma; have HKM := zH hkm; have HR := zH hr; have BX := zH hbox; have hkl : k <= names.length := zO; clear hkg hma hkm hr hbox; by_cases hlt : k < names.length
  . obtain ⟨s, hs⟩ := zG hlt; have HSA := zH (HA.o.kept HH.o HKM.o); obtain ⟨A9, c9, e9, _, _, he9⟩ := HSA.o; obtain ⟨L9, hE9, rfl, hsl⟩ := he9 k s hs; injection e9 with e9 e10 e11; clear e10 e11; obtain ⟨a9, ea9, _, hzc, q9⟩ := et hE9; rw [ea9] at e9; subst e9; simp only [Nat.mul_one] at q9; have HSL := zH hsl; have HT := zH (mj hs (.agg #[.string s1, .slice A1 m1 j1])); have HD := zH (cU hs); have HTS := zH (bo hs); have HKN := zH (jj HMA.o (λ p hp => (List.mem_append.1 hp).elim (HV.o p) (λ hq => by obtain ⟨_, _, rfl⟩ := List.mem_map.1 hq; exact ⟨_, _, _, _, rfl⟩)) hsl); rw [ep, dJ] at HKN; clear hs he9 hE9 ea9 hzc hsl; cases hc : (aG l ++ names.take k).contains s
    . rw [hc] at HKN; have HC := zH hc; clear hc; have HRN := zH (show bg (aG l) names = bg (aG l ++ names.take (k + 1)) (names.drop (k + 1)) by rw [HR.o, HD.o, du, HC.o, HTS.o, <- List.append_assoc]; rfl)
      go_wp2_with (first
       | (go_at_call 100; (with_reducible refine HKN.o.mono ?_); rintro e w1 ⟨rfl, hb1⟩; obtain ⟨v1, rfl⟩ := zW w1; have HM1 := zH (HMA.o.under hb1); have BX1 := zH (ab hb1 BX.o); obtain ⟨x0, x1⟩ := bG BX1.o; have HK1 := zH (HKM.o.trans (aC.of_below hb1)); clear hb1)
       | (at_mapUpdate; refine iZ _ rfl _ _ _ 113 rfl underlying113 rfl rfl rfl HM1.o HSL.o ?_ ?_; (simpa [aG, bu, List.contains_iff_mem, Function.comp_def] using HC.o); (intro w2 hm2 hg2; obtain ⟨v2, rfl⟩ := zW w2; have HM2 := zH hm2; have HK2 := zH (HK1.o.trans (aC.of_grown hg2 (by simp))); have BX2 := zH (dd (aC.of_grown hg2 (List.mem_singleton.2 rfl)) (by simp; omega) BX1.o); clear hm2 hg2)))
      go_roundg (names.length - (k + 1))
      case measure => have := HK.o; omega
      case rel => exact ⟨k + 1, by omega, by go_num, by rw [HT.o, <- List.append_assoc]; exact HM2.o, HK2.o, HRN.o, BX2.o⟩
    . rw [hc] at HKN; have HC := zH hc; clear hc; have HRN := zH (show bg (aG l) names = false by rw [HR.o, HD.o, du, HC.o]; rfl); go_wp2_with (go_at_call 100; (with_reducible refine HKN.o.mono ?_); rintro e w1 ⟨rfl, hb1⟩)
      go_ret; exact ⟨au HRN.o.symm, HKM.o.trans (aC.of_below hb1), λ h => by rw [HRN.o] at h; cases h⟩
  . have hke : k = names.length := by omega
    have HRN := zH (show bg (aG l) names = true by rw [HR.o, hke, List.drop_length]; rfl); have HM3 := zH (show aP wq b (l ++ bu (.agg #[.string s1, .slice A1 m1 j1]) names) by have := HMA.o; rwa [hke, List.take_length] at this); clear hke; go_wp2_with fail
    go_ret; exact ⟨au HRN.o.symm, HKM.o, λ _ => HM3.o⟩
def ShN (v : Value) : Prop := ∃ s1 : ByteArray, ∃ A1 A2 A3 A4 : Option Addr, ∃ m1 j1 m2 j2 m3 j3 m4 j4 : Nat, v = .agg #[.string s1, .slice A1 m1 j1, .slice A2 m2 j2, .slice A3 m3 j3, .slice A4 m4 j4]
theorem CX (w : World) : (zeroValue 36).run prog w = .ok (.agg #[.string ⟨#[]⟩, .slice none 0 0, .slice none 0 0, .slice none 0 0, .slice none 0 0]) w := by kernel_rfl
theorem yB {w : World} {b : Nat} {l : List (Tx × Value)} (h : aP w b l) {s : Tx} {s1 : ByteArray} {A1 A2 A3 A4 : Option Addr} {m1 j1 m2 j2 m3 j3 m4 j4 : Nat} (hs : (s, .agg #[.string s1, .slice A1 m1 j1, .slice A2 m2 j2, .slice A3 m3 j3, .slice A4 m4 j4]) ∈ l) : Calls prog 103 #[.map (some b), .string (str s)] w (aA true w) := by
 have hrun := h.look_yes underlying114 hs; clear h hs; go_enter func103, ntmps103
 go_wp2_with fail
 go_ret; first | exact ⟨rfl, (Below.refl _ _).alloc (Nat.le_refl _) _⟩ | exact ⟨rfl, Below.refl _ _⟩
theorem Ca {w : World} {b : Nat} {l : List (Tx × Value)} (h : aP w b l) {s : Tx} (hl : s.length <= maxLen) (hs : s ∉ l.map Prod.fst) : Calls prog 103 #[.map (some b), .string (str s)] w (aA false w) := by
 have hrun := h.look_no underlying114 (CX w) hl hs; clear h hs hl; go_enter func103, ntmps103
 go_wp2_with fail
 go_ret; first | exact ⟨rfl, (Below.refl _ _).alloc (Nat.le_refl _) _⟩ | exact ⟨rfl, Below.refl _ _⟩
theorem eW {w : World} {b : Nat} {l : List (Tx × Value)} (h : aP w b l) (hv : ∀ p ∈ l, ShN p.2) {s : Tx} (hl : s.length <= maxLen) : Calls prog 103 #[.map (some b), .string (str s)] w (aA ((aG l).contains s) w) := by
 by_cases hs : s ∈ l.map Prod.fst
 . obtain ⟨⟨s', v⟩, hp, rfl⟩ := List.mem_map.1 hs; have hc : (aG l).contains s' = true := (by rw [List.contains_iff_mem]; exact hs); show Calls _ _ _ _ (aA ((aG l).contains s') w); rw [hc]; have := hv _ hp; obtain ⟨s1, A1, A2, A3, A4, m1, j1, m2, j2, m3, j3, m4, j4, rfl⟩ := this; exact yB h hp
 . have hc : (aG l).contains s = false := by rw [Bool.eq_false_iff]; intro h; exact hs (List.contains_iff_mem.1 h)
   rw [hc]; exact Ca h hl hs
theorem uV {w : World} {b : Nat} {l : List (Tx × Value)} (h : aP w b l) (hv : ∀ p ∈ l, ShN p.2) {s1 : ByteArray} {A1 A2 A3 A4 : Option Addr} {m1 j1 m2 j2 m3 j3 m4 j4 : Nat} {va : Value} {names : List Tx} (ha : aH w va names) :
  Calls prog 56 #[.map (some b), .agg #[.string s1, .slice A1 m1 j1, .slice A2 m2 j2, .slice A3 m3 j3, .slice A4 m4 j4], va] w (po b l (.agg #[.string s1, .slice A1 m1 j1, .slice A2 m2 j2, .slice A3 m3 j3, .slice A4 m4 j4]) names w) := by
 have hbl := h.lt; have HH := zH h; have HA := zH ha; have HV := zH hv; obtain ⟨A, c, rfl, hc, hm, _⟩ := ha; have hll : names.length <= 9223372036854775807 := (by unfold maxLen at hm; omega); clear h hv hc hm; go_enter func56, ntmps56
 go_wp2_with fail
 go_loopg [11] names.length (λ g v wr => ∃ k : Nat, k + g = names.length /\ v = .int .i64 k /\ aP wr b (l ++ bu (.agg #[.string s1, .slice A1 m1 j1, .slice A2 m2 j2, .slice A3 m3 j3, .slice A4 m4 j4]) (names.take k)) /\ aC [b] w wr /\ bg (aG l) names = bg (aG l ++ names.take k) (names.drop k) /\ wr.heap[w.heap.size]? = some (.cells #[.string s1, .slice A1 m1 j1, .slice A2 m2 j2, .slice A3 m3 j3, .slice A4 m4 j4] 36 (0, 0)))
 case atStart =>
  have hb0 : Below w.heap.size w (w.alloc (.cells #[.string s1, .slice A1 m1 j1, .slice A2 m2 j2, .slice A3 m3 j3, .slice A4 m4 j4] 36)) := (Below.refl _ _).alloc (Nat.le_refl _) _; exact ⟨0, by omega, rfl, by simpa [bu] using HH.o.under hb0, aC.of_below hb0, by simp, heap_alloc_new w _⟩
 case round =>
  obtain ⟨k, hkg, rfl, hma, hkm, hr, hbox⟩ := hrel; obtain ⟨wq, rfl⟩ := zW wr; have HK := zH hkg; have HMA := zH hma; have HKM := zH hkm; have HR := zH hr; have BX := zH hbox; have hkl : k <= names.length := zO; clear hkg hma hkm hr hbox; by_cases hlt : k < names.length
  . obtain ⟨s, hs⟩ := zG hlt; have HSA := zH (HA.o.kept HH.o HKM.o); obtain ⟨A9, c9, e9, _, _, he9⟩ := HSA.o; obtain ⟨L9, hE9, rfl, hsl⟩ := he9 k s hs; injection e9 with e9 e10 e11; clear e10 e11; obtain ⟨a9, ea9, _, hzc, q9⟩ := et hE9; rw [ea9] at e9; subst e9; simp only [Nat.mul_one] at q9; have HSL := zH hsl; have HT := zH (mj hs (.agg #[.string s1, .slice A1 m1 j1, .slice A2 m2 j2, .slice A3 m3 j3, .slice A4 m4 j4])); have HD := zH (cU hs); have HTS := zH (bo hs); have HKN := zH (eW HMA.o (λ p hp => (List.mem_append.1 hp).elim (HV.o p) (λ hq => by obtain ⟨_, _, rfl⟩ := List.mem_map.1 hq; exact ⟨_, _, _, _, _, _, _, _, _, _, _, _, _, rfl⟩)) hsl); rw [ep, dJ] at HKN; clear hs he9 hE9 ea9 hzc hsl; cases hc : (aG l ++ names.take k).contains s
    . rw [hc] at HKN; have HC := zH hc; clear hc; have HRN := zH (show bg (aG l) names = bg (aG l ++ names.take (k + 1)) (names.drop (k + 1)) by rw [HR.o, HD.o, du, HC.o, HTS.o, <- List.append_assoc]; rfl)
      go_wp2_with (first
       | (go_at_call 103; (with_reducible refine HKN.o.mono ?_); rintro e w1 ⟨rfl, hb1⟩; obtain ⟨v1, rfl⟩ := zW w1; have HM1 := zH (HMA.o.under hb1); have BX1 := zH (ab hb1 BX.o); obtain ⟨x0, x1, x2, x3, x4⟩ := aN BX1.o; have HK1 := zH (HKM.o.trans (aC.of_below hb1)); clear hb1)
       | (at_mapUpdate; refine iZ _ rfl _ _ _ 114 rfl underlying114 rfl rfl rfl HM1.o HSL.o ?_ ?_; (simpa [aG, bu, List.contains_iff_mem, Function.comp_def] using HC.o); (intro w2 hm2 hg2; obtain ⟨v2, rfl⟩ := zW w2; have HM2 := zH hm2; have HK2 := zH (HK1.o.trans (aC.of_grown hg2 (by simp))); have BX2 := zH (dd (aC.of_grown hg2 (List.mem_singleton.2 rfl)) (by simp; omega) BX1.o); clear hm2 hg2)))
      go_roundg (names.length - (k + 1))
      case measure => have := HK.o; omega
      case rel => exact ⟨k + 1, by omega, by go_num, by rw [HT.o, <- List.append_assoc]; exact HM2.o, HK2.o, HRN.o, BX2.o⟩
    . rw [hc] at HKN; have HC := zH hc; clear hc; have HRN := zH (show bg (aG l) names = false by rw [HR.o, HD.o, du, HC.o]; rfl); go_wp2_with (go_at_call 103; (with_reducible refine HKN.o.mono ?_); rintro e w1 ⟨rfl, hb1⟩)
      go_ret; exact ⟨au HRN.o.symm, HKM.o.trans (aC.of_below hb1), λ h => by rw [HRN.o] at h; cases h⟩
  . have hke : k = names.length := by omega
    have HRN := zH (show bg (aG l) names = true by rw [HR.o, hke, List.drop_length]; rfl); have HM3 := zH (show aP wq b (l ++ bu (.agg #[.string s1, .slice A1 m1 j1, .slice A2 m2 j2, .slice A3 m3 j3, .slice A4 m4 j4]) names) by have := HMA.o; rwa [hke, List.take_length] at this); clear hke; go_wp2_with fail
    go_ret; exact ⟨au HRN.o.symm, HKM.o, λ _ => HM3.o⟩
theorem mg {w : World} {N : Nat} {T0 : TypeId} {v0 v1 v2 v3 : Value} (h : w.heap[N]? = some (.cells #[v0, v1, v2, v3] T0 (0, 0))) : w.cell? ⟨N, 0, none⟩ = some v0 /\ w.cell? ⟨N, 1, none⟩ = some v1 /\ w.cell? ⟨N, 2, none⟩ = some v2 /\ w.cell? ⟨N, 3, none⟩ = some v3 := by simp [World.cell?, h]
def eZ : Value := .agg #[]
def sV (w : World) (v : Value) (cs : List Tx) : Prop := ∃ s A m j, v = .agg #[.string s, .slice A m j] /\ aH w (.slice A m j) cs
def Fx (v : Value) (n : aY) : Prop := ∃ s A1 c1 A2 c2 A3 c3 A4 m4 c4, v = .agg #[.string s, .slice A1 n.funs.length c1, .slice A2 n.ins.length c2, .slice A3 n.outs.length c3, .slice A4 m4 c4]
def fE (w : World) (l : List (Tx × Value)) (cs : List (Tx × List Tx)) : Prop := aG l = cs.map Prod.fst /\ ∀ (i : Nat) a b, l[i]? = some a -> cs[i]? = some b -> sV w a.2 b.2
def iG (l : List (Tx × Value)) (ns : List (Tx × aY)) : Prop := aG l = ns.map Prod.fst /\ ∀ (i : Nat) a b, l[i]? = some a -> ns[i]? = some b -> Fx a.2 b.2
structure bb (w : World) (P e c n t : Nat) (s : bc) : Prop where
 box : w.heap[P]? = some (.cells #[.map (some e), .map (some c), .map (some n), .map (some t)] 116 (0, 0))
 me : aP w e (bu eZ s.enums)
 mc : ∃ l, aP w c l /\ fE w l s.cons
 mn : ∃ l, aP w n l /\ iG l s.nodes
 mt : aP w t (bu eZ s.states)
 nd : e ≠ c /\ e ≠ n /\ e ≠ t /\ c ≠ n /\ c ≠ t /\ n ≠ t
theorem aP.notbox {w : World} {b : Nat} {l : List (Tx × Value)} (h : aP w b l) {g : Nat} {cs : Array Value} {T0 : TypeId} {fz : Nat × Nat} (hg : w.heap[g]? = some (.cells cs T0 fz)) : g ≠ b := by
 obtain ⟨es, clock, hb, _⟩ := h; intro e; rw [e, hb] at hg; cases hg
theorem sV.kept {w w' : World} {b : Nat} {l : List (Tx × Value)} {v : Value} {cs : List Tx} (h : sV w v cs) (hm : aP w b l) (hk : aC [b] w w') : sV w' v cs := by
 obtain ⟨s, A, m, j, rfl, hs⟩ := h; exact ⟨s, A, m, j, rfl, hs.kept hm hk⟩
theorem fE.kept {w w' : World} {b : Nat} {l m : List (Tx × Value)} {cs : List (Tx × List Tx)} (h : fE w l cs) (hm : aP w b m) (hk : aC [b] w w') : fE w' l cs :=
 ⟨h.1, λ i a c ha hc => (h.2 i a c ha hc).kept hm hk⟩
theorem fE.under {w w' : World} {l : List (Tx × Value)} {cs : List (Tx × List Tx)} (h : fE w l cs) (hb : Below w.heap.size w w') : fE w' l cs :=
 ⟨h.1, λ i a c ha hc => by obtain ⟨s, A, m, j, e, hs⟩ := h.2 i a c ha hc; exact ⟨s, A, m, j, e, hs.under hb⟩⟩
theorem aP.keptM {w w' : World} {M : List Nat} {b : Nat} {l : List (Tx × Value)} (h : aP w b l) (hk : aC M w w') (hb : b ∉ M) : aP w' b l := h.block (hk.block b h.lt hb)
section
variable {w w' : World} {P e c n t : Nat} {s : bc}
theorem bb.under (h : bb w P e c n t s) (hb : Below w.heap.size w w') : bb w' P e c n t s := by
 obtain ⟨lc, hc, hr⟩ := h.mc; obtain ⟨ln, hn, hq⟩ := h.mn; exact ⟨ab hb h.box, h.me.under hb, ⟨lc, hc.under hb, hr.under hb⟩, ⟨ln, hn.under hb, hq⟩, h.mt.under hb, h.nd⟩
theorem bb.other {f : Nat} {m : List (Tx × Value)} (h : bb w P e c n t s) (hm : aP w f m) (hk : aC [f] w w') (hf : f ≠ e /\ f ≠ c /\ f ≠ n /\ f ≠ t) : bb w' P e c n t s := by
 obtain ⟨h1, h2, h3, h4⟩ := hf; obtain ⟨lc, hc, hr⟩ := h.mc; obtain ⟨ln, hn, hq⟩ := h.mn; exact ⟨dd hk (by simpa using hm.notbox h.box) h.box, h.me.keptM hk (by simpa using h1.symm), ⟨lc, hc.keptM hk (by simpa using h2.symm), hr.kept hm hk⟩, ⟨ln, hn.keptM hk (by simpa using h3.symm), hq⟩, h.mt.keptM hk (by simpa using h4.symm), h.nd⟩
theorem bb.putE (h : bb w P e c n t s) (hk : aC [e] w w') {l : List Tx} (hm : aP w' e (bu eZ l)) : bb w' P e c n t { s with enums := l } := by
 obtain ⟨h1, h2, h3, h4, h5, h6⟩ := h.nd; obtain ⟨lc, hc, hr⟩ := h.mc; obtain ⟨ln, hn, hq⟩ := h.mn; exact ⟨dd hk (by simpa using h.me.notbox h.box) h.box, hm, ⟨lc, hc.keptM hk (by simpa using h1.symm), hr.kept h.me hk⟩, ⟨ln, hn.keptM hk (by simpa using h2.symm), hq⟩, h.mt.keptM hk (by simpa using h3.symm), h.nd⟩
theorem bb.putT (h : bb w P e c n t s) (hk : aC [t] w w') {l : List Tx} (hm : aP w' t (bu eZ l)) : bb w' P e c n t { s with states := l } := by
 obtain ⟨h1, h2, h3, h4, h5, h6⟩ := h.nd; obtain ⟨lc, hc, hr⟩ := h.mc; obtain ⟨ln, hn, hq⟩ := h.mn; exact ⟨dd hk (by simpa using h.mt.notbox h.box) h.box, h.me.keptM hk (by simpa using h3), ⟨lc, hc.keptM hk (by simpa using h5), hr.kept h.mt hk⟩, ⟨ln, hn.keptM hk (by simpa using h6), hq⟩, hm, h.nd⟩
theorem bb.putC {m lc : List (Tx × Value)} {l : List (Tx × List Tx)} (h : bb w P e c n t s) (hm0 : aP w c m) (hk : aC [c] w w') (hm : aP w' c lc) (hr : fE w' lc l) : bb w' P e c n t { s with cons := l } := by
 obtain ⟨h1, h2, h3, h4, h5, h6⟩ := h.nd; obtain ⟨ln, hn, hq⟩ := h.mn; exact ⟨dd hk (by simpa using hm0.notbox h.box) h.box, h.me.keptM hk (by simpa using h1), ⟨lc, hm, hr⟩, ⟨ln, hn.keptM hk (by simpa using h4.symm), hq⟩, h.mt.keptM hk (by simpa using h5.symm), h.nd⟩
theorem bb.putN {m ln : List (Tx × Value)} {l : List (Tx × aY)} (h : bb w P e c n t s) (hm0 : aP w n m) (hk : aC [n] w w') (hm : aP w' n ln) (hr : iG ln l) : bb w' P e c n t { s with nodes := l } := by
 obtain ⟨h1, h2, h3, h4, h5, h6⟩ := h.nd; obtain ⟨lc, hc, hq⟩ := h.mc; exact ⟨dd hk (by simpa using hm0.notbox h.box) h.box, h.me.keptM hk (by simpa using h2), ⟨lc, hc.keptM hk (by simpa using h4), hq.kept hm0 hk⟩, ⟨ln, hm, hr⟩, h.mt.keptM hk (by simpa using h6.symm), h.nd⟩
end
theorem fE.snoc {w : World} {l : List (Tx × Value)} {cs : List (Tx × List Tx)} {v : Value} {names L : List Tx} (h : fE w l cs) (hv : sV w v L) : fE w (l ++ bu v names) (cs ++ names.map λ c => (c, L)) := by
 have hlen : l.length = cs.length := (by have := congrArg List.length h.1; simpa [aG] using this); refine ⟨?_, λ i a b ha hb => ?_⟩
 . rw [ep, dJ, h.1, List.map_append, List.map_map]; congr 1
   induction names with
   | nil => rfl
   | cons x r ih => rw [List.map_cons, <- ih]; rfl
 . by_cases hi : i < l.length
   . rw [List.getElem?_append_left hi] at ha; rw [List.getElem?_append_left zO] at hb; exact h.2 i a b ha hb
   . rw [List.getElem?_append_right zO] at ha; rw [List.getElem?_append_right zO] at hb; have h1 := List.mem_of_getElem? ha; have h2 := List.mem_of_getElem? hb; obtain ⟨x, _, rfl⟩ := List.mem_map.1 h1; obtain ⟨y, _, rfl⟩ := List.mem_map.1 h2; exact hv
theorem fE.sh {w : World} {l : List (Tx × Value)} {cs : List (Tx × List Tx)} (h : fE w l cs) : ∀ p ∈ l, ShE p.2 := by
 intro p hp; obtain ⟨i, hi⟩ := List.getElem?_of_mem hp; have hlen : l.length = cs.length := (by have := congrArg List.length h.1; simpa [aG] using this); have hl : i < cs.length := (by rw [<- hlen]; exact (List.getElem?_eq_some_iff.1 hi).1); obtain ⟨s, A, m, j, e, _⟩ := h.2 i p _ hi (List.getElem?_eq_getElem hl); exact ⟨s, A, m, j, e⟩
theorem iG.sh {l : List (Tx × Value)} {ns : List (Tx × aY)} (h : iG l ns) : ∀ p ∈ l, ShN p.2 := by
 intro p hp; obtain ⟨i, hi⟩ := List.getElem?_of_mem hp; have hlen : l.length = ns.length := (by have := congrArg List.length h.1; simpa [aG] using this); have hl : i < ns.length := (by rw [<- hlen]; exact (List.getElem?_eq_some_iff.1 hi).1); obtain ⟨s, A1, c1, A2, c2, A3, c3, A4, m4, c4, e⟩ := h.2 i p _ hi (List.getElem?_eq_getElem hl); exact ⟨s, A1, A2, A3, A4, _, c1, _, c2, _, c3, m4, c4, e⟩
theorem ez (l : List Tx) : ∀ p ∈ bu eZ l, ShS p.2 := by
 intro p hp; obtain ⟨_, _, rfl⟩ := List.mem_map.1 hp; rfl
def jv : Obj := .cells #[.string ⟨#[70, 97, 108, 115, 101]⟩, .string ⟨#[84, 114, 117, 101]⟩] 9
theorem wZ (w : World) : aH (w.alloc jv) (.slice (some ⟨w.heap.size, 0, none⟩) 2 2) iE :=
 ⟨_, 2, rfl, by decide, by unfold maxLen; omega, λ i x hx => by
   obtain ⟨x0, x1⟩ := bG (show (w.alloc jv).heap[w.heap.size]? = some (.cells #[.string (str [70, 97, 108, 115, 101]), .string (str [84, 114, 117, 101])] 9 (0, 0)) from heap_alloc_new w jv)
   match i with
   | 0 => cases hx; exact ⟨_, ⟨_, rfl, λ j u hu => by
       have hj : j = 0 := (by have := (List.getElem?_eq_some_iff.1 hu).1; simp at this; exact this)
       subst hj; cases hu
       simpa [Addr.add] using x0⟩, rfl, by unfold maxLen; decide⟩
   | 1 => cases hx; exact ⟨_, ⟨_, rfl, λ j u hu => by
       have hj : j = 0 := (by have := (List.getElem?_eq_some_iff.1 hu).1; simp at this; exact this)
       subst hj; cases hu
       simpa [Addr.add] using x1⟩, rfl, by unfold maxLen; decide⟩
   | i + 2 => simp [iE] at hx⟩
theorem mZ (w : World) : Calls prog 50 #[] w λ e w' => e = .returned (.slice (some ⟨w.heap.size, 0, none⟩) 2 2) /\ w' = w.alloc jv := by
 go_enter func50, ntmps50
 go_wp2_with fail
 go_ret; exact ⟨rfl, rfl⟩
def Bc (w : World) (e : Ending) (w' : World) : Prop :=
 ∃ P e1 c1 n1 t1, e = .returned (.pointer (some ⟨P, 0, none⟩)) /\ bb w' P e1 c1 n1 t1 bc.new /\ Below w.heap.size w w' /\ w.heap.size <= e1 /\ w.heap.size <= c1 /\ w.heap.size <= n1 /\ w.heap.size <= t1 /\ w.heap.size <= P
theorem wY : bg (aG []) iE = true := by decide
theorem Fe : ∀ p ∈ ([] : List (Tx × Value)), ShE p.2 := by simp
theorem DX {w V : World} {P e1 c1 n1 t1 : Nat} (hV : Below w.heap.size w V) (hb : V.heap[P]? = some (.cells #[.map (some e1), .map (some c1), .map (some n1), .map (some t1)] 116 (0, 0)))
  (he : aP V e1 []) (hc : aP V c1 []) (hn : aP V n1 []) (ht : aP V t1 []) (hd : e1 ≠ c1 /\ e1 ≠ n1 /\ e1 ≠ t1 /\ c1 ≠ n1 /\ c1 ≠ t1 /\ n1 ≠ t1)
  (hl : w.heap.size <= e1 /\ w.heap.size <= c1 /\ w.heap.size <= n1 /\ w.heap.size <= t1 /\ w.heap.size <= P) {V2 w' : World} (hV2 : Below V.heap.size V V2) {A : Option Addr} {m j : Nat} (hE : aH V2 (.slice A m j) iE)
  (hk : aC [c1] V2 w') (hm : aP w' c1 ([] ++ bu (.agg #[.string ⟨#[]⟩, .slice A m j]) iE)) : Bc w (.returned (.pointer (some ⟨P, 0, none⟩))) w' := by
 have h0 : bb V P e1 c1 n1 t1 ⟨[], [], [], []⟩ := ⟨hb, he, ⟨[], hc, rfl, by simp⟩, ⟨[], hn, rfl, by simp⟩, ht, hd⟩; have h2 := h0.under hV2; have hr : fE w' ([] ++ bu (.agg #[.string ⟨#[]⟩, .slice A m j]) iE) ([] ++ iE.map λ c => (c, iE)) := fE.snoc ⟨rfl, by simp⟩ ⟨_, A, m, j, rfl, hE.kept (hc.under hV2) hk⟩; refine ⟨P, e1, c1, n1, t1, rfl, h2.putC (hc.under hV2) hk hm hr, ?_, hl⟩; exact (hV.trans (hV2.mono hV.size)).trans (hk.below (by simpa using hl.2.1) (Nat.le_trans hV.size hV2.size))
theorem tF (w : World) : Calls prog 18 #[] w (Bc w) := by
 have hmm := @run_makeMap prog; go_enter func18, ntmps18
 go_wp2_with fail
 clear hmm; generalize hV : ((((w.alloc (.map #[] 0)).alloc (.map #[] 0)).alloc (.map #[] 0)).alloc (.map #[] 0)).alloc (.cells #[.map (some w.heap.size), .map (some (w.heap.size + 1)), .map (some (w.heap.size + 1 + 1)), .map (some (w.heap.size + 1 + 1 + 1))] 116) = V; have a1 : Below w.heap.size w (w.alloc (.map #[] 0)) := (Below.refl _ w).alloc (Nat.le_refl _) _; have m1 := aP.made w; have m2 := aP.made (w.alloc (.map #[] 0)); have m3 := aP.made ((w.alloc (.map #[] 0)).alloc (.map #[] 0)); have m4 := aP.made (((w.alloc (.map #[] 0)).alloc (.map #[] 0)).alloc (.map #[] 0)); have m5 := heap_alloc_new ((((w.alloc (.map #[] 0)).alloc (.map #[] 0)).alloc (.map #[] 0)).alloc (.map #[] 0)) (.cells #[.map (some w.heap.size), .map (some (w.heap.size + 1)), .map (some (w.heap.size + 1 + 1)), .map (some (w.heap.size + 1 + 1 + 1))] 116); simp only [World.size_alloc] at m2 m3 m4 m5; have HV := zH (show Below w.heap.size w V by rw [<- hV]; exact ((((a1.alloc (by simp) _).alloc (by simp <;> omega) _).alloc (by simp <;> omega) _).alloc (by simp <;> omega) _))
 have al : ∀ (W : World) (o : Obj), Below W.heap.size W (W.alloc o) := λ W o => (Below.refl _ W).alloc (Nat.le_refl _) _; have H1 := zH (show aP V w.heap.size [] by rw [<- hV]; exact (((m1.under (al _ _)).under (al _ _)).under (al _ _)).under (al _ _)); have H2 := zH (show aP V (w.heap.size + 1) [] by rw [<- hV]; exact ((m2.under (al _ _)).under (al _ _)).under (al _ _)); have H3 := zH (show aP V (w.heap.size + 1 + 1) [] by rw [<- hV]; exact (m3.under (al _ _)).under (al _ _)); have H4 := zH (show aP V (w.heap.size + 1 + 1 + 1) [] by rw [<- hV]; exact m4.under (al _ _)); have H5 := zH (show V.heap[w.heap.size + 1 + 1 + 1 + 1]? = some (.cells #[.map (some w.heap.size), .map (some (w.heap.size + 1)), .map (some (w.heap.size + 1 + 1)), .map (some (w.heap.size + 1 + 1 + 1))] 116 (0, 0)) by rw [<- hV]; exact m5); clear hV m1 m2 m3 m4 m5 a1 al; have hlt := ak H5.o; obtain ⟨x0, x1, x2, x3⟩ := mg H5.o; refine wp_region_held_drew (S := (λ W => W.cell? ⟨w.heap.size + 1 + 1 + 1 + 1, 1, none⟩ = some (.map (some (w.heap.size + 1))))) zK ?_ (λ hHeld => ?_)
 . (try dsimp only); go_keep
 refine aa 0 ?_; refine aa 1 ?_; refine aa 2 ?_; refine aa 3 ?_; refine ay 4 zK rfl (λ K hK => ?_); go_simp
 (go_at_call 50
  (with_reducible refine (mZ _).mono ?_); rintro e w7 ⟨rfl, rfl⟩; have B1 := zH (((zB V).drew.alloc (by simp) jv)); have S1 := zH (wZ V.drew); obtain ⟨V1, hV1⟩ : ∃ W, W = V.drew.alloc jv := ⟨_, rfl⟩; rw [<- hV1] at B1 S1 ⊢; clear hV1; obtain ⟨x0, x1, x2, x3⟩ := mg (ab B1.o H5.o))
 refine hK.out _ _ ?_ (λ hHeld => ?_)
 . (try dsimp only); go_keep
 clear hK K; try simp only [Act.put, aK, aI, aJ]
 refine aa 5 ?_; refine ay 6 zK rfl (λ K hK => ?_); go_simp
 (go_at_call 50
  (with_reducible refine (mZ _).mono ?_); rintro e w7 ⟨rfl, rfl⟩; have B2 := zH (B1.o.alloc B1.o.size jv); have S2 := zH (wZ V1); have S3 := zH (S1.o.under ((Below.refl _ V1).alloc (Nat.le_refl _) jv)); obtain ⟨V2, hV2⟩ : ∃ W, W = V1.alloc jv := ⟨_, rfl⟩; rw [<- hV2] at B2 S2 S3 ⊢; clear hV2; obtain ⟨x0, x1, x2, x3⟩ := mg (ab B2.o H5.o))
 refine hK.out _ _ ?_ (λ hHeld => ?_)
 . (try dsimp only); go_keep
 clear hK K; try simp only [Act.put, aK, aI, aJ]
 refine ay 7 zK rfl (λ K hK => ?_); go_simp
 (go_at_call 49
  (with_reducible refine (oh (H2.o.under B2.o) Fe S2.o).mono ?_); rintro e w7 ⟨he, hk, hm⟩; rw [wY] at he; subst he; obtain ⟨V3, rfl⟩ := zW w7; have HK := zH hk; have HM := zH (hm wY); have BX := zH (dd hk (by simp; omega) (ab B2.o H5.o)); obtain ⟨x0, x1, x2, x3⟩ := mg BX.o; clear hk hm)
 refine hK.out _ _ ?_ (λ hHeld => ?_)
 . (try dsimp only); go_keep
 clear hK K; try simp only [Act.put, aK, aI, aJ]
 refine wpAnyH_done zK ?_ _; go_wp2_with fail
 go_ret; exact DX HV.o H5.o H1.o H2.o H3.o H4.o zO zO B2.o S3.o HK.o HM.o
theorem pG {w : World} {g : Nat} {s : Tx} {T0 : TypeId} (h : w.heap[g]? = some (.cells #[.string (str s)] T0 (0, 0))) (hs : s.length <= maxLen) : aH w (.slice (some ⟨g, 0, none⟩) 1 1) [s] :=
 ⟨_, 1, rfl, by simp, by unfold maxLen; omega, λ i x hx => by
   match i with
   | 0 =>
     cases hx
     refine ⟨_, ⟨_, rfl, λ j u hu => ?_⟩, rfl, hs⟩
     have hj : j = 0 := (by have := (List.getElem?_eq_some_iff.1 hu).1; simp at this; exact this)
     subst hj; cases hu
     simpa [Addr.add] using oL h
   | i + 1 => simp at hx⟩
theorem cg (l : List Tx) : aG (bu eZ l) = l := dJ _ _
theorem lW (v : Value) (a b : List Tx) : bu v a ++ bu v b = bu v (a ++ b) := by simp [bu]
def FC (P e1 c1 n1 t1 : Nat) (s : bc) (q : dw) (w : World) (e : Ending) (w' : World) : Prop :=
 e = .returned (.bool (iC s q)) /\ aC [e1, c1] w w' /\ (iC s q = true -> bb w' P e1 c1 n1 t1 (s.addEnum q))
section
variable {w w' : World} {P e1 c1 n1 t1 : Nat} {s : bc}
theorem bb.row (h : bb w P e1 c1 n1 t1 s) : w.cell? ⟨P, 0, none⟩ = some (.map (some e1)) /\ w.cell? ⟨P, 1, none⟩ = some (.map (some c1)) /\ w.cell? ⟨P, 2, none⟩ = some (.map (some n1)) /\ w.cell? ⟨P, 3, none⟩ = some (.map (some t1)) := mg h.box
theorem fp {b : Nat} {l : List (Tx × Value)} {g : Nat} {cs : Array Value} {T0 : TypeId} (hm : aP w b l) (hk : aC [b] w w') (h : w.heap[g]? = some (.cells cs T0 (0, 0))) : w'.heap[g]? = some (.cells cs T0 (0, 0)) :=
 dd hk (by simpa using hm.notbox h) h
end
theorem xi {w0 : World} {L : List Value} {q : dw} (hL : bE w0 L q) {w : World} {P e1 c1 n1 t1 : Nat} {s : bc} (hS : bb w P e1 c1 n1 t1 s) (hb : Below w0.heap.size w0 w) :
  Calls prog 19 #[.pointer (some ⟨P, 0, none⟩), .agg L.toArray] w (FC P e1 c1 n1 t1 s q w) := by
 obtain ⟨cv, rfl, hnl, hcs⟩ := hL; obtain ⟨A, m, j, rfl⟩ := aw.shape hcs; have HCS := zH (hcs.under hb); have HNL := zH hnl; have HS := zH hS; have hPl := ak hS.box; clear hcs hnl hS hb; go_enter func19, ntmps19
 go_wp2_with fail
 have hal : Below w.heap.size w (w.alloc (.cells #[.string (str q.name), .slice A m j] 46)) := (Below.refl _ w).alloc (Nat.le_refl _) _; have BX := zH (heap_alloc_new w (.cells #[.string (str q.name), .slice A m j] 46)); have HV := zH hal; generalize w.alloc (.cells #[.string (str q.name), .slice A m j] 46) = V at *; clear hal; have HSV := zH (HS.o.under HV.o); obtain ⟨x0, x1, _, _⟩ := HSV.o.row; obtain ⟨y0, y1⟩ := bG BX.o; have hVl := HV.o.size; refine wp_region_held_drew (S := (λ W => W.cell? ⟨P, 0, none⟩ = some (.map (some e1)) /\ W.cell? ⟨P, 1, none⟩ = some (.map (some c1)) /\ W.cell? ⟨w.heap.size, 0, none⟩ = some (.string (str q.name)) /\ W.cell? ⟨w.heap.size, 1, none⟩ = some (.slice A m j))) zK ?_ (λ hHeld => ?_)
 . (try dsimp only); go_keep
 refine aa 0 ?_; refine aa 1 ?_; refine aa 2 ?_; refine aa 3 ?_; refine aa 4 ?_; refine aa 5 ?_; refine aa 6 ?_; refine ay 7 zK rfl (λ K hK => ?_); go_simp
 refine hK.out _ _ ?_ (λ hHeld => ?_)
 . (try dsimp only); go_keep
 clear hK K; try simp only [Act.put, aK, aI, aJ]
 have B1 := zH (zA V (.cells #[.string (str q.name)] 9)).drew; have NX := zH (show (V.alloc (.cells #[.string (str q.name)] 9)).drew.heap[V.heap.size]? = some (.cells #[.string (str q.name)] 9 (0, 0)) from heap_alloc_new V (.cells #[.string (str q.name)] 9)); generalize (V.alloc (.cells #[.string (str q.name)] 9)).drew = V1 at *; have HS1 := zH (HSV.o.under B1.o); cases hr : bg s.enums [q.name]
 . have HR := zH hr; have HE := zH (show iC s q = false by rw [iC, hr]; rfl); clear hr; refine ay 8 zK rfl (λ K hK => ?_); go_simp
   (go_at_call 51
    (with_reducible refine (dr HS1.o.me (ez _) (pG NX.o HNL.o)).mono ?_); rintro e w7 ⟨he, hk, _⟩; rw [cg, HR.o] at he; subst he; obtain ⟨V3, rfl⟩ := zW w7; have HK := zH hk; obtain ⟨x0, x1, _, _⟩ := mg (fp HS1.o.me hk HS1.o.box); obtain ⟨y0, y1⟩ := bG (fp HS1.o.me hk (ab B1.o BX.o)); clear hk)
   refine hK.out _ _ ?_ (λ hHeld => ?_)
   . (try dsimp only); go_keep
   clear hK K; try simp only [Act.put, aK, aI, aJ]
   refine aa 9 ?_; refine aj 10 ?_; refine aj 11 ?_; refine aj 12 ?_; refine aj 13 ?_; refine aj 14 ?_; refine aj 15 ?_; refine aj 16 ?_; refine aj 17 ?_; refine aa 18 ?_; refine aa 19 ?_; refine wpAnyH_done zK ?_ _; go_wp2_with fail
   go_ret; exact ⟨au HE.o.symm, ((aC.of_below HV.o).trans (aC.of_below (B1.o))).trans (HK.o.mono (by simp)), λ h => by rw [HE.o] at h; cases h⟩
 . have HR := zH hr; have HE := zH (show iC s q = bg s.conKeys q.cons by rw [iC, hr]; rfl); clear hr; refine ay 8 zK rfl (λ K hK => ?_); go_simp
   (go_at_call 51
    (with_reducible refine (dr HS1.o.me (ez _) (pG NX.o HNL.o)).mono ?_); rintro e w7 ⟨he, hk, hm⟩; rw [cg, HR.o] at he; subst he; obtain ⟨V3, rfl⟩ := zW w7; have HK := zH hk; have HM := zH (hm (by rw [cg]; exact HR.o)); obtain ⟨x0, x1, _, _⟩ := mg (fp HS1.o.me hk HS1.o.box); have BX3 := zH (fp HS1.o.me hk (ab B1.o BX.o)); obtain ⟨y0, y1⟩ := bG BX3.o; clear hk hm)
   refine hK.out _ _ ?_ (λ hHeld => ?_)
   . (try dsimp only); go_keep
   clear hK K; try simp only [Act.put, aK, aI, aJ]
   have HS3 := zH (HS1.o.putE (l := s.enums ++ [q.name]) HK.o (by have := HM.o; rwa [show (.agg #[] : Value) = eZ from rfl, lW] at this)); have HC3 := zH (((HCS.o.under HV.o).under B1.o).kept HS1.o.me HK.o); obtain ⟨lc, hmc, hrc⟩ := HS3.o.mc; have HMC := zH hmc; have HRC := zH hrc; clear hmc hrc; refine aa 9 ?_; refine aa 10 ?_; refine aa 11 ?_; refine aa 12 ?_; refine aa 13 ?_; refine aa 14 ?_; refine aa 15 ?_; refine aa 16 ?_; refine ay 17 zK rfl (λ K hK => ?_); go_simp
   (go_at_call 49
    (with_reducible refine (oh HMC.o HRC.o.sh HC3.o).mono ?_); rintro e w7 ⟨he, hk, hm⟩; subst he; obtain ⟨V4, rfl⟩ := zW w7; have HK4 := zH hk; have HM4 := zH hm; obtain ⟨x0, x1, _, _⟩ := mg (fp HMC.o hk HS3.o.box); obtain ⟨y0, y1⟩ := bG (fp HMC.o hk BX3.o); clear hk hm)
   refine hK.out _ _ ?_ (λ hHeld => ?_)
   . (try dsimp only); go_keep
   clear hK K; try simp only [Act.put, aK, aI, aJ]
   refine aa 18 ?_; refine aa 19 ?_; refine wpAnyH_done zK ?_ _; go_wp2_with fail
   go_ret; have hkey : bg (aG lc) q.cons = iC s q := (by rw [HE.o, HRC.o.1]; rfl); refine ⟨au hkey, (((aC.of_below HV.o).trans (aC.of_below (B1.o))).trans (HK.o.mono (by simp))).trans (HK4.o.mono (by simp)), λ h => ?_⟩; exact HS3.o.putC HMC.o HK4.o (HM4.o (hkey.trans h)) ((HRC.o.kept HMC.o HK4.o).snoc ⟨_, _, _, _, rfl, HC3.o.kept HMC.o HK4.o⟩)
theorem gm {w : World} {N : Nat} {T0 : TypeId} {v0 v1 v2 v3 v4 v5 v6 v7 : Value} (h : w.heap[N]? = some (.cells #[v0, v1, v2, v3, v4, v5, v6, v7] T0 (0, 0))) :
  w.cell? ⟨N, 0, none⟩ = some v0 /\ w.cell? ⟨N, 1, none⟩ = some v1 /\ w.cell? ⟨N, 2, none⟩ = some v2 /\ w.cell? ⟨N, 3, none⟩ = some v3 /\ w.cell? ⟨N, 4, none⟩ = some v4 /\ w.cell? ⟨N, 5, none⟩ = some v5 /\ w.cell? ⟨N, 6, none⟩ = some v6 /\ w.cell? ⟨N, 7, none⟩ = some v7 := by simp [World.cell?, h]
theorem sq {X : Type} {l : List (Tx × X)} {s : Tx} {x : X} (h : oO l s = some x) : ∃ i : Nat, l[i]? = some (s, x) := by
 unfold oO at h; cases hf : l.find? (λ p => p.1 == s) with
 | none => rw [hf] at h; cases h
 | some p =>
   rw [hf] at h; cases h; have h1 := List.find?_some hf; obtain ⟨i, hi⟩ := List.getElem?_of_mem (List.mem_of_find?_eq_some hf); obtain ⟨a, b⟩ := p; simp only [beq_iff_eq] at h1; subst h1; exact ⟨i, hi⟩
theorem nR {X : Type} {l : List (Tx × X)} {s : Tx} (h : oO l s = none) : s ∉ l.map Prod.fst := by
 unfold oO at h; rw [Option.map_eq_none_iff, List.find?_eq_none] at h; intro hm; obtain ⟨p, hp, rfl⟩ := List.mem_map.1 hm; exact h p hp (by simp)
theorem oT {X Y : Type} {l : List (Tx × X)} {m : List (Tx × Y)} (h : l.map Prod.fst = m.map Prod.fst) {i : Nat} {s : Tx} {y : Y} (hi : m[i]? = some (s, y)) : ∃ x, l[i]? = some (s, x) := by
 have h1 : (l.map Prod.fst)[i]? = some s := (by rw [h, List.getElem?_map, hi]; rfl); rw [List.getElem?_map] at h1; cases hl : l[i]? with
 | none => rw [hl] at h1; cases h1
 | some p =>
   rw [hl] at h1; obtain ⟨a, b⟩ := p; cases h1; exact ⟨b, rfl⟩
theorem iG.find {l : List (Tx × Value)} {ns : List (Tx × aY)} (h : iG l ns) {s : Tx} {q : aY} (hg : oO ns s = some q) : ∃ v, (s, v) ∈ l /\ Fx v q := by
 obtain ⟨i, hi⟩ := sq hg; obtain ⟨v, hv⟩ := oT h.1 hi; exact ⟨v, List.mem_of_getElem? hv, h.2 i _ _ hv hi⟩
theorem fE.find {w : World} {l : List (Tx × Value)} {cs : List (Tx × List Tx)} (h : fE w l cs) {s : Tx} {q : List Tx} (hg : oO cs s = some q) : ∃ v, (s, v) ∈ l /\ sV w v q := by
 obtain ⟨i, hi⟩ := sq hg; obtain ⟨v, hv⟩ := oT h.1 hi; exact ⟨v, List.mem_of_getElem? hv, h.2 i _ _ hv hi⟩
structure dX (w : World) (S P e c n t f v : Nat) (nd : Value × Value × Value × Value × Value) (s : fu) : Prop where
 prog : bb w P e c n t s.prog
 box : w.heap[S]? = some (.cells #[.pointer (some ⟨P, 0, none⟩), nd.1, nd.2.1, nd.2.2.1, nd.2.2.2.1, nd.2.2.2.2, .map (some f), .map (some v)] 124 (0, 0))
 mf : aP w f (bu eZ s.funs)
 mv : ∃ l, aP w v l /\ aG l = s.vars /\ ∀ p ∈ l, ShI p.2
 nf : f ≠ e /\ f ≠ c /\ f ≠ n /\ f ≠ t
 nv : v ≠ e /\ v ≠ c /\ v ≠ n /\ v ≠ t /\ v ≠ f
theorem dX.under {w w' : World} {S P e c n t f v : Nat} {nd : Value × Value × Value × Value × Value} {s : fu} (h : dX w S P e c n t f v nd s) (hb : Below w.heap.size w w') : dX w' S P e c n t f v nd s := by
 obtain ⟨l, h1, h2, h3⟩ := h.mv; exact ⟨h.prog.under hb, ab hb h.box, h.mf.under hb, ⟨l, h1.under hb, h2, h3⟩, h.nf, h.nv⟩
section
variable {S P e1 c1 n1 t1 f1 v1 : Nat} {nd : Value × Value × Value × Value × Value} {s : fu}
theorem tm {w : World} (h : dX w S P e1 c1 n1 t1 f1 v1 nd s) {x : Tx} (hl : x.length <= maxLen) : Calls prog 201 #[.pointer (some ⟨S, 0, none⟩), .string (str x)] w (aA (ll s x) w) := by
 have HS := zH h; have HL := zH hl; obtain ⟨ln, hmn, hrn⟩ := h.prog.mn; have hPl := ak h.prog.box; have hSl := ak h.box; have HMN := zH hmn; cases hg : oO s.prog.nodes x with
 | none =>
   have hrun := hmn.look_no underlying114 (CX w) hl (by have := nR hg; rw [<- hrn.1] at this; exact this); have HQ := zH (show ll s x = s.funs.contains x by rw [ll, hg]; simp); obtain ⟨x0, x1, x2, x3⟩ := h.prog.row; obtain ⟨y0, y1, y2, y3, y4, y5, y6, y7⟩ := gm h.box; clear h hl hg hmn hrn; cases hc : s.funs.contains x
   . have HC := zH hc; clear hc; go_enter func201, ntmps201
     go_wp2_with (go_at_call 101
                  have hal : Below w.heap.size w (w.alloc (.cells #[.string ⟨#[]⟩, .slice none 0 0, .slice none 0 0, .slice none 0 0, .slice none 0 0] 36)) := (Below.refl _ w).alloc (Nat.le_refl _) _; (with_reducible refine (eV (HS.o.under hal).mf (ez _) HL.o).mono ?_); rintro e w7 ⟨he, hb7⟩; rw [cg, HC.o] at he; subst he; have HB := zH (hal.trans (hb7.mono hal.size)); clear hal hb7)
     go_ret; exact ⟨au (by rw [HQ.o, HC.o]), HB.o⟩
   . have HC := zH hc; clear hc; go_enter func201, ntmps201
     go_wp2_with (go_at_call 101
                  have hal : Below w.heap.size w (w.alloc (.cells #[.string ⟨#[]⟩, .slice none 0 0, .slice none 0 0, .slice none 0 0, .slice none 0 0] 36)) := (Below.refl _ w).alloc (Nat.le_refl _) _; (with_reducible refine (eV (HS.o.under hal).mf (ez _) HL.o).mono ?_); rintro e w7 ⟨he, hb7⟩; rw [cg, HC.o] at he; subst he; obtain ⟨z0, z1, z2, z3, z4⟩ := aN (ab hb7 (heap_alloc_new w (.cells #[.string ⟨#[]⟩, .slice none 0 0, .slice none 0 0, .slice none 0 0, .slice none 0 0] 36))); have HB := zH (hal.trans (hb7.mono hal.size)); clear hal hb7)
     go_ret; exact ⟨au (by rw [HQ.o, HC.o]), HB.o⟩
 | some q =>
   obtain ⟨v, hv, sN, A1, c1', A2, c2', A3, c3', A4, m4, c4', rfl⟩ := hrn.find hg; have hrun := hmn.look_yes underlying114 hv; have HQ := zH (show ll s x = (s.funs.contains x || q.funs.isEmpty) by rw [ll, hg]); obtain ⟨x0, x1, x2, x3⟩ := h.prog.row; obtain ⟨y0, y1, y2, y3, y4, y5, y6, y7⟩ := gm h.box; clear h hl hg hmn hrn hv; cases hc : s.funs.contains x
   . have HC := zH hc; clear hc; cases hq : q.funs with
     | nil =>
       have HE := zH (show q.funs.isEmpty = true by rw [hq]; rfl); have hd : ((q.funs.length : Int) == 0) = true := (by rw [hq]; rfl); clear hq; go_enter func201, ntmps201
       go_wp2_with (go_at_call 101
                    have hal : Below w.heap.size w (w.alloc (.cells #[.string sN, .slice A1 q.funs.length c1', .slice A2 q.ins.length c2', .slice A3 q.outs.length c3', .slice A4 m4 c4'] 36)) := (Below.refl _ w).alloc (Nat.le_refl _) _; (with_reducible refine (eV (HS.o.under hal).mf (ez _) HL.o).mono ?_); rintro e w7 ⟨he, hb7⟩; rw [cg, HC.o] at he; subst he; obtain ⟨z0, z1, z2, z3, z4⟩ := aN (ab hb7 (heap_alloc_new w (.cells #[.string sN, .slice A1 q.funs.length c1', .slice A2 q.ins.length c2', .slice A3 q.outs.length c3', .slice A4 m4 c4'] 36))); have HB := zH (hal.trans (hb7.mono hal.size)); clear hal hb7)
       go_ret; exact ⟨au (by rw [HQ.o, HC.o, HE.o]; rfl), HB.o⟩
     | cons a b =>
       have HE := zH (show q.funs.isEmpty = false by rw [hq]; rfl); have hd : ((q.funs.length : Int) == 0) = false := (by rw [hq]; simp; omega); clear hq; go_enter func201, ntmps201
       go_wp2_with (go_at_call 101
                    have hal : Below w.heap.size w (w.alloc (.cells #[.string sN, .slice A1 q.funs.length c1', .slice A2 q.ins.length c2', .slice A3 q.outs.length c3', .slice A4 m4 c4'] 36)) := (Below.refl _ w).alloc (Nat.le_refl _) _; (with_reducible refine (eV (HS.o.under hal).mf (ez _) HL.o).mono ?_); rintro e w7 ⟨he, hb7⟩; rw [cg, HC.o] at he; subst he; obtain ⟨z0, z1, z2, z3, z4⟩ := aN (ab hb7 (heap_alloc_new w (.cells #[.string sN, .slice A1 q.funs.length c1', .slice A2 q.ins.length c2', .slice A3 q.outs.length c3', .slice A4 m4 c4'] 36))); have HB := zH (hal.trans (hb7.mono hal.size)); clear hal hb7)
       go_ret; exact ⟨au (by rw [HQ.o, HC.o, HE.o]; rfl), HB.o⟩
   . have HC := zH hc; clear hc; go_enter func201, ntmps201
     go_wp2_with (go_at_call 101
                  have hal : Below w.heap.size w (w.alloc (.cells #[.string sN, .slice A1 q.funs.length c1', .slice A2 q.ins.length c2', .slice A3 q.outs.length c3', .slice A4 m4 c4'] 36)) := (Below.refl _ w).alloc (Nat.le_refl _) _; (with_reducible refine (eV (HS.o.under hal).mf (ez _) HL.o).mono ?_); rintro e w7 ⟨he, hb7⟩; rw [cg, HC.o] at he; subst he; obtain ⟨z0, z1, z2, z3, z4⟩ := aN (ab hb7 (heap_alloc_new w (.cells #[.string sN, .slice A1 q.funs.length c1', .slice A2 q.ins.length c2', .slice A3 q.outs.length c3', .slice A4 m4 c4'] 36))); have HB := zH (hal.trans (hb7.mono hal.size)); clear hal hb7)
     go_ret; exact ⟨au (by rw [HQ.o, HC.o]; rfl), HB.o⟩
end
section
variable {S P e1 c1 n1 t1 f1 v1 : Nat} {nd : Value × Value × Value × Value × Value} {s : fu}
theorem mW {w : World} (h : dX w S P e1 c1 n1 t1 f1 v1 nd s) {va : Value} {l : List Tx} (ha : aH w va l) (hne : l ≠ []) : Calls prog 180 #[.pointer (some ⟨S, 0, none⟩), va] w (aA (eC s l) w) := by
 have HS := zH h; have HA := zH ha; obtain ⟨lc, hmc, hrc⟩ := h.prog.mc; have hPl := ak h.prog.box; have hSl := ak h.box; obtain ⟨x0, x1, x2, x3⟩ := h.prog.row; obtain ⟨y0, y1, y2, y3, y4, y5, y6, y7⟩ := gm h.box; obtain ⟨A, ca, rfl, hc, hm, he⟩ := ha; have hll : l.length <= 9223372036854775807 := (by unfold maxLen at hm; omega); obtain ⟨c, r, rfl⟩ := List.exists_cons_of_ne_nil hne; obtain ⟨L0, hE0, rfl, hcl⟩ := he 0 c rfl; obtain ⟨a, rfl, hab, _, q0⟩ := et hE0; simp only [Nat.zero_mul] at q0; rw [add_zero] at q0; have hpos : 0 < (c :: r).length := (by simp); cases hg : oO s.prog.cons c with
 | none =>
   have HQ := zH (show eC s (c :: r) = false by simp only [eC, hg]); have hrun := λ (W : World) (hW : Below w.heap.size w W) => (hmc.under hW).look_no underlying113 (Is W) hcl (by have := nR hg; rw [<- hrc.1] at this; exact this); have HRUN := zH hrun
   have KEEP := zH (show ∀ W, Below w.heap.size w W -> W.cell? ⟨S, 0, none⟩ = some (.pointer (some ⟨P, 0, none⟩)) /\ W.cell? ⟨P, 1, none⟩ = some (.map (some c1)) /\ W.cell? a = some (.string (str c)) /\ (Instr.lookup 113 (.map (some c1)) (.string (str c)) true).run prog W = .ok (.tuple #[.agg #[.string ⟨#[]⟩, .slice none 0 0], .bool false]) W from
    λ W hW => ⟨(hW.cell (p := ⟨S, 0, none⟩) hSl).trans y0, (hW.cell (p := ⟨P, 1, none⟩) hPl).trans x1, (hW.cell (p := a) hab).trans q0, HRUN.o W hW⟩)
   generalize (c :: r).length = nn at *; clear h hc hm he hE0 hne hg hmc hrc hrun hcl; go_enter func180, ntmps180
   go_wp2_with fail
   refine wp_region_held_drew (S := (λ W => W.cell? ⟨S, 0, none⟩ = some (.pointer (some ⟨P, 0, none⟩)) /\ W.cell? ⟨P, 1, none⟩ = some (.map (some c1)) /\ W.cell? a = some (.string (str c)) /\ (Instr.lookup 113 (.map (some c1)) (.string (str c)) true).run prog W = .ok (.tuple #[.agg #[.string ⟨#[]⟩, .slice none 0 0], .bool false]) W)) zK ?_ (λ hHeld => ?_)
   . exact KEEP.o _ (Below.refl _ _).drew
   refine aa 0 ?_; refine aa 1 ?_; refine aa 2 ?_; refine aa 3 ?_; refine aa 4 ?_; refine aa 5 ?_; refine aa 6 ?_; refine aa 7 ?_; refine aa 8 ?_; refine aa 9 ?_; refine aa 10 ?_; refine aa 11 ?_; refine aa 12 ?_; refine aa 13 ?_; refine ay 14 zK rfl (λ K hK => ?_); go_simp
   refine hK.out _ _ (KEEP.o _ ?_) (λ hHeld => ?_)
   . (repeat (first | exact Below.refl _ _ | exact Below.refl _ _ | refine Below.drew ?_ | refine Below.alloc ?_ (by simp) _ | refine Below.setCell ?_ (by simp) _))
   clear hK K; try simp only [Act.put, aK, aI, aJ]
   refine ay 15 zK rfl (λ K hK => ?_); go_simp
   refine hK.out _ _ (KEEP.o _ ?_) (λ hHeld => ?_)
   . (repeat (first | exact Below.refl _ _ | exact Below.refl _ _ | refine Below.drew ?_ | refine Below.alloc ?_ (by simp) _ | refine Below.setCell ?_ (by simp) _))
   clear hK K; try simp only [Act.put, aK, aI, aJ]
   refine aa 16 ?_; refine wpAnyH_done zK ?_ _; go_wp2_with fail
   go_ret; exact ⟨au HQ.o.symm, ((Below.refl _ w).alloc (Nat.le_refl _) _).drew⟩
 | some cs =>
   have HQ := zH (show eC s (c :: r) = ((c :: r) == cs) by simp only [eC, hg]); obtain ⟨v, hv, sE, AE, mE, jE, rfl, hse⟩ := hrc.find hg; have HEQ := zH (qD HA.o hse); have hrun := λ (W : World) (hW : Below w.heap.size w W) => (hmc.under hW).look_yes underlying113 hv; have HRUN := zH hrun
   have KEEP := zH (show ∀ W, Below w.heap.size w W -> W.cell? ⟨S, 0, none⟩ = some (.pointer (some ⟨P, 0, none⟩)) /\ W.cell? ⟨P, 1, none⟩ = some (.map (some c1)) /\ W.cell? a = some (.string (str c)) /\ (Instr.lookup 113 (.map (some c1)) (.string (str c)) true).run prog W = .ok (.tuple #[.agg #[.string sE, .slice AE mE jE], .bool true]) W from
    λ W hW => ⟨(hW.cell (p := ⟨S, 0, none⟩) hSl).trans y0, (hW.cell (p := ⟨P, 1, none⟩) hPl).trans x1, (hW.cell (p := a) hab).trans q0, HRUN.o W hW⟩)
   generalize (c :: r).length = nn at *; clear h hc hm he hE0 hne hg hmc hrc hrun hcl hv hse; go_enter func180, ntmps180
   go_wp2_with fail
   refine wp_region_held_drew (S := (λ W => W.cell? ⟨S, 0, none⟩ = some (.pointer (some ⟨P, 0, none⟩)) /\ W.cell? ⟨P, 1, none⟩ = some (.map (some c1)) /\ W.cell? a = some (.string (str c)) /\ (Instr.lookup 113 (.map (some c1)) (.string (str c)) true).run prog W = .ok (.tuple #[.agg #[.string sE, .slice AE mE jE], .bool true]) W)) zK ?_ (λ hHeld => ?_)
   . exact KEEP.o _ (Below.refl _ _).drew
   refine aa 0 ?_; refine aa 1 ?_; refine aa 2 ?_; refine aa 3 ?_; refine aa 4 ?_; refine aa 5 ?_; refine aa 6 ?_; refine aa 7 ?_; refine aa 8 ?_; refine aa 9 ?_; refine aa 10 ?_; refine aa 11 ?_; refine aa 12 ?_; refine aa 13 ?_; refine ay 14 zK rfl (λ K hK => ?_); go_simp
   refine hK.out _ _ (KEEP.o _ ?_) (λ hHeld => ?_)
   . (repeat (first | exact Below.refl _ _ | exact Below.refl _ _ | refine Below.drew ?_ | refine Below.alloc ?_ (by simp) _ | refine Below.setCell ?_ (by simp) _))
   clear hK K; try simp only [Act.put, aK, aI, aJ]
   refine ay 15 zK rfl (λ K hK => ?_); go_simp
   refine hK.out _ _ (KEEP.o _ ?_) (λ hHeld => ?_)
   . (repeat (first | exact Below.refl _ _ | exact Below.refl _ _ | refine Below.drew ?_ | refine Below.alloc ?_ (by simp) _ | refine Below.setCell ?_ (by simp) _))
   clear hK K; try simp only [Act.put, aK, aI, aJ]
   refine aa 16 ?_; refine wpAnyH_done zK ?_ _
   go_wp2_with (go_at_call 184
                have hal : Below w.heap.size w (w.alloc (.cells #[.string sE, .slice AE mE jE] 46)).drew := ((Below.refl _ w).alloc (Nat.le_refl _) _).drew; (with_reducible refine (HEQ.o _ hal).mono ?_); rintro e w7 ⟨rfl, hb7⟩; have HB := zH (hal.trans (hb7.mono hal.size)); clear hal hb7)
   go_ret; exact ⟨au HQ.o.symm, HB.o⟩
end
end Go.Proofs.YtkfacdofkfabnaaGreatDoor
