import Derived.Test.YtdcjlihaldhhjaaGreatDoorKm04
import Derived.Test.YtdcjlihaldhhjaaGreatDoorKm09
import Derived.Test.YtdcjlihaldhhjaaGreatDoorKm20
import Derived.Test.YtdcjlihaldhhjaaGreatDoorKm25
set_option maxHeartbeats 2000000
namespace Go.Proofs.YtdcjlihaldhhjaaGreatDoor
open _root_.Go.Proofs.Tryz
open Go.RowKit
open Go.ChangeMaps Go.MapKept
open Go.Maps
structure az (M : List Nat) (w w' : World) : Prop where
 os : w'.os = w.os
 tape : w'.tape = w.tape
 output : w'.output = w.output
 size : w.heap.size <= w'.heap.size
 block : ∀ k, k < w.heap.size -> k ∉ M -> w'.heap[k]? = w.heap[k]?
theorem az.refl (M : List Nat) (w : World) : az M w w := ⟨rfl, rfl, rfl, Nat.le_refl _, λ _ _ _ => rfl⟩
theorem az.trans {M : List Nat} {a b c : World} (h : az M a b) (g : az M b c) : az M a c :=
 ⟨g.os.trans h.os, g.tape.trans h.tape, g.output.trans h.output, Nat.le_trans h.size g.size, λ k hk hm => (g.block k (Nat.lt_of_lt_of_le hk h.size) hm).trans (h.block k hk hm)⟩
theorem az.of_below {M : List Nat} {w w' : World} (h : Below w.heap.size w w') : az M w w' := ⟨h.os, h.tape, h.output, h.size, λ k hk _ => h.block k hk⟩
theorem az.of_grown {M : List Nat} {b : Nat} {w w' : World} (h : w.grownBy w' (some b)) (hb : b ∈ M) : az M w w' := ⟨h.os, h.tape, h.output, h.size, λ k hk hm => h.block k hk (λ e => hm (by cases e; exact hb))⟩
theorem az.mono {M M' : List Nat} {w w' : World} (h : az M w w') (hs : ∀ x ∈ M, x ∈ M') : az M' w w' := ⟨h.os, h.tape, h.output, h.size, λ k hk hm => h.block k hk (λ e => hm (hs k e))⟩
theorem az.below {M : List Nat} {B : Nat} {w w' : World} (h : az M w w') (hM : ∀ b ∈ M, B <= b) (hB : B <= w.heap.size) : Below B w w' :=
 ⟨h.os, h.tape, h.output, h.size, λ k hk => h.block k (Nat.lt_of_lt_of_le hk hB) (λ e => absurd (hM k e) zO)⟩
theorem az.cell {M : List Nat} {w w' : World} (h : az M w w') {a : Addr} (ha : a.block < w.heap.size) (hm : a.block ∉ M) : w'.cell? a = w.cell? a := World.cell?_of_block (h.block _ ha hm)
def aC (l : List (Tx × Value)) : List Tx := l.map Prod.fst
def bb (v : Value) (l : List Tx) : List (Tx × Value) := l.map λ s => (s, v)
theorem dE (l m : List (Tx × Value)) : aC (l ++ m) = aC l ++ aC m := by simp [aC]
theorem de (v : Value) (l : List Tx) : aC (bb v l) = l := by
 unfold aC bb; rw [List.map_map]; induction l with
 | nil => rfl
 | cons x r ih => rw [List.map_cons, ih]; rfl
def nG (b : Nat) (l : List (Tx × Value)) (v : Value) (names : List Tx) (w : World) (e : Ending) (w' : World) : Prop :=
 e = .returned (.bool (a5 (aC l) names)) /\ az [b] w w' /\ (a5 (aC l) names = true -> aL w' b (l ++ bb v names))
theorem aL.notcell {w : World} {b : Nat} {l : List (Tx × Value)} (h : aL w b l) {a : Addr} {u : Value} (hc : w.cell? a = some u) : a.block ≠ b := by
 obtain ⟨es, clock, hb, _⟩ := h; intro e; unfold World.cell? at hc; rw [e, hb] at hc; simp at hc
theorem aG.kept {w w' : World} {b : Nat} {l : List (Tx × Value)} {v : Value} {names : List Tx} (ha : aG w v names) (hm : aL w b l) (hk : az [b] w w') : aG w' v names := by
 obtain ⟨A, c, rfl, h1, h2, h3⟩ := ha; refine ⟨A, c, rfl, h1, h2, λ i x hx => ?_⟩; obtain ⟨L, ⟨a, ea, hc⟩, hR⟩ := h3 i x hx; refine ⟨L, ⟨a, ea, λ j u hu => ?_⟩, hR⟩; have h0 := hc j u hu; rw [hk.cell (World.block_lt_of_cell? w _ h0) (by simpa using hm.notcell h0)]; exact h0
theorem kG {names : List Tx} {k : Nat} {s : Tx} (h : names[k]? = some s) (v : Value) : bb v (names.take (k + 1)) = bb v (names.take k) ++ [(s, v)] := by
 unfold bb; rw [br h]; simp
theorem mO {w : World} {N : Nat} {T0 : TypeId} {v0 : Value} (h : w.heap[N]? = some (.cells #[v0] T0 (0, 0))) : w.cell? ⟨N, 0, none⟩ = some v0 := by simp [World.cell?, h]
theorem cK {M : List Nat} {w w1 : World} {g : Nat} {o : Obj} (hb : az M w w1) (hg : g ∉ M) (h : w.heap[g]? = some o) : w1.heap[g]? = some o := (hb.block g (ar h) hg).trans h
def ShS (v : Value) : Prop := v = .agg #[]
theorem zu (w : World) : (zeroValue 116).run prog w = .ok (.agg #[]) w := by kernel_rfl
theorem vB {w : World} {b : Nat} {l : List (Tx × Value)} (h : aL w b l) {s : Tx} (hs : (s, .agg #[]) ∈ l) : Calls prog 103 #[.map (some b), .string (str s)] w (ax true w) := by
 have hrun := h.look_yes underlying108 hs; clear h hs; go_enter func103, ntmps103
 go_wp2_with fail
 go_ret; first | exact ⟨rfl, (Below.refl _ _).alloc (Nat.le_refl _) _⟩ | exact ⟨rfl, Below.refl _ _⟩
theorem yE {w : World} {b : Nat} {l : List (Tx × Value)} (h : aL w b l) {s : Tx} (hl : s.length <= maxLen) (hs : s ∉ l.map Prod.fst) : Calls prog 103 #[.map (some b), .string (str s)] w (ax false w) := by
 have hrun := h.look_no underlying108 (zu w) hl hs; clear h hs hl; go_enter func103, ntmps103
 go_wp2_with fail
 go_ret; first | exact ⟨rfl, (Below.refl _ _).alloc (Nat.le_refl _) _⟩ | exact ⟨rfl, Below.refl _ _⟩
theorem d9 {w : World} {b : Nat} {l : List (Tx × Value)} (h : aL w b l) (hv : ∀ p ∈ l, ShS p.2) {s : Tx} (hl : s.length <= maxLen) : Calls prog 103 #[.map (some b), .string (str s)] w (ax ((aC l).contains s) w) := by
 by_cases hs : s ∈ l.map Prod.fst
 . obtain ⟨⟨s', v⟩, hp, rfl⟩ := List.mem_map.1 hs; have hc : (aC l).contains s' = true := (by rw [List.contains_iff_mem]; exact hs); show Calls _ _ _ _ (ax ((aC l).contains s') w); rw [hc]; have := hv _ hp; obtain rfl := this; exact vB h hp
 . have hc : (aC l).contains s = false := by rw [Bool.eq_false_iff]; intro h; exact hs (List.contains_iff_mem.1 h)
   rw [hc]; exact yE h hl hs
theorem cS {w : World} {b : Nat} {l : List (Tx × Value)} (h : aL w b l) (hv : ∀ p ∈ l, ShS p.2) {va : Value} {names : List Tx} (ha : aG w va names) :
  Calls prog 54 #[.map (some b), .agg #[], va] w (nG b l (.agg #[]) names w) := by
 have hbl := h.lt; have HH := zH h; have HA := zH ha; have HV := zH hv; obtain ⟨A, c, rfl, hc, hm, _⟩ := ha; have hll : names.length <= 9223372036854775807 := (by unfold maxLen at hm; omega); clear h hv hc hm; go_enter func54, ntmps54
 go_wp2_with fail
 go_loopg [11] names.length (λ g v wr => ∃ k : Nat, k + g = names.length /\ v = .int .i64 k /\ aL wr b (l ++ bb (.agg #[]) (names.take k)) /\ az [b] w wr /\ a5 (aC l) names = a5 (aC l ++ names.take k) (names.drop k) /\ wr.heap[w.heap.size]? = some (.cells #[] 116 (0, 0)))
 case atStart =>
  have hb0 : Below w.heap.size w (w.alloc (.cells #[] 116)) := (Below.refl _ _).alloc (Nat.le_refl _) _; exact ⟨0, by omega, rfl, by simpa [bb] using HH.o.under hb0, az.of_below hb0, by simp, heap_alloc_new w _⟩
 case round =>
  obtain ⟨k, hkg, rfl, hma, hkm, hr, hbox⟩ := hrel; obtain ⟨wq, rfl⟩ := zW wr; have HK := zH hkg; have HMA := zH hma; have HKM := zH hkm; have HR := zH hr; have BX := zH hbox; have hkl : k <= names.length := zO; clear hkg hma hkm hr hbox; by_cases hlt : k < names.length
  . obtain ⟨s, hs⟩ := zG hlt; have HSA := zH (HA.o.kept HH.o HKM.o); obtain ⟨A9, c9, e9, _, _, he9⟩ := HSA.o; obtain ⟨L9, hE9, rfl, hsl⟩ := he9 k s hs; injection e9 with e9 e10 e11; clear e10 e11; obtain ⟨a9, ea9, _, hzc, q9⟩ := ez hE9; rw [ea9] at e9; subst e9; simp only [Nat.mul_one] at q9; have HSL := zH hsl; have HT := zH (kG hs (.agg #[])); have HD := zH (cx hs); have HTS := zH (br hs); have HKN := zH (d9 HMA.o (λ p hp => (List.mem_append.1 hp).elim (HV.o p) (λ hq => by obtain ⟨_, _, rfl⟩ := List.mem_map.1 hq; exact rfl)) hsl); rw [dE, de] at HKN; clear hs he9 hE9 ea9 hzc hsl; cases hc : (aC l ++ names.take k).contains s
    . rw [hc] at HKN; have HC := zH hc; clear hc; have HRN := zH (show a5 (aC l) names = a5 (aC l ++ names.take (k + 1)) (names.drop (k + 1)) by rw [HR.o, HD.o, cV, HC.o, HTS.o, <- List.append_assoc]; rfl)
      go_wp2_with (first
       | (go_at_call 103; (with_reducible refine HKN.o.mono ?_); rintro e w1 ⟨rfl, hb1⟩; obtain ⟨v1, rfl⟩ := zW w1; have HM1 := zH (HMA.o.under hb1); have BX1 := zH (ag hb1 BX.o); have HK1 := zH (HKM.o.trans (az.of_below hb1)); clear hb1)
       | (at_mapUpdate; refine gY _ rfl _ _ _ 108 rfl underlying108 rfl rfl rfl HM1.o HSL.o ?_ ?_; (simpa [aC, bb, List.contains_iff_mem, Function.comp_def] using HC.o); (intro w2 hm2 hg2; obtain ⟨v2, rfl⟩ := zW w2; have HM2 := zH hm2; have HK2 := zH (HK1.o.trans (az.of_grown hg2 (by simp))); have BX2 := zH (cK (az.of_grown hg2 (List.mem_singleton.2 rfl)) (by simp; omega) BX1.o); clear hm2 hg2)))
      go_roundg (names.length - (k + 1))
      case measure => have := HK.o; omega
      case rel => exact ⟨k + 1, by omega, by go_num, by rw [HT.o, <- List.append_assoc]; exact HM2.o, HK2.o, HRN.o, BX2.o⟩
    . rw [hc] at HKN; have HC := zH hc; clear hc; have HRN := zH (show a5 (aC l) names = false by rw [HR.o, HD.o, cV, HC.o]; rfl); go_wp2_with (go_at_call 103; (with_reducible refine HKN.o.mono ?_); rintro e w1 ⟨rfl, hb1⟩)
      go_ret; exact ⟨aj HRN.o.symm, HKM.o.trans (az.of_below hb1), λ h => by rw [HRN.o] at h; cases h⟩
  . have hke : k = names.length := by omega
    have HRN := zH (show a5 (aC l) names = true by rw [HR.o, hke, List.drop_length]; rfl); have HM3 := zH (show aL wq b (l ++ bb (.agg #[]) names) by have := HMA.o; rwa [hke, List.take_length] at this); clear hke; go_wp2_with fail
    go_ret; exact ⟨aj HRN.o.symm, HKM.o, λ _ => HM3.o⟩
def ShI (v : Value) : Prop := ∃ n1 : Int, v = .int .i64 n1
theorem D5 (w : World) : (zeroValue 3).run prog w = .ok (.int .i64 0) w := by kernel_rfl
theorem vD {w : World} {b : Nat} {l : List (Tx × Value)} (h : aL w b l) {s : Tx} {n1 : Int} (hs : (s, .int .i64 n1) ∈ l) : Calls prog 144 #[.map (some b), .string (str s)] w (ax true w) := by
 have hrun := h.look_yes underlying118 hs; clear h hs; go_enter func144, ntmps144
 go_wp2_with fail
 go_ret; first | exact ⟨rfl, (Below.refl _ _).alloc (Nat.le_refl _) _⟩ | exact ⟨rfl, Below.refl _ _⟩
theorem yG {w : World} {b : Nat} {l : List (Tx × Value)} (h : aL w b l) {s : Tx} (hl : s.length <= maxLen) (hs : s ∉ l.map Prod.fst) : Calls prog 144 #[.map (some b), .string (str s)] w (ax false w) := by
 have hrun := h.look_no underlying118 (D5 w) hl hs; clear h hs hl; go_enter func144, ntmps144
 go_wp2_with fail
 go_ret; first | exact ⟨rfl, (Below.refl _ _).alloc (Nat.le_refl _) _⟩ | exact ⟨rfl, Below.refl _ _⟩
theorem dD {w : World} {b : Nat} {l : List (Tx × Value)} (h : aL w b l) (hv : ∀ p ∈ l, ShI p.2) {s : Tx} (hl : s.length <= maxLen) : Calls prog 144 #[.map (some b), .string (str s)] w (ax ((aC l).contains s) w) := by
 by_cases hs : s ∈ l.map Prod.fst
 . obtain ⟨⟨s', v⟩, hp, rfl⟩ := List.mem_map.1 hs; have hc : (aC l).contains s' = true := (by rw [List.contains_iff_mem]; exact hs); show Calls _ _ _ _ (ax ((aC l).contains s') w); rw [hc]; have := hv _ hp; obtain ⟨n1, rfl⟩ := this; exact vD h hp
 . have hc : (aC l).contains s = false := by rw [Bool.eq_false_iff]; intro h; exact hs (List.contains_iff_mem.1 h)
   rw [hc]; exact yG h hl hs
theorem iU {w : World} {b : Nat} {l : List (Tx × Value)} (h : aL w b l) (hv : ∀ p ∈ l, ShI p.2) {n1 : Int} {va : Value} {names : List Tx} (ha : aG w va names) :
  Calls prog 108 #[.map (some b), .int .i64 n1, va] w (nG b l (.int .i64 n1) names w) := by
 have hbl := h.lt; have HH := zH h; have HA := zH ha; have HV := zH hv; obtain ⟨A, c, rfl, hc, hm, _⟩ := ha; have hll : names.length <= 9223372036854775807 := (by unfold maxLen at hm; omega); clear h hv hc hm; go_enter func108, ntmps108
 go_wp2_with fail
 go_loopg [11] names.length (λ g v wr => ∃ k : Nat, k + g = names.length /\ v = .int .i64 k /\ aL wr b (l ++ bb (.int .i64 n1) (names.take k)) /\ az [b] w wr /\ a5 (aC l) names = a5 (aC l ++ names.take k) (names.drop k))
 case atStart =>
  exact ⟨0, by omega, rfl, by simpa [bb] using HH.o, az.refl _ _, by simp⟩
 case round =>
  obtain ⟨k, hkg, rfl, hma, hkm, hr⟩ := hrel; obtain ⟨wq, rfl⟩ := zW wr; have HK := zH hkg; have HMA := zH hma; have HKM := zH hkm; have HR := zH hr; have hkl : k <= names.length := zO; clear hkg hma hkm hr; by_cases hlt : k < names.length
  . obtain ⟨s, hs⟩ := zG hlt; have HSA := zH (HA.o.kept HH.o HKM.o); obtain ⟨A9, c9, e9, _, _, he9⟩ := HSA.o; obtain ⟨L9, hE9, rfl, hsl⟩ := he9 k s hs; injection e9 with e9 e10 e11; clear e10 e11; obtain ⟨a9, ea9, _, hzc, q9⟩ := ez hE9; rw [ea9] at e9; subst e9; simp only [Nat.mul_one] at q9; have HSL := zH hsl; have HT := zH (kG hs (.int .i64 n1)); have HD := zH (cx hs); have HTS := zH (br hs); have HKN := zH (dD HMA.o (λ p hp => (List.mem_append.1 hp).elim (HV.o p) (λ hq => by obtain ⟨_, _, rfl⟩ := List.mem_map.1 hq; exact ⟨_, rfl⟩)) hsl); rw [dE, de] at HKN; clear hs he9 hE9 ea9 hzc hsl; cases hc : (aC l ++ names.take k).contains s
    . rw [hc] at HKN; have HC := zH hc; clear hc; have HRN := zH (show a5 (aC l) names = a5 (aC l ++ names.take (k + 1)) (names.drop (k + 1)) by rw [HR.o, HD.o, cV, HC.o, HTS.o, <- List.append_assoc]; rfl)
      go_wp2_with (first
       | (go_at_call 144; (with_reducible refine HKN.o.mono ?_); rintro e w1 ⟨rfl, hb1⟩; obtain ⟨v1, rfl⟩ := zW w1; have HM1 := zH (HMA.o.under hb1); have HK1 := zH (HKM.o.trans (az.of_below hb1)); clear hb1)
       | (at_mapUpdate; refine gY _ rfl _ _ _ 118 rfl underlying118 rfl rfl rfl HM1.o HSL.o ?_ ?_; (simpa [aC, bb, List.contains_iff_mem, Function.comp_def] using HC.o); (intro w2 hm2 hg2; obtain ⟨v2, rfl⟩ := zW w2; have HM2 := zH hm2; have HK2 := zH (HK1.o.trans (az.of_grown hg2 (by simp))); clear hm2 hg2)))
      go_roundg (names.length - (k + 1))
      case measure => have := HK.o; omega
      case rel => exact ⟨k + 1, by omega, by go_num, by rw [HT.o, <- List.append_assoc]; exact HM2.o, HK2.o, HRN.o⟩
    . rw [hc] at HKN; have HC := zH hc; clear hc; have HRN := zH (show a5 (aC l) names = false by rw [HR.o, HD.o, cV, HC.o]; rfl); go_wp2_with (go_at_call 144; (with_reducible refine HKN.o.mono ?_); rintro e w1 ⟨rfl, hb1⟩)
      go_ret; exact ⟨aj HRN.o.symm, HKM.o.trans (az.of_below hb1), λ h => by rw [HRN.o] at h; cases h⟩
  . have hke : k = names.length := by omega
    have HRN := zH (show a5 (aC l) names = true by rw [HR.o, hke, List.drop_length]; rfl); have HM3 := zH (show aL wq b (l ++ bb (.int .i64 n1) names) by have := HMA.o; rwa [hke, List.take_length] at this); clear hke; go_wp2_with fail
    go_ret; exact ⟨aj HRN.o.symm, HKM.o, λ _ => HM3.o⟩
def ShE (v : Value) : Prop := ∃ s1 : ByteArray, ∃ A1 : Option Addr, ∃ m1 j1 : Nat, v = .agg #[.string s1, .slice A1 m1 j1]
theorem D6 (w : World) : (zeroValue 70).run prog w = .ok (.agg #[.string ⟨#[]⟩, .slice none 0 0]) w := by kernel_rfl
theorem vE {w : World} {b : Nat} {l : List (Tx × Value)} (h : aL w b l) {s : Tx} {s1 : ByteArray} {A1 : Option Addr} {m1 j1 : Nat} (hs : (s, .agg #[.string s1, .slice A1 m1 j1]) ∈ l) : Calls prog 102 #[.map (some b), .string (str s)] w (ax true w) := by
 have hrun := h.look_yes underlying109 hs; clear h hs; go_enter func102, ntmps102
 go_wp2_with fail
 go_ret; first | exact ⟨rfl, (Below.refl _ _).alloc (Nat.le_refl _) _⟩ | exact ⟨rfl, Below.refl _ _⟩
theorem yH {w : World} {b : Nat} {l : List (Tx × Value)} (h : aL w b l) {s : Tx} (hl : s.length <= maxLen) (hs : s ∉ l.map Prod.fst) : Calls prog 102 #[.map (some b), .string (str s)] w (ax false w) := by
 have hrun := h.look_no underlying109 (D6 w) hl hs; clear h hs hl; go_enter func102, ntmps102
 go_wp2_with fail
 go_ret; first | exact ⟨rfl, (Below.refl _ _).alloc (Nat.le_refl _) _⟩ | exact ⟨rfl, Below.refl _ _⟩
theorem ij {w : World} {b : Nat} {l : List (Tx × Value)} (h : aL w b l) (hv : ∀ p ∈ l, ShE p.2) {s : Tx} (hl : s.length <= maxLen) : Calls prog 102 #[.map (some b), .string (str s)] w (ax ((aC l).contains s) w) := by
 by_cases hs : s ∈ l.map Prod.fst
 . obtain ⟨⟨s', v⟩, hp, rfl⟩ := List.mem_map.1 hs; have hc : (aC l).contains s' = true := (by rw [List.contains_iff_mem]; exact hs); show Calls _ _ _ _ (ax ((aC l).contains s') w); rw [hc]; have := hv _ hp; obtain ⟨s1, A1, m1, j1, rfl⟩ := this; exact vE h hp
 . have hc : (aC l).contains s = false := by rw [Bool.eq_false_iff]; intro h; exact hs (List.contains_iff_mem.1 h)
   rw [hc]; exact yH h hl hs
theorem mr {w : World} {b : Nat} {l : List (Tx × Value)} (h : aL w b l) (hv : ∀ p ∈ l, ShE p.2) {s1 : ByteArray} {A1 : Option Addr} {m1 j1 : Nat} {va : Value} {names : List Tx} (ha : aG w va names) :
  Calls prog 52 #[.map (some b), .agg #[.string s1, .slice A1 m1 j1], va] w (nG b l (.agg #[.string s1, .slice A1 m1 j1]) names w) := by
 have hbl := h.lt; have HH := zH h; have HA := zH ha; have HV := zH hv; obtain ⟨A, c, rfl, hc, hm, _⟩ := ha; have hll : names.length <= 9223372036854775807 := (by unfold maxLen at hm; omega); clear h hv hc hm; go_enter func52, ntmps52
 go_wp2_with fail
 go_loopg [11] names.length (λ g v wr => ∃ k : Nat, k + g = names.length /\ v = .int .i64 k /\ aL wr b (l ++ bb (.agg #[.string s1, .slice A1 m1 j1]) (names.take k)) /\ az [b] w wr /\ a5 (aC l) names = a5 (aC l ++ names.take k) (names.drop k) /\ wr.heap[w.heap.size]? = some (.cells #[.string s1, .slice A1 m1 j1] 70 (0, 0)))
 case atStart =>
  have hb0 : Below w.heap.size w (w.alloc (.cells #[.string s1, .slice A1 m1 j1] 70)) := (Below.refl _ _).alloc (Nat.le_refl _) _; exact ⟨0, by omega, rfl, by simpa [bb] using HH.o.under hb0, az.of_below hb0, by simp, heap_alloc_new w _⟩
 case round =>
  obtain ⟨k, hkg, rfl, hma, hkm, hr, hbox⟩ := hrel; obtain ⟨wq, rfl⟩ := zW wr; have HK := zH hkg; have HMA := zH hma; have HKM := zH hkm; have HR := zH hr; have BX := zH hbox; have hkl : k <= names.length := zO; clear hkg hma hkm hr hbox; by_cases hlt : k < names.length
  . obtain ⟨s, hs⟩ := zG hlt; have HSA := zH (HA.o.kept HH.o HKM.o); obtain ⟨A9, c9, e9, _, _, he9⟩ := HSA.o; obtain ⟨L9, hE9, rfl, hsl⟩ := he9 k s hs; injection e9 with e9 e10 e11; clear e10 e11; obtain ⟨a9, ea9, _, hzc, q9⟩ := ez hE9; rw [ea9] at e9; subst e9; simp only [Nat.mul_one] at q9; have HSL := zH hsl; have HT := zH (kG hs (.agg #[.string s1, .slice A1 m1 j1])); have HD := zH (cx hs); have HTS := zH (br hs); have HKN := zH (ij HMA.o (λ p hp => (List.mem_append.1 hp).elim (HV.o p) (λ hq => by obtain ⟨_, _, rfl⟩ := List.mem_map.1 hq; exact ⟨_, _, _, _, rfl⟩)) hsl); rw [dE, de] at HKN; clear hs he9 hE9 ea9 hzc hsl; cases hc : (aC l ++ names.take k).contains s
    . rw [hc] at HKN; have HC := zH hc; clear hc; have HRN := zH (show a5 (aC l) names = a5 (aC l ++ names.take (k + 1)) (names.drop (k + 1)) by rw [HR.o, HD.o, cV, HC.o, HTS.o, <- List.append_assoc]; rfl)
      go_wp2_with (first
       | (go_at_call 102; (with_reducible refine HKN.o.mono ?_); rintro e w1 ⟨rfl, hb1⟩; obtain ⟨v1, rfl⟩ := zW w1; have HM1 := zH (HMA.o.under hb1); have BX1 := zH (ag hb1 BX.o); obtain ⟨x0, x1⟩ := bM BX1.o; have HK1 := zH (HKM.o.trans (az.of_below hb1)); clear hb1)
       | (at_mapUpdate; refine gY _ rfl _ _ _ 109 rfl underlying109 rfl rfl rfl HM1.o HSL.o ?_ ?_; (simpa [aC, bb, List.contains_iff_mem, Function.comp_def] using HC.o); (intro w2 hm2 hg2; obtain ⟨v2, rfl⟩ := zW w2; have HM2 := zH hm2; have HK2 := zH (HK1.o.trans (az.of_grown hg2 (by simp))); have BX2 := zH (cK (az.of_grown hg2 (List.mem_singleton.2 rfl)) (by simp; omega) BX1.o); clear hm2 hg2)))
      go_roundg (names.length - (k + 1))
      case measure => have := HK.o; omega
      case rel => exact ⟨k + 1, by omega, by go_num, by rw [HT.o, <- List.append_assoc]; exact HM2.o, HK2.o, HRN.o, BX2.o⟩
    . rw [hc] at HKN; have HC := zH hc; clear hc; have HRN := zH (show a5 (aC l) names = false by rw [HR.o, HD.o, cV, HC.o]; rfl); go_wp2_with (go_at_call 102; (with_reducible refine HKN.o.mono ?_); rintro e w1 ⟨rfl, hb1⟩)
      go_ret; exact ⟨aj HRN.o.symm, HKM.o.trans (az.of_below hb1), λ h => by rw [HRN.o] at h; cases h⟩
  . have hke : k = names.length := by omega
    have HRN := zH (show a5 (aC l) names = true by rw [HR.o, hke, List.drop_length]; rfl); have HM3 := zH (show aL wq b (l ++ bb (.agg #[.string s1, .slice A1 m1 j1]) names) by have := HMA.o; rwa [hke, List.take_length] at this); clear hke; go_wp2_with fail
    go_ret; exact ⟨aj HRN.o.symm, HKM.o, λ _ => HM3.o⟩
def ShN (v : Value) : Prop := ∃ s1 : ByteArray, ∃ A1 A2 A3 A4 : Option Addr, ∃ m1 j1 m2 j2 m3 j3 m4 j4 : Nat, v = .agg #[.string s1, .slice A1 m1 j1, .slice A2 m2 j2, .slice A3 m3 j3, .slice A4 m4 j4]
theorem zw (w : World) : (zeroValue 34).run prog w = .ok (.agg #[.string ⟨#[]⟩, .slice none 0 0, .slice none 0 0, .slice none 0 0, .slice none 0 0]) w := by kernel_rfl
theorem vC {w : World} {b : Nat} {l : List (Tx × Value)} (h : aL w b l) {s : Tx} {s1 : ByteArray} {A1 A2 A3 A4 : Option Addr} {m1 j1 m2 j2 m3 j3 m4 j4 : Nat} (hs : (s, .agg #[.string s1, .slice A1 m1 j1, .slice A2 m2 j2, .slice A3 m3 j3, .slice A4 m4 j4]) ∈ l) : Calls prog 105 #[.map (some b), .string (str s)] w (ax true w) := by
 have hrun := h.look_yes underlying110 hs; clear h hs; go_enter func105, ntmps105
 go_wp2_with fail
 go_ret; first | exact ⟨rfl, (Below.refl _ _).alloc (Nat.le_refl _) _⟩ | exact ⟨rfl, Below.refl _ _⟩
theorem yF {w : World} {b : Nat} {l : List (Tx × Value)} (h : aL w b l) {s : Tx} (hl : s.length <= maxLen) (hs : s ∉ l.map Prod.fst) : Calls prog 105 #[.map (some b), .string (str s)] w (ax false w) := by
 have hrun := h.look_no underlying110 (zw w) hl hs; clear h hs hl; go_enter func105, ntmps105
 go_wp2_with fail
 go_ret; first | exact ⟨rfl, (Below.refl _ _).alloc (Nat.le_refl _) _⟩ | exact ⟨rfl, Below.refl _ _⟩
theorem ec {w : World} {b : Nat} {l : List (Tx × Value)} (h : aL w b l) (hv : ∀ p ∈ l, ShN p.2) {s : Tx} (hl : s.length <= maxLen) : Calls prog 105 #[.map (some b), .string (str s)] w (ax ((aC l).contains s) w) := by
 by_cases hs : s ∈ l.map Prod.fst
 . obtain ⟨⟨s', v⟩, hp, rfl⟩ := List.mem_map.1 hs; have hc : (aC l).contains s' = true := (by rw [List.contains_iff_mem]; exact hs); show Calls _ _ _ _ (ax ((aC l).contains s') w); rw [hc]; have := hv _ hp; obtain ⟨s1, A1, A2, A3, A4, m1, j1, m2, j2, m3, j3, m4, j4, rfl⟩ := this; exact vC h hp
 . have hc : (aC l).contains s = false := by rw [Bool.eq_false_iff]; intro h; exact hs (List.contains_iff_mem.1 h)
   rw [hc]; exact yF h hl hs
theorem sX {w : World} {b : Nat} {l : List (Tx × Value)} (h : aL w b l) (hv : ∀ p ∈ l, ShN p.2) {s1 : ByteArray} {A1 A2 A3 A4 : Option Addr} {m1 j1 m2 j2 m3 j3 m4 j4 : Nat} {va : Value} {names : List Tx} (ha : aG w va names) :
  Calls prog 59 #[.map (some b), .agg #[.string s1, .slice A1 m1 j1, .slice A2 m2 j2, .slice A3 m3 j3, .slice A4 m4 j4], va] w (nG b l (.agg #[.string s1, .slice A1 m1 j1, .slice A2 m2 j2, .slice A3 m3 j3, .slice A4 m4 j4]) names w) := by
 have hbl := h.lt; have HH := zH h; have HA := zH ha; have HV := zH hv; obtain ⟨A, c, rfl, hc, hm, _⟩ := ha; have hll : names.length <= 9223372036854775807 := (by unfold maxLen at hm; omega); clear h hv hc hm; go_enter func59, ntmps59
 go_wp2_with fail
 go_loopg [11] names.length (λ g v wr => ∃ k : Nat, k + g = names.length /\ v = .int .i64 k /\ aL wr b (l ++ bb (.agg #[.string s1, .slice A1 m1 j1, .slice A2 m2 j2, .slice A3 m3 j3, .slice A4 m4 j4]) (names.take k)) /\ az [b] w wr /\ a5 (aC l) names = a5 (aC l ++ names.take k) (names.drop k) /\ wr.heap[w.heap.size]? = some (.cells #[.string s1, .slice A1 m1 j1, .slice A2 m2 j2, .slice A3 m3 j3, .slice A4 m4 j4] 34 (0, 0)))
 case atStart =>
  have hb0 : Below w.heap.size w (w.alloc (.cells #[.string s1, .slice A1 m1 j1, .slice A2 m2 j2, .slice A3 m3 j3, .slice A4 m4 j4] 34)) := (Below.refl _ _).alloc (Nat.le_refl _) _; exact ⟨0, by omega, rfl, by simpa [bb] using HH.o.under hb0, az.of_below hb0, by simp, heap_alloc_new w _⟩
 case round =>
  obtain ⟨k, hkg, rfl, hma, hkm, hr, hbox⟩ := hrel; obtain ⟨wq, rfl⟩ := zW wr; have HK := zH hkg; have HMA := zH hma; have HKM := zH hkm; have HR := zH hr; have BX := zH hbox; have hkl : k <= names.length := zO; clear hkg hma hkm hr hbox; by_cases hlt : k < names.length
  . obtain ⟨s, hs⟩ := zG hlt; have HSA := zH (HA.o.kept HH.o HKM.o); obtain ⟨A9, c9, e9, _, _, he9⟩ := HSA.o; obtain ⟨L9, hE9, rfl, hsl⟩ := he9 k s hs; injection e9 with e9 e10 e11; clear e10 e11; obtain ⟨a9, ea9, _, hzc, q9⟩ := ez hE9; rw [ea9] at e9; subst e9; simp only [Nat.mul_one] at q9; have HSL := zH hsl; have HT := zH (kG hs (.agg #[.string s1, .slice A1 m1 j1, .slice A2 m2 j2, .slice A3 m3 j3, .slice A4 m4 j4])); have HD := zH (cx hs); have HTS := zH (br hs); have HKN := zH (ec HMA.o (λ p hp => (List.mem_append.1 hp).elim (HV.o p) (λ hq => by obtain ⟨_, _, rfl⟩ := List.mem_map.1 hq; exact ⟨_, _, _, _, _, _, _, _, _, _, _, _, _, rfl⟩)) hsl); rw [dE, de] at HKN; clear hs he9 hE9 ea9 hzc hsl; cases hc : (aC l ++ names.take k).contains s
    . rw [hc] at HKN; have HC := zH hc; clear hc; have HRN := zH (show a5 (aC l) names = a5 (aC l ++ names.take (k + 1)) (names.drop (k + 1)) by rw [HR.o, HD.o, cV, HC.o, HTS.o, <- List.append_assoc]; rfl)
      go_wp2_with (first
       | (go_at_call 105; (with_reducible refine HKN.o.mono ?_); rintro e w1 ⟨rfl, hb1⟩; obtain ⟨v1, rfl⟩ := zW w1; have HM1 := zH (HMA.o.under hb1); have BX1 := zH (ag hb1 BX.o); obtain ⟨x0, x1, x2, x3, x4⟩ := aN BX1.o; have HK1 := zH (HKM.o.trans (az.of_below hb1)); clear hb1)
       | (at_mapUpdate; refine gY _ rfl _ _ _ 110 rfl underlying110 rfl rfl rfl HM1.o HSL.o ?_ ?_; (simpa [aC, bb, List.contains_iff_mem, Function.comp_def] using HC.o); (intro w2 hm2 hg2; obtain ⟨v2, rfl⟩ := zW w2; have HM2 := zH hm2; have HK2 := zH (HK1.o.trans (az.of_grown hg2 (by simp))); have BX2 := zH (cK (az.of_grown hg2 (List.mem_singleton.2 rfl)) (by simp; omega) BX1.o); clear hm2 hg2)))
      go_roundg (names.length - (k + 1))
      case measure => have := HK.o; omega
      case rel => exact ⟨k + 1, by omega, by go_num, by rw [HT.o, <- List.append_assoc]; exact HM2.o, HK2.o, HRN.o, BX2.o⟩
    . rw [hc] at HKN; have HC := zH hc; clear hc; have HRN := zH (show a5 (aC l) names = false by rw [HR.o, HD.o, cV, HC.o]; rfl); go_wp2_with (go_at_call 105; (with_reducible refine HKN.o.mono ?_); rintro e w1 ⟨rfl, hb1⟩)
      go_ret; exact ⟨aj HRN.o.symm, HKM.o.trans (az.of_below hb1), λ h => by rw [HRN.o] at h; cases h⟩
  . have hke : k = names.length := by omega
    have HRN := zH (show a5 (aC l) names = true by rw [HR.o, hke, List.drop_length]; rfl); have HM3 := zH (show aL wq b (l ++ bb (.agg #[.string s1, .slice A1 m1 j1, .slice A2 m2 j2, .slice A3 m3 j3, .slice A4 m4 j4]) names) by have := HMA.o; rwa [hke, List.take_length] at this); clear hke; go_wp2_with fail
    go_ret; exact ⟨aj HRN.o.symm, HKM.o, λ _ => HM3.o⟩
theorem kE {w : World} {N : Nat} {T0 : TypeId} {v0 v1 v2 v3 : Value} (h : w.heap[N]? = some (.cells #[v0, v1, v2, v3] T0 (0, 0))) : w.cell? ⟨N, 0, none⟩ = some v0 /\ w.cell? ⟨N, 1, none⟩ = some v1 /\ w.cell? ⟨N, 2, none⟩ = some v2 /\ w.cell? ⟨N, 3, none⟩ = some v3 := by simp [World.cell?, h]
def eo : Value := .agg #[]
def qV (w : World) (v : Value) (cs : List Tx) : Prop := ∃ s A m j, v = .agg #[.string s, .slice A m j] /\ aG w (.slice A m j) cs
def Cq (v : Value) (n : bc) : Prop := ∃ s A1 c1 A2 c2 A3 c3 A4 m4 c4, v = .agg #[.string s, .slice A1 n.funs.length c1, .slice A2 n.ins.length c2, .slice A3 n.outs.length c3, .slice A4 m4 c4]
def eL (w : World) (l : List (Tx × Value)) (cs : List (Tx × List Tx)) : Prop := aC l = cs.map Prod.fst /\ ∀ (i : Nat) a b, l[i]? = some a -> cs[i]? = some b -> qV w a.2 b.2
def gF (l : List (Tx × Value)) (ns : List (Tx × bc)) : Prop := aC l = ns.map Prod.fst /\ ∀ (i : Nat) a b, l[i]? = some a -> ns[i]? = some b -> Cq a.2 b.2
structure aY (w : World) (P e c n t : Nat) (s : a6) : Prop where
 box : w.heap[P]? = some (.cells #[.map (some e), .map (some c), .map (some n), .map (some t)] 112 (0, 0))
 me : aL w e (bb eo s.enums)
 mc : ∃ l, aL w c l /\ eL w l s.cons
 mn : ∃ l, aL w n l /\ gF l s.nodes
 mt : aL w t (bb eo s.states)
 nd : e ≠ c /\ e ≠ n /\ e ≠ t /\ c ≠ n /\ c ≠ t /\ n ≠ t
theorem aL.notbox {w : World} {b : Nat} {l : List (Tx × Value)} (h : aL w b l) {g : Nat} {cs : Array Value} {T0 : TypeId} {fz : Nat × Nat} (hg : w.heap[g]? = some (.cells cs T0 fz)) : g ≠ b := by
 obtain ⟨es, clock, hb, _⟩ := h; intro e; rw [e, hb] at hg; cases hg
theorem qV.kept {w w' : World} {b : Nat} {l : List (Tx × Value)} {v : Value} {cs : List Tx} (h : qV w v cs) (hm : aL w b l) (hk : az [b] w w') : qV w' v cs := by
 obtain ⟨s, A, m, j, rfl, hs⟩ := h; exact ⟨s, A, m, j, rfl, hs.kept hm hk⟩
theorem eL.kept {w w' : World} {b : Nat} {l m : List (Tx × Value)} {cs : List (Tx × List Tx)} (h : eL w l cs) (hm : aL w b m) (hk : az [b] w w') : eL w' l cs :=
 ⟨h.1, λ i a c ha hc => (h.2 i a c ha hc).kept hm hk⟩
theorem eL.under {w w' : World} {l : List (Tx × Value)} {cs : List (Tx × List Tx)} (h : eL w l cs) (hb : Below w.heap.size w w') : eL w' l cs :=
 ⟨h.1, λ i a c ha hc => by obtain ⟨s, A, m, j, e, hs⟩ := h.2 i a c ha hc; exact ⟨s, A, m, j, e, hs.under hb⟩⟩
theorem aL.keptM {w w' : World} {M : List Nat} {b : Nat} {l : List (Tx × Value)} (h : aL w b l) (hk : az M w w') (hb : b ∉ M) : aL w' b l := h.block (hk.block b h.lt hb)
section
variable {w w' : World} {P e c n t : Nat} {s : a6}
theorem aY.under (h : aY w P e c n t s) (hb : Below w.heap.size w w') : aY w' P e c n t s := by
 obtain ⟨lc, hc, hr⟩ := h.mc; obtain ⟨ln, hn, hq⟩ := h.mn; exact ⟨ag hb h.box, h.me.under hb, ⟨lc, hc.under hb, hr.under hb⟩, ⟨ln, hn.under hb, hq⟩, h.mt.under hb, h.nd⟩
theorem aY.other {f : Nat} {m : List (Tx × Value)} (h : aY w P e c n t s) (hm : aL w f m) (hk : az [f] w w') (hf : f ≠ e /\ f ≠ c /\ f ≠ n /\ f ≠ t) : aY w' P e c n t s := by
 obtain ⟨h1, h2, h3, h4⟩ := hf; obtain ⟨lc, hc, hr⟩ := h.mc; obtain ⟨ln, hn, hq⟩ := h.mn; exact ⟨cK hk (by simpa using hm.notbox h.box) h.box, h.me.keptM hk (by simpa using h1.symm), ⟨lc, hc.keptM hk (by simpa using h2.symm), hr.kept hm hk⟩, ⟨ln, hn.keptM hk (by simpa using h3.symm), hq⟩, h.mt.keptM hk (by simpa using h4.symm), h.nd⟩
theorem aY.putE (h : aY w P e c n t s) (hk : az [e] w w') {l : List Tx} (hm : aL w' e (bb eo l)) : aY w' P e c n t { s with enums := l } := by
 obtain ⟨h1, h2, h3, h4, h5, h6⟩ := h.nd; obtain ⟨lc, hc, hr⟩ := h.mc; obtain ⟨ln, hn, hq⟩ := h.mn; exact ⟨cK hk (by simpa using h.me.notbox h.box) h.box, hm, ⟨lc, hc.keptM hk (by simpa using h1.symm), hr.kept h.me hk⟩, ⟨ln, hn.keptM hk (by simpa using h2.symm), hq⟩, h.mt.keptM hk (by simpa using h3.symm), h.nd⟩
theorem aY.putT (h : aY w P e c n t s) (hk : az [t] w w') {l : List Tx} (hm : aL w' t (bb eo l)) : aY w' P e c n t { s with states := l } := by
 obtain ⟨h1, h2, h3, h4, h5, h6⟩ := h.nd; obtain ⟨lc, hc, hr⟩ := h.mc; obtain ⟨ln, hn, hq⟩ := h.mn; exact ⟨cK hk (by simpa using h.mt.notbox h.box) h.box, h.me.keptM hk (by simpa using h3), ⟨lc, hc.keptM hk (by simpa using h5), hr.kept h.mt hk⟩, ⟨ln, hn.keptM hk (by simpa using h6), hq⟩, hm, h.nd⟩
theorem aY.putC {m lc : List (Tx × Value)} {l : List (Tx × List Tx)} (h : aY w P e c n t s) (hm0 : aL w c m) (hk : az [c] w w') (hm : aL w' c lc) (hr : eL w' lc l) : aY w' P e c n t { s with cons := l } := by
 obtain ⟨h1, h2, h3, h4, h5, h6⟩ := h.nd; obtain ⟨ln, hn, hq⟩ := h.mn; exact ⟨cK hk (by simpa using hm0.notbox h.box) h.box, h.me.keptM hk (by simpa using h1), ⟨lc, hm, hr⟩, ⟨ln, hn.keptM hk (by simpa using h4.symm), hq⟩, h.mt.keptM hk (by simpa using h5.symm), h.nd⟩
theorem aY.putN {m ln : List (Tx × Value)} {l : List (Tx × bc)} (h : aY w P e c n t s) (hm0 : aL w n m) (hk : az [n] w w') (hm : aL w' n ln) (hr : gF ln l) : aY w' P e c n t { s with nodes := l } := by
 obtain ⟨h1, h2, h3, h4, h5, h6⟩ := h.nd; obtain ⟨lc, hc, hq⟩ := h.mc; exact ⟨cK hk (by simpa using hm0.notbox h.box) h.box, h.me.keptM hk (by simpa using h2), ⟨lc, hc.keptM hk (by simpa using h4), hq.kept hm0 hk⟩, ⟨ln, hm, hr⟩, h.mt.keptM hk (by simpa using h6.symm), h.nd⟩
end
theorem eL.snoc {w : World} {l : List (Tx × Value)} {cs : List (Tx × List Tx)} {v : Value} {names L : List Tx} (h : eL w l cs) (hv : qV w v L) : eL w (l ++ bb v names) (cs ++ names.map λ c => (c, L)) := by
 have hlen : l.length = cs.length := (by have := congrArg List.length h.1; simpa [aC] using this); refine ⟨?_, λ i a b ha hb => ?_⟩
 . rw [dE, de, h.1, List.map_append, List.map_map]; congr 1
   induction names with
   | nil => rfl
   | cons x r ih => rw [List.map_cons, <- ih]; rfl
 . by_cases hi : i < l.length
   . rw [List.getElem?_append_left hi] at ha; rw [List.getElem?_append_left zO] at hb; exact h.2 i a b ha hb
   . rw [List.getElem?_append_right zO] at ha; rw [List.getElem?_append_right zO] at hb; have h1 := List.mem_of_getElem? ha; have h2 := List.mem_of_getElem? hb; obtain ⟨x, _, rfl⟩ := List.mem_map.1 h1; obtain ⟨y, _, rfl⟩ := List.mem_map.1 h2; exact hv
theorem eL.sh {w : World} {l : List (Tx × Value)} {cs : List (Tx × List Tx)} (h : eL w l cs) : ∀ p ∈ l, ShE p.2 := by
 intro p hp; obtain ⟨i, hi⟩ := List.getElem?_of_mem hp; have hlen : l.length = cs.length := (by have := congrArg List.length h.1; simpa [aC] using this); have hl : i < cs.length := (by rw [<- hlen]; exact (List.getElem?_eq_some_iff.1 hi).1); obtain ⟨s, A, m, j, e, _⟩ := h.2 i p _ hi (List.getElem?_eq_getElem hl); exact ⟨s, A, m, j, e⟩
theorem gF.sh {l : List (Tx × Value)} {ns : List (Tx × bc)} (h : gF l ns) : ∀ p ∈ l, ShN p.2 := by
 intro p hp; obtain ⟨i, hi⟩ := List.getElem?_of_mem hp; have hlen : l.length = ns.length := (by have := congrArg List.length h.1; simpa [aC] using this); have hl : i < ns.length := (by rw [<- hlen]; exact (List.getElem?_eq_some_iff.1 hi).1); obtain ⟨s, A1, c1, A2, c2, A3, c3, A4, m4, c4, e⟩ := h.2 i p _ hi (List.getElem?_eq_getElem hl); exact ⟨s, A1, A2, A3, A4, _, c1, _, c2, _, c3, m4, c4, e⟩
theorem dI (l : List Tx) : ∀ p ∈ bb eo l, ShS p.2 := by
 intro p hp; obtain ⟨_, _, rfl⟩ := List.mem_map.1 hp; rfl
def iw : Obj := .cells #[.string ⟨#[70, 97, 108, 115, 101]⟩, .string ⟨#[84, 114, 117, 101]⟩] 9
theorem uf (w : World) : aG (w.alloc iw) (.slice (some ⟨w.heap.size, 0, none⟩) 2 2) gD :=
 ⟨_, 2, rfl, by decide, by unfold maxLen; omega, λ i x hx => by
   obtain ⟨x0, x1⟩ := bM (show (w.alloc iw).heap[w.heap.size]? = some (.cells #[.string (str [70, 97, 108, 115, 101]), .string (str [84, 114, 117, 101])] 9 (0, 0)) from heap_alloc_new w iw)
   match i with
   | 0 => cases hx; exact ⟨_, ⟨_, rfl, λ j u hu => by
       have hj : j = 0 := (by have := (List.getElem?_eq_some_iff.1 hu).1; simp at this; exact this)
       subst hj; cases hu
       simpa [Addr.add] using x0⟩, rfl, by unfold maxLen; decide⟩
   | 1 => cases hx; exact ⟨_, ⟨_, rfl, λ j u hu => by
       have hj : j = 0 := (by have := (List.getElem?_eq_some_iff.1 hu).1; simp at this; exact this)
       subst hj; cases hu
       simpa [Addr.add] using x1⟩, rfl, by unfold maxLen; decide⟩
   | i + 2 => simp [gD] at hx⟩
theorem ly (w : World) : Calls prog 53 #[] w λ e w' => e = .returned (.slice (some ⟨w.heap.size, 0, none⟩) 2 2) /\ w' = w.alloc iw := by
 go_enter func53, ntmps53
 go_wp2_with fail
 go_ret; exact ⟨rfl, rfl⟩
end Go.Proofs.YtdcjlihaldhhjaaGreatDoor
