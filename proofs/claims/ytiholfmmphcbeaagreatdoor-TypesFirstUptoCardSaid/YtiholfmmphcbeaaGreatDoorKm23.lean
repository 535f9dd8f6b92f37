import Derived.Test.YtiholfmmphcbeaaGreatDoorKm08
import Derived.Test.YtiholfmmphcbeaaGreatDoorKm14
import Derived.Test.YtiholfmmphcbeaaGreatDoorKm18
import Derived.Test.YtiholfmmphcbeaaGreatDoorKm20
set_option maxHeartbeats 4000000
set_option maxRecDepth 100000
namespace Go.Proofs.YtiholfmmphcbeaaGreatDoor
open _root_.Go.Proofs.Tryz
open Go.RowKit
open Go.ChangeMaps Go.MapKept
open Go.Maps
structure aw (M : List Nat) (w w' : World) : Prop where
 os : w'.os = w.os
 tape : w'.tape = w.tape
 output : w'.output = w.output
 size : w.heap.size <= w'.heap.size
 block : ∀ k, k < w.heap.size -> k ∉ M -> w'.heap[k]? = w.heap[k]?
theorem aw.refl (M : List Nat) (w : World) : aw M w w := ⟨rfl, rfl, rfl, Nat.le_refl _, λ _ _ _ => rfl⟩
theorem aw.trans {M : List Nat} {a b c : World} (h : aw M a b) (g : aw M b c) : aw M a c :=
 ⟨g.os.trans h.os, g.tape.trans h.tape, g.output.trans h.output, Nat.le_trans h.size g.size, λ k hk hm => (g.block k (Nat.lt_of_lt_of_le hk h.size) hm).trans (h.block k hk hm)⟩
theorem aw.of_below {M : List Nat} {w w' : World} (h : Below w.heap.size w w') : aw M w w' := ⟨h.os, h.tape, h.output, h.size, λ k hk _ => h.block k hk⟩
theorem aw.of_grown {M : List Nat} {b : Nat} {w w' : World} (h : w.grownBy w' (some b)) (hb : b ∈ M) : aw M w w' := ⟨h.os, h.tape, h.output, h.size, λ k hk hm => h.block k hk (λ e => hm (by cases e; exact hb))⟩
theorem aw.mono {M M' : List Nat} {w w' : World} (h : aw M w w') (hs : ∀ x ∈ M, x ∈ M') : aw M' w w' := ⟨h.os, h.tape, h.output, h.size, λ k hk hm => h.block k hk (λ e => hm (hs k e))⟩
theorem aw.below {M : List Nat} {B : Nat} {w w' : World} (h : aw M w w') (hM : ∀ b ∈ M, B <= b) (hB : B <= w.heap.size) : Below B w w' :=
 ⟨h.os, h.tape, h.output, h.size, λ k hk => h.block k (Nat.lt_of_lt_of_le hk hB) (λ e => absurd (hM k e) zO)⟩
theorem aw.cell {M : List Nat} {w w' : World} (h : aw M w w') {a : Addr} (ha : a.block < w.heap.size) (hm : a.block ∉ M) : w'.cell? a = w.cell? a := World.cell?_of_block (h.block _ ha hm)
def ay (l : List (Tx × Value)) : List Tx := l.map Prod.fst
def bd (v : Value) (l : List Tx) : List (Tx × Value) := l.map λ s => (s, v)
theorem ed (l m : List (Tx × Value)) : ay (l ++ m) = ay l ++ ay m := by simp [ay]
theorem dC (v : Value) (l : List Tx) : ay (bd v l) = l := by
 unfold ay bd; rw [List.map_map]; induction l with
 | nil => rfl
 | cons x r ih => rw [List.map_cons, ih]; rfl
def pv (b : Nat) (l : List (Tx × Value)) (v : Value) (names : List Tx) (w : World) (e : Ending) (w' : World) : Prop :=
 e = .returned (.bool (aV (ay l) names)) /\ aw [b] w w' /\ (aV (ay l) names = true -> ax w' b (l ++ bd v names))
theorem ax.notcell {w : World} {b : Nat} {l : List (Tx × Value)} (h : ax w b l) {a : Addr} {u : Value} (hc : w.cell? a = some u) : a.block ≠ b := by
 obtain ⟨es, clock, hb, _⟩ := h; intro e; unfold World.cell? at hc; rw [e, hb] at hc; simp at hc
theorem aF.kept {w w' : World} {b : Nat} {l : List (Tx × Value)} {v : Value} {names : List Tx} (ha : aF w v names) (hm : ax w b l) (hk : aw [b] w w') : aF w' v names := by
 obtain ⟨A, c, rfl, h1, h2, h3⟩ := ha; refine ⟨A, c, rfl, h1, h2, λ i x hx => ?_⟩; obtain ⟨L, ⟨a, ea, hc⟩, hR⟩ := h3 i x hx; refine ⟨L, ⟨a, ea, λ j u hu => ?_⟩, hR⟩; have h0 := hc j u hu; rw [hk.cell (World.block_lt_of_cell? w _ h0) (by simpa using hm.notcell h0)]; exact h0
theorem mu {names : List Tx} {k : Nat} {s : Tx} (h : names[k]? = some s) (v : Value) : bd v (names.take (k + 1)) = bd v (names.take k) ++ [(s, v)] := by
 unfold bd; rw [cI h]; simp
theorem oN {w : World} {N : Nat} {T0 : TypeId} {v0 : Value} (h : w.heap[N]? = some (.cells #[v0] T0 (0, 0))) : w.cell? ⟨N, 0, none⟩ = some v0 := by simp [World.cell?, h]
theorem cP {M : List Nat} {w w1 : World} {g : Nat} {o : Obj} (hb : aw M w w1) (hg : g ∉ M) (h : w.heap[g]? = some o) : w1.heap[g]? = some o := (hb.block g (ab h) hg).trans h
def ShS (v : Value) : Prop := v = .agg #[]
theorem zeroS (w : World) : (zeroValue 136).run prog w = .ok (.agg #[]) w := by kernel_rfl
theorem yh {w : World} {b : Nat} {l : List (Tx × Value)} (h : ax w b l) {s : Tx} (hs : (s, .agg #[]) ∈ l) : Calls prog 91 #[.map (some b), .string (str s)] w (ar true w) := by
 have hrun := h.look_yes underlying128 hs; clear h hs; go_enter func91, ntmps91
 go_wp2_with fail
 go_ret; first | exact ⟨rfl, (Below.refl _ _).alloc (Nat.le_refl _) _⟩ | exact ⟨rfl, Below.refl _ _⟩
theorem Bk {w : World} {b : Nat} {l : List (Tx × Value)} (h : ax w b l) {s : Tx} (hl : s.length <= maxLen) (hs : s ∉ l.map Prod.fst) : Calls prog 91 #[.map (some b), .string (str s)] w (ar false w) := by
 have hrun := h.look_no underlying128 (zeroS w) hl hs; clear h hs hl; go_enter func91, ntmps91
 go_wp2_with fail
 go_ret; first | exact ⟨rfl, (Below.refl _ _).alloc (Nat.le_refl _) _⟩ | exact ⟨rfl, Below.refl _ _⟩
theorem eS {w : World} {b : Nat} {l : List (Tx × Value)} (h : ax w b l) (hv : ∀ p ∈ l, ShS p.2) {s : Tx} (hl : s.length <= maxLen) : Calls prog 91 #[.map (some b), .string (str s)] w (ar ((ay l).contains s) w) := by
 by_cases hs : s ∈ l.map Prod.fst
 . obtain ⟨⟨s', v⟩, hp, rfl⟩ := List.mem_map.1 hs; have hc : (ay l).contains s' = true := (by rw [List.contains_iff_mem]; exact hs); show Calls _ _ _ _ (ar ((ay l).contains s') w); rw [hc]; have := hv _ hp; obtain rfl := this; exact yh h hp
 . have hc : (ay l).contains s = false := by rw [Bool.eq_false_iff]; intro h; exact hs (List.contains_iff_mem.1 h)
   rw [hc]; exact Bk h hl hs
theorem cZ {w : World} {b : Nat} {l : List (Tx × Value)} (h : ax w b l) (hv : ∀ p ∈ l, ShS p.2) {va : Value} {names : List Tx} (ha : aF w va names) :
  Calls prog 48 #[.map (some b), .agg #[], va] w (pv b l (.agg #[]) names w) := by
 have hbl := h.lt; have HH := zH h; have HA := zH ha; have HV := zH hv; obtain ⟨A, c, rfl, hc, hm, _⟩ := ha; have hll : names.length <= 9223372036854775807 := (by unfold maxLen at hm; omega); clear h hv hc hm; go_enter func48, ntmps48
 go_wp2_with fail
 go_loopg [11] names.length (λ g v wr => ∃ k : Nat, k + g = names.length /\ v = .int .i64 k /\ ax wr b (l ++ bd (.agg #[]) (names.take k)) /\ aw [b] w wr /\ aV (ay l) names = aV (ay l ++ names.take k) (names.drop k) /\ wr.heap[w.heap.size]? = some (.cells #[] 136 (0, 0)))
 case atStart =>
  have hb0 : Below w.heap.size w (w.alloc (.cells #[] 136)) := (Below.refl _ _).alloc (Nat.le_refl _) _; exact ⟨0, by omega, rfl, by simpa [bd] using HH.o.under hb0, aw.of_below hb0, by simp, heap_alloc_new w _⟩
 case round =>
  obtain ⟨k, hkg, rfl, hma, hkm, hr, hbox⟩ := hrel; obtain ⟨wq, rfl⟩ := zW wr; have HK := zH hkg; have HMA := zH hma; have HKM := zH hkm; have HR := zH hr; have BX := zH hbox; have hkl : k <= names.length := zO; clear hkg hma hkm hr hbox; by_cases hlt : k < names.length
  . obtain ⟨s, hs⟩ := zG hlt; have HSA := zH (HA.o.kept HH.o HKM.o); obtain ⟨A9, c9, e9, _, _, he9⟩ := HSA.o; obtain ⟨L9, hE9, rfl, hsl⟩ := he9 k s hs; injection e9 with e9 e10 e11; clear e10 e11; obtain ⟨a9, ea9, _, hzc, q9⟩ := dL hE9; rw [ea9] at e9; subst e9; simp only [Nat.mul_one] at q9; have HSL := zH hsl; have HT := zH (mu hs (.agg #[])); have HD := zH (bw hs); have HTS := zH (cI hs); have HKN := zH (eS HMA.o (λ p hp => (List.mem_append.1 hp).elim (HV.o p) (λ hq => by obtain ⟨_, _, rfl⟩ := List.mem_map.1 hq; exact rfl)) hsl); rw [ed, dC] at HKN; clear hs he9 hE9 ea9 hzc hsl; cases hc : (ay l ++ names.take k).contains s
    . rw [hc] at HKN; have HC := zH hc; clear hc; have HRN := zH (show aV (ay l) names = aV (ay l ++ names.take (k + 1)) (names.drop (k + 1)) by rw [HR.o, HD.o, dd, HC.o, HTS.o, <- List.append_assoc]; rfl)
      go_wp2_with (first
       | (go_at_call 91; (with_reducible refine HKN.o.mono ?_); rintro e w1 ⟨rfl, hb1⟩; obtain ⟨v1, rfl⟩ := zW w1; have HM1 := zH (HMA.o.under hb1); have BX1 := zH (ao hb1 BX.o); have HK1 := zH (HKM.o.trans (aw.of_below hb1)); clear hb1)
       | (at_mapUpdate; refine jd _ rfl _ _ _ 128 rfl underlying128 rfl rfl rfl HM1.o HSL.o ?_ ?_; (simpa [ay, bd, List.contains_iff_mem, Function.comp_def] using HC.o); (intro w2 hm2 hg2; obtain ⟨v2, rfl⟩ := zW w2; have HM2 := zH hm2; have HK2 := zH (HK1.o.trans (aw.of_grown hg2 (by simp))); have BX2 := zH (cP (aw.of_grown hg2 (List.mem_singleton.2 rfl)) (by simp; omega) BX1.o); clear hm2 hg2)))
      go_roundg (names.length - (k + 1))
      case measure => have := HK.o; omega
      case rel => exact ⟨k + 1, by omega, by go_num, by rw [HT.o, <- List.append_assoc]; exact HM2.o, HK2.o, HRN.o, BX2.o⟩
    . rw [hc] at HKN; have HC := zH hc; clear hc; have HRN := zH (show aV (ay l) names = false by rw [HR.o, HD.o, dd, HC.o]; rfl); go_wp2_with (go_at_call 91; (with_reducible refine HKN.o.mono ?_); rintro e w1 ⟨rfl, hb1⟩)
      go_ret; exact ⟨ah HRN.o.symm, HKM.o.trans (aw.of_below hb1), λ h => by rw [HRN.o] at h; cases h⟩
  . have hke : k = names.length := by omega
    have HRN := zH (show aV (ay l) names = true by rw [HR.o, hke, List.drop_length]; rfl); have HM3 := zH (show ax wq b (l ++ bd (.agg #[]) names) by have := HMA.o; rwa [hke, List.take_length] at this); clear hke; go_wp2_with fail
    go_ret; exact ⟨ah HRN.o.symm, HKM.o, λ _ => HM3.o⟩
def ShI (v : Value) : Prop := ∃ n1 : Int, v = .int .i64 n1
theorem GH (w : World) : (zeroValue 3).run prog w = .ok (.int .i64 0) w := by kernel_rfl
theorem yj {w : World} {b : Nat} {l : List (Tx × Value)} (h : ax w b l) {s : Tx} {n1 : Int} (hs : (s, .int .i64 n1) ∈ l) : Calls prog 132 #[.map (some b), .string (str s)] w (ar true w) := by
 have hrun := h.look_yes underlying91 hs; clear h hs; go_enter func132, ntmps132
 go_wp2_with fail
 go_ret; first | exact ⟨rfl, (Below.refl _ _).alloc (Nat.le_refl _) _⟩ | exact ⟨rfl, Below.refl _ _⟩
theorem Bm {w : World} {b : Nat} {l : List (Tx × Value)} (h : ax w b l) {s : Tx} (hl : s.length <= maxLen) (hs : s ∉ l.map Prod.fst) : Calls prog 132 #[.map (some b), .string (str s)] w (ar false w) := by
 have hrun := h.look_no underlying91 (GH w) hl hs; clear h hs hl; go_enter func132, ntmps132
 go_wp2_with fail
 go_ret; first | exact ⟨rfl, (Below.refl _ _).alloc (Nat.le_refl _) _⟩ | exact ⟨rfl, Below.refl _ _⟩
theorem ec {w : World} {b : Nat} {l : List (Tx × Value)} (h : ax w b l) (hv : ∀ p ∈ l, ShI p.2) {s : Tx} (hl : s.length <= maxLen) : Calls prog 132 #[.map (some b), .string (str s)] w (ar ((ay l).contains s) w) := by
 by_cases hs : s ∈ l.map Prod.fst
 . obtain ⟨⟨s', v⟩, hp, rfl⟩ := List.mem_map.1 hs; have hc : (ay l).contains s' = true := (by rw [List.contains_iff_mem]; exact hs); show Calls _ _ _ _ (ar ((ay l).contains s') w); rw [hc]; have := hv _ hp; obtain ⟨n1, rfl⟩ := this; exact yj h hp
 . have hc : (ay l).contains s = false := by rw [Bool.eq_false_iff]; intro h; exact hs (List.contains_iff_mem.1 h)
   rw [hc]; exact Bm h hl hs
theorem jT {w : World} {b : Nat} {l : List (Tx × Value)} (h : ax w b l) (hv : ∀ p ∈ l, ShI p.2) {n1 : Int} {va : Value} {names : List Tx} (ha : aF w va names) :
  Calls prog 96 #[.map (some b), .int .i64 n1, va] w (pv b l (.int .i64 n1) names w) := by
 have hbl := h.lt; have HH := zH h; have HA := zH ha; have HV := zH hv; obtain ⟨A, c, rfl, hc, hm, _⟩ := ha; have hll : names.length <= 9223372036854775807 := (by unfold maxLen at hm; omega); clear h hv hc hm; go_enter func96, ntmps96
 go_wp2_with fail
 go_loopg [11] names.length (λ g v wr => ∃ k : Nat, k + g = names.length /\ v = .int .i64 k /\ ax wr b (l ++ bd (.int .i64 n1) (names.take k)) /\ aw [b] w wr /\ aV (ay l) names = aV (ay l ++ names.take k) (names.drop k))
 case atStart =>
  exact ⟨0, by omega, rfl, by simpa [bd] using HH.o, aw.refl _ _, by simp⟩
 case round =>
  obtain ⟨k, hkg, rfl, hma, hkm, hr⟩ := hrel; obtain ⟨wq, rfl⟩ := zW wr; have HK := zH hkg; have HMA := zH hma; have HKM := zH hkm; have HR := zH hr; have hkl : k <= names.length := zO; clear hkg hma hkm hr; by_cases hlt : k < names.length
  . obtain ⟨s, hs⟩ := zG hlt; have HSA := zH (HA.o.kept HH.o HKM.o); obtain ⟨A9, c9, e9, _, _, he9⟩ := HSA.o; obtain ⟨L9, hE9, rfl, hsl⟩ := he9 k s hs; injection e9 with e9 e10 e11; clear e10 e11; obtain ⟨a9, ea9, _, hzc, q9⟩ := dL hE9; rw [ea9] at e9; subst e9; simp only [Nat.mul_one] at q9; have HSL := zH hsl; have HT := zH (mu hs (.int .i64 n1)); have HD := zH (bw hs); have HTS := zH (cI hs); have HKN := zH (ec HMA.o (λ p hp => (List.mem_append.1 hp).elim (HV.o p) (λ hq => by obtain ⟨_, _, rfl⟩ := List.mem_map.1 hq; exact ⟨_, rfl⟩)) hsl); rw [ed, dC] at HKN; clear hs he9 hE9 ea9 hzc hsl; cases hc : (ay l ++ names.take k).contains s
    . rw [hc] at HKN; have HC := zH hc; clear hc; have HRN := zH (show aV (ay l) names = aV (ay l ++ names.take (k + 1)) (names.drop (k + 1)) by rw [HR.o, HD.o, dd, HC.o, HTS.o, <- List.append_assoc]; rfl)
      go_wp2_with (first
       | (go_at_call 132; (with_reducible refine HKN.o.mono ?_); rintro e w1 ⟨rfl, hb1⟩; obtain ⟨v1, rfl⟩ := zW w1; have HM1 := zH (HMA.o.under hb1); have HK1 := zH (HKM.o.trans (aw.of_below hb1)); clear hb1)
       | (at_mapUpdate; refine jd _ rfl _ _ _ 91 rfl underlying91 rfl rfl rfl HM1.o HSL.o ?_ ?_; (simpa [ay, bd, List.contains_iff_mem, Function.comp_def] using HC.o); (intro w2 hm2 hg2; obtain ⟨v2, rfl⟩ := zW w2; have HM2 := zH hm2; have HK2 := zH (HK1.o.trans (aw.of_grown hg2 (by simp))); clear hm2 hg2)))
      go_roundg (names.length - (k + 1))
      case measure => have := HK.o; omega
      case rel => exact ⟨k + 1, by omega, by go_num, by rw [HT.o, <- List.append_assoc]; exact HM2.o, HK2.o, HRN.o⟩
    . rw [hc] at HKN; have HC := zH hc; clear hc; have HRN := zH (show aV (ay l) names = false by rw [HR.o, HD.o, dd, HC.o]; rfl); go_wp2_with (go_at_call 132; (with_reducible refine HKN.o.mono ?_); rintro e w1 ⟨rfl, hb1⟩)
      go_ret; exact ⟨ah HRN.o.symm, HKM.o.trans (aw.of_below hb1), λ h => by rw [HRN.o] at h; cases h⟩
  . have hke : k = names.length := by omega
    have HRN := zH (show aV (ay l) names = true by rw [HR.o, hke, List.drop_length]; rfl); have HM3 := zH (show ax wq b (l ++ bd (.int .i64 n1) names) by have := HMA.o; rwa [hke, List.take_length] at this); clear hke; go_wp2_with fail
    go_ret; exact ⟨ah HRN.o.symm, HKM.o, λ _ => HM3.o⟩
def ShE (v : Value) : Prop := ∃ s1 : ByteArray, ∃ A1 : Option Addr, ∃ m1 j1 : Nat, v = .agg #[.string s1, .slice A1 m1 j1]
theorem GI (w : World) : (zeroValue 74).run prog w = .ok (.agg #[.string ⟨#[]⟩, .slice none 0 0]) w := by kernel_rfl
theorem yk {w : World} {b : Nat} {l : List (Tx × Value)} (h : ax w b l) {s : Tx} {s1 : ByteArray} {A1 : Option Addr} {m1 j1 : Nat} (hs : (s, .agg #[.string s1, .slice A1 m1 j1]) ∈ l) : Calls prog 90 #[.map (some b), .string (str s)] w (ar true w) := by
 have hrun := h.look_yes underlying129 hs; clear h hs; go_enter func90, ntmps90
 go_wp2_with fail
 go_ret; first | exact ⟨rfl, (Below.refl _ _).alloc (Nat.le_refl _) _⟩ | exact ⟨rfl, Below.refl _ _⟩
theorem Bn {w : World} {b : Nat} {l : List (Tx × Value)} (h : ax w b l) {s : Tx} (hl : s.length <= maxLen) (hs : s ∉ l.map Prod.fst) : Calls prog 90 #[.map (some b), .string (str s)] w (ar false w) := by
 have hrun := h.look_no underlying129 (GI w) hl hs; clear h hs hl; go_enter func90, ntmps90
 go_wp2_with fail
 go_ret; first | exact ⟨rfl, (Below.refl _ _).alloc (Nat.le_refl _) _⟩ | exact ⟨rfl, Below.refl _ _⟩
theorem jm {w : World} {b : Nat} {l : List (Tx × Value)} (h : ax w b l) (hv : ∀ p ∈ l, ShE p.2) {s : Tx} (hl : s.length <= maxLen) : Calls prog 90 #[.map (some b), .string (str s)] w (ar ((ay l).contains s) w) := by
 by_cases hs : s ∈ l.map Prod.fst
 . obtain ⟨⟨s', v⟩, hp, rfl⟩ := List.mem_map.1 hs; have hc : (ay l).contains s' = true := (by rw [List.contains_iff_mem]; exact hs); show Calls _ _ _ _ (ar ((ay l).contains s') w); rw [hc]; have := hv _ hp; obtain ⟨s1, A1, m1, j1, rfl⟩ := this; exact yk h hp
 . have hc : (ay l).contains s = false := by rw [Bool.eq_false_iff]; intro h; exact hs (List.contains_iff_mem.1 h)
   rw [hc]; exact Bn h hl hs
theorem od {w : World} {b : Nat} {l : List (Tx × Value)} (h : ax w b l) (hv : ∀ p ∈ l, ShE p.2) {s1 : ByteArray} {A1 : Option Addr} {m1 j1 : Nat} {va : Value} {names : List Tx} (ha : aF w va names) :
  Calls prog 46 #[.map (some b), .agg #[.string s1, .slice A1 m1 j1], va] w (pv b l (.agg #[.string s1, .slice A1 m1 j1]) names w) := by
 have hbl := h.lt; have HH := zH h; have HA := zH ha; have HV := zH hv; obtain ⟨A, c, rfl, hc, hm, _⟩ := ha; have hll : names.length <= 9223372036854775807 := (by unfold maxLen at hm; omega); clear h hv hc hm; go_enter func46, ntmps46
 go_wp2_with fail
 go_loopg [11] names.length (λ g v wr => ∃ k : Nat, k + g = names.length /\ v = .int .i64 k /\ ax wr b (l ++ bd (.agg #[.string s1, .slice A1 m1 j1]) (names.take k)) /\ aw [b] w wr /\ aV (ay l) names = aV (ay l ++ names.take k) (names.drop k) /\ wr.heap[w.heap.size]? = some (.cells #[.string s1, .slice A1 m1 j1] 74 (0, 0)))
 case atStart =>
  have hb0 : Below w.heap.size w (w.alloc (.cells #[.string s1, .slice A1 m1 j1] 74)) := (Below.refl _ _).alloc (Nat.le_refl _) _; exact ⟨0, by omega, rfl, by simpa [bd] using HH.o.under hb0, aw.of_below hb0, by simp, heap_alloc_new w _⟩
 case round =>
  obtain ⟨k, hkg, rfl, hma, hkm, hr, hbox⟩ := hrel; obtain ⟨wq, rfl⟩ := zW wr; have HK := zH hkg; have HMA := zH hma; have HKM := zH hkm; have HR := zH hr; have BX := zH hbox; have hkl : k <= names.length := zO; clear hkg hma hkm hr hbox; by_cases hlt : k < names.length
  . obtain ⟨s, hs⟩ := zG hlt; have HSA := zH (HA.o.kept HH.o HKM.o); obtain ⟨A9, c9, e9, _, _, he9⟩ := HSA.o; obtain ⟨L9, hE9, rfl, hsl⟩ := he9 k s hs; injection e9 with e9 e10 e11; clear e10 e11; obtain ⟨a9, ea9, _, hzc, q9⟩ := dL hE9; rw [ea9] at e9; subst e9; simp only [Nat.mul_one] at q9; have HSL := zH hsl; have HT := zH (mu hs (.agg #[.string s1, .slice A1 m1 j1])); have HD := zH (bw hs); have HTS := zH (cI hs); have HKN := zH (jm HMA.o (λ p hp => (List.mem_append.1 hp).elim (HV.o p) (λ hq => by obtain ⟨_, _, rfl⟩ := List.mem_map.1 hq; exact ⟨_, _, _, _, rfl⟩)) hsl); rw [ed, dC] at HKN; clear hs he9 hE9 ea9 hzc hsl; cases hc : (ay l ++ names.take k).contains s
    . rw [hc] at HKN; have HC := zH hc; clear hc; have HRN := zH (show aV (ay l) names = aV (ay l ++ names.take (k + 1)) (names.drop (k + 1)) by rw [HR.o, HD.o, dd, HC.o, HTS.o, <- List.append_assoc]; rfl)
      go_wp2_with (first
       | (go_at_call 90; (with_reducible refine HKN.o.mono ?_); rintro e w1 ⟨rfl, hb1⟩; obtain ⟨v1, rfl⟩ := zW w1; have HM1 := zH (HMA.o.under hb1); have BX1 := zH (ao hb1 BX.o); obtain ⟨x0, x1⟩ := bb BX1.o; have HK1 := zH (HKM.o.trans (aw.of_below hb1)); clear hb1)
       | (at_mapUpdate; refine jd _ rfl _ _ _ 129 rfl underlying129 rfl rfl rfl HM1.o HSL.o ?_ ?_; (simpa [ay, bd, List.contains_iff_mem, Function.comp_def] using HC.o); (intro w2 hm2 hg2; obtain ⟨v2, rfl⟩ := zW w2; have HM2 := zH hm2; have HK2 := zH (HK1.o.trans (aw.of_grown hg2 (by simp))); have BX2 := zH (cP (aw.of_grown hg2 (List.mem_singleton.2 rfl)) (by simp; omega) BX1.o); clear hm2 hg2)))
      go_roundg (names.length - (k + 1))
      case measure => have := HK.o; omega
      case rel => exact ⟨k + 1, by omega, by go_num, by rw [HT.o, <- List.append_assoc]; exact HM2.o, HK2.o, HRN.o, BX2.o⟩
    . rw [hc] at HKN; have HC := zH hc; clear hc; have HRN := zH (show aV (ay l) names = false by rw [HR.o, HD.o, dd, HC.o]; rfl); go_wp2_with (go_at_call 90; (with_reducible refine HKN.o.mono ?_); rintro e w1 ⟨rfl, hb1⟩)
      go_ret; exact ⟨ah HRN.o.symm, HKM.o.trans (aw.of_below hb1), λ h => by rw [HRN.o] at h; cases h⟩
  . have hke : k = names.length := by omega
    have HRN := zH (show aV (ay l) names = true by rw [HR.o, hke, List.drop_length]; rfl); have HM3 := zH (show ax wq b (l ++ bd (.agg #[.string s1, .slice A1 m1 j1]) names) by have := HMA.o; rwa [hke, List.take_length] at this); clear hke; go_wp2_with fail
    go_ret; exact ⟨ah HRN.o.symm, HKM.o, λ _ => HM3.o⟩
def ShN (v : Value) : Prop := ∃ s1 : ByteArray, ∃ A1 A2 A3 A4 : Option Addr, ∃ m1 j1 m2 j2 m3 j3 m4 j4 : Nat, v = .agg #[.string s1, .slice A1 m1 j1, .slice A2 m2 j2, .slice A3 m3 j3, .slice A4 m4 j4]
theorem Cn (w : World) : (zeroValue 53).run prog w = .ok (.agg #[.string ⟨#[]⟩, .slice none 0 0, .slice none 0 0, .slice none 0 0, .slice none 0 0]) w := by kernel_rfl
theorem yi {w : World} {b : Nat} {l : List (Tx × Value)} (h : ax w b l) {s : Tx} {s1 : ByteArray} {A1 A2 A3 A4 : Option Addr} {m1 j1 m2 j2 m3 j3 m4 j4 : Nat} (hs : (s, .agg #[.string s1, .slice A1 m1 j1, .slice A2 m2 j2, .slice A3 m3 j3, .slice A4 m4 j4]) ∈ l) : Calls prog 93 #[.map (some b), .string (str s)] w (ar true w) := by
 have hrun := h.look_yes underlying130 hs; clear h hs; go_enter func93, ntmps93
 go_wp2_with fail
 go_ret; first | exact ⟨rfl, (Below.refl _ _).alloc (Nat.le_refl _) _⟩ | exact ⟨rfl, Below.refl _ _⟩
theorem Bl {w : World} {b : Nat} {l : List (Tx × Value)} (h : ax w b l) {s : Tx} (hl : s.length <= maxLen) (hs : s ∉ l.map Prod.fst) : Calls prog 93 #[.map (some b), .string (str s)] w (ar false w) := by
 have hrun := h.look_no underlying130 (Cn w) hl hs; clear h hs hl; go_enter func93, ntmps93
 go_wp2_with fail
 go_ret; first | exact ⟨rfl, (Below.refl _ _).alloc (Nat.le_refl _) _⟩ | exact ⟨rfl, Below.refl _ _⟩
theorem eU {w : World} {b : Nat} {l : List (Tx × Value)} (h : ax w b l) (hv : ∀ p ∈ l, ShN p.2) {s : Tx} (hl : s.length <= maxLen) : Calls prog 93 #[.map (some b), .string (str s)] w (ar ((ay l).contains s) w) := by
 by_cases hs : s ∈ l.map Prod.fst
 . obtain ⟨⟨s', v⟩, hp, rfl⟩ := List.mem_map.1 hs; have hc : (ay l).contains s' = true := (by rw [List.contains_iff_mem]; exact hs); show Calls _ _ _ _ (ar ((ay l).contains s') w); rw [hc]; have := hv _ hp; obtain ⟨s1, A1, A2, A3, A4, m1, j1, m2, j2, m3, j3, m4, j4, rfl⟩ := this; exact yi h hp
 . have hc : (ay l).contains s = false := by rw [Bool.eq_false_iff]; intro h; exact hs (List.contains_iff_mem.1 h)
   rw [hc]; exact Bl h hl hs
theorem uS {w : World} {b : Nat} {l : List (Tx × Value)} (h : ax w b l) (hv : ∀ p ∈ l, ShN p.2) {s1 : ByteArray} {A1 A2 A3 A4 : Option Addr} {m1 j1 m2 j2 m3 j3 m4 j4 : Nat} {va : Value} {names : List Tx} (ha : aF w va names) :
  Calls prog 53 #[.map (some b), .agg #[.string s1, .slice A1 m1 j1, .slice A2 m2 j2, .slice A3 m3 j3, .slice A4 m4 j4], va] w (pv b l (.agg #[.string s1, .slice A1 m1 j1, .slice A2 m2 j2, .slice A3 m3 j3, .slice A4 m4 j4]) names w) := by
 have hbl := h.lt; have HH := zH h; have HA := zH ha; have HV := zH hv; obtain ⟨A, c, rfl, hc, hm, _⟩ := ha; have hll : names.length <= 9223372036854775807 := (by unfold maxLen at hm; omega); clear h hv hc hm; go_enter func53, ntmps53
 go_wp2_with fail
 go_loopg [11] names.length (λ g v wr => ∃ k : Nat, k + g = names.length /\ v = .int .i64 k /\ ax wr b (l ++ bd (.agg #[.string s1, .slice A1 m1 j1, .slice A2 m2 j2, .slice A3 m3 j3, .slice A4 m4 j4]) (names.take k)) /\ aw [b] w wr /\ aV (ay l) names = aV (ay l ++ names.take k) (names.drop k) /\ wr.heap[w.heap.size]? = some (.cells #[.string s1, .slice A1 m1 j1, .slice A2 m2 j2, .slice A3 m3 j3, .slice A4 m4 j4] 53 (0, 0)))
 case atStart =>
  have hb0 : Below w.heap.size w (w.alloc (.cells #[.string s1, .slice A1 m1 j1, .slice A2 m2 j2, .slice A3 m3 j3, .slice A4 m4 j4] 53)) := (Below.refl _ _).alloc (Nat.le_refl _) _; exact ⟨0, by omega, rfl, by simpa [bd] using HH.o.under hb0, aw.of_below hb0, by simp, heap_alloc_new w _⟩
 case round =>
  obtain ⟨k, hkg, rfl, hma, hkm, hr, hbox⟩ := hrel; obtain ⟨wq, rfl⟩ := zW wr; have HK := zH hkg; have HMA := zH hma; have HKM := zH hkm; have HR := zH hr; have BX := zH hbox; have hkl : k <= names.length := zO; clear hkg hma hkm hr hbox; by_cases hlt : k < names.length
  . obtain ⟨s, hs⟩ := zG hlt; have HSA := zH (HA.o.kept HH.o HKM.o); obtain ⟨A9, c9, e9, _, _, he9⟩ := HSA.o; obtain ⟨L9, hE9, rfl, hsl⟩ := he9 k s hs; injection e9 with e9 e10 e11; clear e10 e11; obtain ⟨a9, ea9, _, hzc, q9⟩ := dL hE9; rw [ea9] at e9; subst e9; simp only [Nat.mul_one] at q9; have HSL := zH hsl; have HT := zH (mu hs (.agg #[.string s1, .slice A1 m1 j1, .slice A2 m2 j2, .slice A3 m3 j3, .slice A4 m4 j4])); have HD := zH (bw hs); have HTS := zH (cI hs); have HKN := zH (eU HMA.o (λ p hp => (List.mem_append.1 hp).elim (HV.o p) (λ hq => by obtain ⟨_, _, rfl⟩ := List.mem_map.1 hq; exact ⟨_, _, _, _, _, _, _, _, _, _, _, _, _, rfl⟩)) hsl); rw [ed, dC] at HKN; clear hs he9 hE9 ea9 hzc hsl; cases hc : (ay l ++ names.take k).contains s
    . rw [hc] at HKN; have HC := zH hc; clear hc; have HRN := zH (show aV (ay l) names = aV (ay l ++ names.take (k + 1)) (names.drop (k + 1)) by rw [HR.o, HD.o, dd, HC.o, HTS.o, <- List.append_assoc]; rfl)
      go_wp2_with (first
       | (go_at_call 93; (with_reducible refine HKN.o.mono ?_); rintro e w1 ⟨rfl, hb1⟩; obtain ⟨v1, rfl⟩ := zW w1; have HM1 := zH (HMA.o.under hb1); have BX1 := zH (ao hb1 BX.o); obtain ⟨x0, x1, x2, x3, x4⟩ := aW BX1.o; have HK1 := zH (HKM.o.trans (aw.of_below hb1)); clear hb1)
       | (at_mapUpdate; refine jd _ rfl _ _ _ 130 rfl underlying130 rfl rfl rfl HM1.o HSL.o ?_ ?_; (simpa [ay, bd, List.contains_iff_mem, Function.comp_def] using HC.o); (intro w2 hm2 hg2; obtain ⟨v2, rfl⟩ := zW w2; have HM2 := zH hm2; have HK2 := zH (HK1.o.trans (aw.of_grown hg2 (by simp))); have BX2 := zH (cP (aw.of_grown hg2 (List.mem_singleton.2 rfl)) (by simp; omega) BX1.o); clear hm2 hg2)))
      go_roundg (names.length - (k + 1))
      case measure => have := HK.o; omega
      case rel => exact ⟨k + 1, by omega, by go_num, by rw [HT.o, <- List.append_assoc]; exact HM2.o, HK2.o, HRN.o, BX2.o⟩
    . rw [hc] at HKN; have HC := zH hc; clear hc; have HRN := zH (show aV (ay l) names = false by rw [HR.o, HD.o, dd, HC.o]; rfl); go_wp2_with (go_at_call 93; (with_reducible refine HKN.o.mono ?_); rintro e w1 ⟨rfl, hb1⟩)
      go_ret; exact ⟨ah HRN.o.symm, HKM.o.trans (aw.of_below hb1), λ h => by rw [HRN.o] at h; cases h⟩
  . have hke : k = names.length := by omega
    have HRN := zH (show aV (ay l) names = true by rw [HR.o, hke, List.drop_length]; rfl); have HM3 := zH (show ax wq b (l ++ bd (.agg #[.string s1, .slice A1 m1 j1, .slice A2 m2 j2, .slice A3 m3 j3, .slice A4 m4 j4]) names) by have := HMA.o; rwa [hke, List.take_length] at this); clear hke; go_wp2_with fail
    go_ret; exact ⟨ah HRN.o.symm, HKM.o, λ _ => HM3.o⟩
theorem mr {w : World} {N : Nat} {T0 : TypeId} {v0 v1 v2 v3 : Value} (h : w.heap[N]? = some (.cells #[v0, v1, v2, v3] T0 (0, 0))) : w.cell? ⟨N, 0, none⟩ = some v0 /\ w.cell? ⟨N, 1, none⟩ = some v1 /\ w.cell? ⟨N, 2, none⟩ = some v2 /\ w.cell? ⟨N, 3, none⟩ = some v3 := by simp [World.cell?, h]
def e8 : Value := .agg #[]
def te (w : World) (v : Value) (cs : List Tx) : Prop := ∃ s A m j, v = .agg #[.string s, .slice A m j] /\ aF w (.slice A m j) cs
def EM (v : Value) (n : aA) : Prop := ∃ s A1 c1 A2 c2 A3 c3 A4 m4 c4, v = .agg #[.string s, .slice A1 n.funs.length c1, .slice A2 n.ins.length c2, .slice A3 n.outs.length c3, .slice A4 m4 c4]
def fH (w : World) (l : List (Tx × Value)) (cs : List (Tx × List Tx)) : Prop := ay l = cs.map Prod.fst /\ ∀ (i : Nat) a b, l[i]? = some a -> cs[i]? = some b -> te w a.2 b.2
def iP (l : List (Tx × Value)) (ns : List (Tx × aA)) : Prop := ay l = ns.map Prod.fst /\ ∀ (i : Nat) a b, l[i]? = some a -> ns[i]? = some b -> EM a.2 b.2
structure aR (w : World) (P e c n t : Nat) (s : aK) : Prop where
 box : w.heap[P]? = some (.cells #[.map (some e), .map (some c), .map (some n), .map (some t)] 132 (0, 0))
 me : ax w e (bd e8 s.enums)
 mc : ∃ l, ax w c l /\ fH w l s.cons
 mn : ∃ l, ax w n l /\ iP l s.nodes
 mt : ax w t (bd e8 s.states)
 nd : e ≠ c /\ e ≠ n /\ e ≠ t /\ c ≠ n /\ c ≠ t /\ n ≠ t
theorem ax.notbox {w : World} {b : Nat} {l : List (Tx × Value)} (h : ax w b l) {g : Nat} {cs : Array Value} {T0 : TypeId} {fz : Nat × Nat} (hg : w.heap[g]? = some (.cells cs T0 fz)) : g ≠ b := by
 obtain ⟨es, clock, hb, _⟩ := h; intro e; rw [e, hb] at hg; cases hg
theorem te.kept {w w' : World} {b : Nat} {l : List (Tx × Value)} {v : Value} {cs : List Tx} (h : te w v cs) (hm : ax w b l) (hk : aw [b] w w') : te w' v cs := by
 obtain ⟨s, A, m, j, rfl, hs⟩ := h; exact ⟨s, A, m, j, rfl, hs.kept hm hk⟩
theorem fH.kept {w w' : World} {b : Nat} {l m : List (Tx × Value)} {cs : List (Tx × List Tx)} (h : fH w l cs) (hm : ax w b m) (hk : aw [b] w w') : fH w' l cs :=
 ⟨h.1, λ i a c ha hc => (h.2 i a c ha hc).kept hm hk⟩
theorem fH.under {w w' : World} {l : List (Tx × Value)} {cs : List (Tx × List Tx)} (h : fH w l cs) (hb : Below w.heap.size w w') : fH w' l cs :=
 ⟨h.1, λ i a c ha hc => by obtain ⟨s, A, m, j, e, hs⟩ := h.2 i a c ha hc; exact ⟨s, A, m, j, e, hs.under hb⟩⟩
theorem ax.keptM {w w' : World} {M : List Nat} {b : Nat} {l : List (Tx × Value)} (h : ax w b l) (hk : aw M w w') (hb : b ∉ M) : ax w' b l := h.block (hk.block b h.lt hb)
section
variable {w w' : World} {P e c n t : Nat} {s : aK}
theorem aR.under (h : aR w P e c n t s) (hb : Below w.heap.size w w') : aR w' P e c n t s := by
 obtain ⟨lc, hc, hr⟩ := h.mc; obtain ⟨ln, hn, hq⟩ := h.mn; exact ⟨ao hb h.box, h.me.under hb, ⟨lc, hc.under hb, hr.under hb⟩, ⟨ln, hn.under hb, hq⟩, h.mt.under hb, h.nd⟩
theorem aR.other {f : Nat} {m : List (Tx × Value)} (h : aR w P e c n t s) (hm : ax w f m) (hk : aw [f] w w') (hf : f ≠ e /\ f ≠ c /\ f ≠ n /\ f ≠ t) : aR w' P e c n t s := by
 obtain ⟨h1, h2, h3, h4⟩ := hf; obtain ⟨lc, hc, hr⟩ := h.mc; obtain ⟨ln, hn, hq⟩ := h.mn; exact ⟨cP hk (by simpa using hm.notbox h.box) h.box, h.me.keptM hk (by simpa using h1.symm), ⟨lc, hc.keptM hk (by simpa using h2.symm), hr.kept hm hk⟩, ⟨ln, hn.keptM hk (by simpa using h3.symm), hq⟩, h.mt.keptM hk (by simpa using h4.symm), h.nd⟩
theorem aR.putE (h : aR w P e c n t s) (hk : aw [e] w w') {l : List Tx} (hm : ax w' e (bd e8 l)) : aR w' P e c n t { s with enums := l } := by
 obtain ⟨h1, h2, h3, h4, h5, h6⟩ := h.nd; obtain ⟨lc, hc, hr⟩ := h.mc; obtain ⟨ln, hn, hq⟩ := h.mn; exact ⟨cP hk (by simpa using h.me.notbox h.box) h.box, hm, ⟨lc, hc.keptM hk (by simpa using h1.symm), hr.kept h.me hk⟩, ⟨ln, hn.keptM hk (by simpa using h2.symm), hq⟩, h.mt.keptM hk (by simpa using h3.symm), h.nd⟩
theorem aR.putT (h : aR w P e c n t s) (hk : aw [t] w w') {l : List Tx} (hm : ax w' t (bd e8 l)) : aR w' P e c n t { s with states := l } := by
 obtain ⟨h1, h2, h3, h4, h5, h6⟩ := h.nd; obtain ⟨lc, hc, hr⟩ := h.mc; obtain ⟨ln, hn, hq⟩ := h.mn; exact ⟨cP hk (by simpa using h.mt.notbox h.box) h.box, h.me.keptM hk (by simpa using h3), ⟨lc, hc.keptM hk (by simpa using h5), hr.kept h.mt hk⟩, ⟨ln, hn.keptM hk (by simpa using h6), hq⟩, hm, h.nd⟩
theorem aR.putC {m lc : List (Tx × Value)} {l : List (Tx × List Tx)} (h : aR w P e c n t s) (hm0 : ax w c m) (hk : aw [c] w w') (hm : ax w' c lc) (hr : fH w' lc l) : aR w' P e c n t { s with cons := l } := by
 obtain ⟨h1, h2, h3, h4, h5, h6⟩ := h.nd; obtain ⟨ln, hn, hq⟩ := h.mn; exact ⟨cP hk (by simpa using hm0.notbox h.box) h.box, h.me.keptM hk (by simpa using h1), ⟨lc, hm, hr⟩, ⟨ln, hn.keptM hk (by simpa using h4.symm), hq⟩, h.mt.keptM hk (by simpa using h5.symm), h.nd⟩
theorem aR.putN {m ln : List (Tx × Value)} {l : List (Tx × aA)} (h : aR w P e c n t s) (hm0 : ax w n m) (hk : aw [n] w w') (hm : ax w' n ln) (hr : iP ln l) : aR w' P e c n t { s with nodes := l } := by
 obtain ⟨h1, h2, h3, h4, h5, h6⟩ := h.nd; obtain ⟨lc, hc, hq⟩ := h.mc; exact ⟨cP hk (by simpa using hm0.notbox h.box) h.box, h.me.keptM hk (by simpa using h2), ⟨lc, hc.keptM hk (by simpa using h4), hq.kept hm0 hk⟩, ⟨ln, hm, hr⟩, h.mt.keptM hk (by simpa using h6.symm), h.nd⟩
end
theorem fH.snoc {w : World} {l : List (Tx × Value)} {cs : List (Tx × List Tx)} {v : Value} {names L : List Tx} (h : fH w l cs) (hv : te w v L) : fH w (l ++ bd v names) (cs ++ names.map λ c => (c, L)) := by
 have hlen : l.length = cs.length := (by have := congrArg List.length h.1; simpa [ay] using this); refine ⟨?_, λ i a b ha hb => ?_⟩
 . rw [ed, dC, h.1, List.map_append, List.map_map]; congr 1
   induction names with
   | nil => rfl
   | cons x r ih => rw [List.map_cons, <- ih]; rfl
 . by_cases hi : i < l.length
   . rw [List.getElem?_append_left hi] at ha; rw [List.getElem?_append_left zO] at hb; exact h.2 i a b ha hb
   . rw [List.getElem?_append_right zO] at ha; rw [List.getElem?_append_right zO] at hb; have h1 := List.mem_of_getElem? ha; have h2 := List.mem_of_getElem? hb; obtain ⟨x, _, rfl⟩ := List.mem_map.1 h1; obtain ⟨y, _, rfl⟩ := List.mem_map.1 h2; exact hv
theorem fH.sh {w : World} {l : List (Tx × Value)} {cs : List (Tx × List Tx)} (h : fH w l cs) : ∀ p ∈ l, ShE p.2 := by
 intro p hp; obtain ⟨i, hi⟩ := List.getElem?_of_mem hp; have hlen : l.length = cs.length := (by have := congrArg List.length h.1; simpa [ay] using this); have hl : i < cs.length := (by rw [<- hlen]; exact (List.getElem?_eq_some_iff.1 hi).1); obtain ⟨s, A, m, j, e, _⟩ := h.2 i p _ hi (List.getElem?_eq_getElem hl); exact ⟨s, A, m, j, e⟩
theorem iP.sh {l : List (Tx × Value)} {ns : List (Tx × aA)} (h : iP l ns) : ∀ p ∈ l, ShN p.2 := by
 intro p hp; obtain ⟨i, hi⟩ := List.getElem?_of_mem hp; have hlen : l.length = ns.length := (by have := congrArg List.length h.1; simpa [ay] using this); have hl : i < ns.length := (by rw [<- hlen]; exact (List.getElem?_eq_some_iff.1 hi).1); obtain ⟨s, A1, c1, A2, c2, A3, c3, A4, m4, c4, e⟩ := h.2 i p _ hi (List.getElem?_eq_getElem hl); exact ⟨s, A1, A2, A3, A4, _, c1, _, c2, _, c3, m4, c4, e⟩
theorem er (l : List Tx) : ∀ p ∈ bd e8 l, ShS p.2 := by
 intro p hp; obtain ⟨_, _, rfl⟩ := List.mem_map.1 hp; rfl
def fC : Obj := .cells #[.string ⟨#[70, 97, 108, 115, 101]⟩, .string ⟨#[84, 114, 117, 101]⟩] 9
theorem qR (w : World) : aF (w.alloc fC) (.slice (some ⟨w.heap.size, 0, none⟩) 2 2) eH :=
 ⟨_, 2, rfl, by decide, by unfold maxLen; omega, λ i x hx => by
   obtain ⟨x0, x1⟩ := bb (show (w.alloc fC).heap[w.heap.size]? = some (.cells #[.string (str [70, 97, 108, 115, 101]), .string (str [84, 114, 117, 101])] 9 (0, 0)) from heap_alloc_new w fC)
   match i with
   | 0 => cases hx; exact ⟨_, ⟨_, rfl, λ j u hu => by
       have hj : j = 0 := (by have := (List.getElem?_eq_some_iff.1 hu).1; simp at this; exact this)
       subst hj; cases hu
       simpa [Addr.add] using x0⟩, rfl, by unfold maxLen; decide⟩
   | 1 => cases hx; exact ⟨_, ⟨_, rfl, λ j u hu => by
       have hj : j = 0 := (by have := (List.getElem?_eq_some_iff.1 hu).1; simp at this; exact this)
       subst hj; cases hu
       simpa [Addr.add] using x1⟩, rfl, by unfold maxLen; decide⟩
   | i + 2 => simp [eH] at hx⟩
theorem gI (w : World) : Calls prog 47 #[] w λ e w' => e = .returned (.slice (some ⟨w.heap.size, 0, none⟩) 2 2) /\ w' = w.alloc fC := by
 go_enter func47, ntmps47
 go_wp2_with fail
 go_ret; exact ⟨rfl, rfl⟩
def Am (w : World) (e : Ending) (w' : World) : Prop :=
 ∃ P e1 c1 n1 t1, e = .returned (.pointer (some ⟨P, 0, none⟩)) /\ aR w' P e1 c1 n1 t1 aK.new /\ Below w.heap.size w w' /\ w.heap.size <= e1 /\ w.heap.size <= c1 /\ w.heap.size <= n1 /\ w.heap.size <= t1 /\ w.heap.size <= P
theorem wD : aV (ay []) eH = true := by decide
theorem Ey : ∀ p ∈ ([] : List (Tx × Value)), ShE p.2 := by simp
theorem Dq {w V : World} {P e1 c1 n1 t1 : Nat} (hV : Below w.heap.size w V) (hb : V.heap[P]? = some (.cells #[.map (some e1), .map (some c1), .map (some n1), .map (some t1)] 132 (0, 0)))
  (he : ax V e1 []) (hc : ax V c1 []) (hn : ax V n1 []) (ht : ax V t1 []) (hd : e1 ≠ c1 /\ e1 ≠ n1 /\ e1 ≠ t1 /\ c1 ≠ n1 /\ c1 ≠ t1 /\ n1 ≠ t1)
  (hl : w.heap.size <= e1 /\ w.heap.size <= c1 /\ w.heap.size <= n1 /\ w.heap.size <= t1 /\ w.heap.size <= P) {V2 w' : World} (hV2 : Below V.heap.size V V2) {A : Option Addr} {m j : Nat} (hE : aF V2 (.slice A m j) eH)
  (hk : aw [c1] V2 w') (hm : ax w' c1 ([] ++ bd (.agg #[.string ⟨#[]⟩, .slice A m j]) eH)) : Am w (.returned (.pointer (some ⟨P, 0, none⟩))) w' := by
 have h0 : aR V P e1 c1 n1 t1 ⟨[], [], [], []⟩ := ⟨hb, he, ⟨[], hc, rfl, by simp⟩, ⟨[], hn, rfl, by simp⟩, ht, hd⟩; have h2 := h0.under hV2; have hr : fH w' ([] ++ bd (.agg #[.string ⟨#[]⟩, .slice A m j]) eH) ([] ++ eH.map λ c => (c, eH)) := fH.snoc ⟨rfl, by simp⟩ ⟨_, A, m, j, rfl, hE.kept (hc.under hV2) hk⟩; refine ⟨P, e1, c1, n1, t1, rfl, h2.putC (hc.under hV2) hk hm hr, ?_, hl⟩; exact (hV.trans (hV2.mono hV.size)).trans (hk.below (by simpa using hl.2.1) (Nat.le_trans hV.size hV2.size))
theorem tO (w : World) : Calls prog 21 #[] w (Am w) := by
 have hmm := @run_makeMap prog; go_enter func21, ntmps21
 go_wp2_with fail
 clear hmm; generalize hV : ((((w.alloc (.map #[] 0)).alloc (.map #[] 0)).alloc (.map #[] 0)).alloc (.map #[] 0)).alloc (.cells #[.map (some w.heap.size), .map (some (w.heap.size + 1)), .map (some (w.heap.size + 1 + 1)), .map (some (w.heap.size + 1 + 1 + 1))] 132) = V; have a1 : Below w.heap.size w (w.alloc (.map #[] 0)) := (Below.refl _ w).alloc (Nat.le_refl _) _; have m1 := ax.made w; have m2 := ax.made (w.alloc (.map #[] 0)); have m3 := ax.made ((w.alloc (.map #[] 0)).alloc (.map #[] 0)); have m4 := ax.made (((w.alloc (.map #[] 0)).alloc (.map #[] 0)).alloc (.map #[] 0)); have m5 := heap_alloc_new ((((w.alloc (.map #[] 0)).alloc (.map #[] 0)).alloc (.map #[] 0)).alloc (.map #[] 0)) (.cells #[.map (some w.heap.size), .map (some (w.heap.size + 1)), .map (some (w.heap.size + 1 + 1)), .map (some (w.heap.size + 1 + 1 + 1))] 132); simp only [World.size_alloc] at m2 m3 m4 m5; have HV := zH (show Below w.heap.size w V by rw [<- hV]; exact ((((a1.alloc (by simp) _).alloc (by simp <;> omega) _).alloc (by simp <;> omega) _).alloc (by simp <;> omega) _))
 have al : ∀ (W : World) (o : Obj), Below W.heap.size W (W.alloc o) := λ W o => (Below.refl _ W).alloc (Nat.le_refl _) _; have H1 := zH (show ax V w.heap.size [] by rw [<- hV]; exact (((m1.under (al _ _)).under (al _ _)).under (al _ _)).under (al _ _)); have H2 := zH (show ax V (w.heap.size + 1) [] by rw [<- hV]; exact ((m2.under (al _ _)).under (al _ _)).under (al _ _)); have H3 := zH (show ax V (w.heap.size + 1 + 1) [] by rw [<- hV]; exact (m3.under (al _ _)).under (al _ _)); have H4 := zH (show ax V (w.heap.size + 1 + 1 + 1) [] by rw [<- hV]; exact m4.under (al _ _)); have H5 := zH (show V.heap[w.heap.size + 1 + 1 + 1 + 1]? = some (.cells #[.map (some w.heap.size), .map (some (w.heap.size + 1)), .map (some (w.heap.size + 1 + 1)), .map (some (w.heap.size + 1 + 1 + 1))] 132 (0, 0)) by rw [<- hV]; exact m5); clear hV m1 m2 m3 m4 m5 a1 al; have hlt := ab H5.o; obtain ⟨x0, x1, x2, x3⟩ := mr H5.o; refine wp_region_held_drew (S := (λ W => W.cell? ⟨w.heap.size + 1 + 1 + 1 + 1, 1, none⟩ = some (.map (some (w.heap.size + 1))))) zK ?_ (λ hHeld => ?_)
 . (try dsimp only); go_keep
 refine aa 0 ?_; refine aa 1 ?_; refine aa 2 ?_; refine aa 3 ?_; refine aq 4 zK rfl (λ K hK => ?_); go_simp
 (go_at_call 47
  (with_reducible refine (gI _).mono ?_); rintro e w7 ⟨rfl, rfl⟩; have B1 := zH (((zB V).drew.alloc (by simp) fC)); have S1 := zH (qR V.drew); obtain ⟨V1, hV1⟩ : ∃ W, W = V.drew.alloc fC := ⟨_, rfl⟩; rw [<- hV1] at B1 S1 ⊢; clear hV1; obtain ⟨x0, x1, x2, x3⟩ := mr (ao B1.o H5.o))
 refine hK.out _ _ ?_ (λ hHeld => ?_)
 . (try dsimp only); go_keep
 clear hK K; try simp only [Act.put, aO, aM, aN]
 refine aa 5 ?_; refine aq 6 zK rfl (λ K hK => ?_); go_simp
 (go_at_call 47
  (with_reducible refine (gI _).mono ?_); rintro e w7 ⟨rfl, rfl⟩; have B2 := zH (B1.o.alloc B1.o.size fC); have S2 := zH (qR V1); have S3 := zH (S1.o.under ((Below.refl _ V1).alloc (Nat.le_refl _) fC)); obtain ⟨V2, hV2⟩ : ∃ W, W = V1.alloc fC := ⟨_, rfl⟩; rw [<- hV2] at B2 S2 S3 ⊢; clear hV2; obtain ⟨x0, x1, x2, x3⟩ := mr (ao B2.o H5.o))
 refine hK.out _ _ ?_ (λ hHeld => ?_)
 . (try dsimp only); go_keep
 clear hK K; try simp only [Act.put, aO, aM, aN]
 refine aq 7 zK rfl (λ K hK => ?_); go_simp
 (go_at_call 46
  (with_reducible refine (od (H2.o.under B2.o) Ey S2.o).mono ?_); rintro e w7 ⟨he, hk, hm⟩; rw [wD] at he; subst he; obtain ⟨V3, rfl⟩ := zW w7; have HK := zH hk; have HM := zH (hm wD); have BX := zH (cP hk (by simp; omega) (ao B2.o H5.o)); obtain ⟨x0, x1, x2, x3⟩ := mr BX.o; clear hk hm)
 refine hK.out _ _ ?_ (λ hHeld => ?_)
 . (try dsimp only); go_keep
 clear hK K; try simp only [Act.put, aO, aM, aN]
 refine wpAnyH_done zK ?_ _; go_wp2_with fail
 go_ret; exact Dq HV.o H5.o H1.o H2.o H3.o H4.o zO zO B2.o S3.o HK.o HM.o
theorem pF {w : World} {g : Nat} {s : Tx} {T0 : TypeId} (h : w.heap[g]? = some (.cells #[.string (str s)] T0 (0, 0))) (hs : s.length <= maxLen) : aF w (.slice (some ⟨g, 0, none⟩) 1 1) [s] :=
 ⟨_, 1, rfl, by simp, by unfold maxLen; omega, λ i x hx => by
   match i with
   | 0 =>
     cases hx
     refine ⟨_, ⟨_, rfl, λ j u hu => ?_⟩, rfl, hs⟩
     have hj : j = 0 := (by have := (List.getElem?_eq_some_iff.1 hu).1; simp at this; exact this)
     subst hj; cases hu
     simpa [Addr.add] using oN h
   | i + 1 => simp at hx⟩
theorem bN (l : List Tx) : ay (bd e8 l) = l := dC _ _
theorem l8 (v : Value) (a b : List Tx) : bd v a ++ bd v b = bd v (a ++ b) := by simp [bd]
def ES (P e1 c1 n1 t1 : Nat) (s : aK) (q : fo) (w : World) (e : Ending) (w' : World) : Prop :=
 e = .returned (.bool (iM s q)) /\ aw [e1, c1] w w' /\ (iM s q = true -> aR w' P e1 c1 n1 t1 (s.addEnum q))
section
variable {w w' : World} {P e1 c1 n1 t1 : Nat} {s : aK}
theorem aR.row (h : aR w P e1 c1 n1 t1 s) : w.cell? ⟨P, 0, none⟩ = some (.map (some e1)) /\ w.cell? ⟨P, 1, none⟩ = some (.map (some c1)) /\ w.cell? ⟨P, 2, none⟩ = some (.map (some n1)) /\ w.cell? ⟨P, 3, none⟩ = some (.map (some t1)) := mr h.box
theorem fB {b : Nat} {l : List (Tx × Value)} {g : Nat} {cs : Array Value} {T0 : TypeId} (hm : ax w b l) (hk : aw [b] w w') (h : w.heap[g]? = some (.cells cs T0 (0, 0))) : w'.heap[g]? = some (.cells cs T0 (0, 0)) :=
 cP hk (by simpa using hm.notbox h) h
end
theorem wJ {w0 : World} {L : List Value} {q : fo} (hL : fW w0 L q) {w : World} {P e1 c1 n1 t1 : Nat} {s : aK} (hS : aR w P e1 c1 n1 t1 s) (hb : Below w0.heap.size w0 w) :
  Calls prog 22 #[.pointer (some ⟨P, 0, none⟩), .agg L.toArray] w (ES P e1 c1 n1 t1 s q w) := by
 obtain ⟨cv, rfl, hnl, hcs⟩ := hL; obtain ⟨A, m, j, rfl⟩ := ak.shape hcs; have HCS := zH (hcs.under hb); have HNL := zH hnl; have HS := zH hS; have hPl := ab hS.box; clear hcs hnl hS hb; go_enter func22, ntmps22
 go_wp2_with fail
 have hal : Below w.heap.size w (w.alloc (.cells #[.string (str q.name), .slice A m j] 74)) := (Below.refl _ w).alloc (Nat.le_refl _) _; have BX := zH (heap_alloc_new w (.cells #[.string (str q.name), .slice A m j] 74)); have HV := zH hal; generalize w.alloc (.cells #[.string (str q.name), .slice A m j] 74) = V at *; clear hal; have HSV := zH (HS.o.under HV.o); obtain ⟨x0, x1, _, _⟩ := HSV.o.row; obtain ⟨y0, y1⟩ := bb BX.o; have hVl := HV.o.size; refine wp_region_held_drew (S := (λ W => W.cell? ⟨P, 0, none⟩ = some (.map (some e1)) /\ W.cell? ⟨P, 1, none⟩ = some (.map (some c1)) /\ W.cell? ⟨w.heap.size, 0, none⟩ = some (.string (str q.name)) /\ W.cell? ⟨w.heap.size, 1, none⟩ = some (.slice A m j))) zK ?_ (λ hHeld => ?_)
 . (try dsimp only); go_keep
 refine aa 0 ?_; refine aa 1 ?_; refine aa 2 ?_; refine aa 3 ?_; refine aa 4 ?_; refine aa 5 ?_; refine aa 6 ?_; refine aq 7 zK rfl (λ K hK => ?_); go_simp
 refine hK.out _ _ ?_ (λ hHeld => ?_)
 . (try dsimp only); go_keep
 clear hK K; try simp only [Act.put, aO, aM, aN]
 have B1 := zH (zA V (.cells #[.string (str q.name)] 9)).drew; have NX := zH (show (V.alloc (.cells #[.string (str q.name)] 9)).drew.heap[V.heap.size]? = some (.cells #[.string (str q.name)] 9 (0, 0)) from heap_alloc_new V (.cells #[.string (str q.name)] 9)); generalize (V.alloc (.cells #[.string (str q.name)] 9)).drew = V1 at *; have HS1 := zH (HSV.o.under B1.o); cases hr : aV s.enums [q.name]
 . have HR := zH hr; have HE := zH (show iM s q = false by rw [iM, hr]; rfl); clear hr; refine aq 8 zK rfl (λ K hK => ?_); go_simp
   (go_at_call 48
    (with_reducible refine (cZ HS1.o.me (er _) (pF NX.o HNL.o)).mono ?_); rintro e w7 ⟨he, hk, _⟩; rw [bN, HR.o] at he; subst he; obtain ⟨V3, rfl⟩ := zW w7; have HK := zH hk; obtain ⟨x0, x1, _, _⟩ := mr (fB HS1.o.me hk HS1.o.box); obtain ⟨y0, y1⟩ := bb (fB HS1.o.me hk (ao B1.o BX.o)); clear hk)
   refine hK.out _ _ ?_ (λ hHeld => ?_)
   . (try dsimp only); go_keep
   clear hK K; try simp only [Act.put, aO, aM, aN]
   refine aa 9 ?_; refine ag 10 ?_; refine ag 11 ?_; refine ag 12 ?_; refine ag 13 ?_; refine ag 14 ?_; refine ag 15 ?_; refine ag 16 ?_; refine ag 17 ?_; refine aa 18 ?_; refine aa 19 ?_; refine wpAnyH_done zK ?_ _; go_wp2_with fail
   go_ret; exact ⟨ah HE.o.symm, ((aw.of_below HV.o).trans (aw.of_below (B1.o))).trans (HK.o.mono (by simp)), λ h => by rw [HE.o] at h; cases h⟩
 . have HR := zH hr; have HE := zH (show iM s q = aV s.conKeys q.cons by rw [iM, hr]; rfl); clear hr; refine aq 8 zK rfl (λ K hK => ?_); go_simp
   (go_at_call 48
    (with_reducible refine (cZ HS1.o.me (er _) (pF NX.o HNL.o)).mono ?_); rintro e w7 ⟨he, hk, hm⟩; rw [bN, HR.o] at he; subst he; obtain ⟨V3, rfl⟩ := zW w7; have HK := zH hk; have HM := zH (hm (by rw [bN]; exact HR.o)); obtain ⟨x0, x1, _, _⟩ := mr (fB HS1.o.me hk HS1.o.box); have BX3 := zH (fB HS1.o.me hk (ao B1.o BX.o)); obtain ⟨y0, y1⟩ := bb BX3.o; clear hk hm)
   refine hK.out _ _ ?_ (λ hHeld => ?_)
   . (try dsimp only); go_keep
   clear hK K; try simp only [Act.put, aO, aM, aN]
   have HS3 := zH (HS1.o.putE (l := s.enums ++ [q.name]) HK.o (by have := HM.o; rwa [show (.agg #[] : Value) = e8 from rfl, l8] at this)); have HC3 := zH (((HCS.o.under HV.o).under B1.o).kept HS1.o.me HK.o); obtain ⟨lc, hmc, hrc⟩ := HS3.o.mc; have HMC := zH hmc; have HRC := zH hrc; clear hmc hrc; refine aa 9 ?_; refine aa 10 ?_; refine aa 11 ?_; refine aa 12 ?_; refine aa 13 ?_; refine aa 14 ?_; refine aa 15 ?_; refine aa 16 ?_; refine aq 17 zK rfl (λ K hK => ?_); go_simp
   (go_at_call 46
    (with_reducible refine (od HMC.o HRC.o.sh HC3.o).mono ?_); rintro e w7 ⟨he, hk, hm⟩; subst he; obtain ⟨V4, rfl⟩ := zW w7; have HK4 := zH hk; have HM4 := zH hm; obtain ⟨x0, x1, _, _⟩ := mr (fB HMC.o hk HS3.o.box); obtain ⟨y0, y1⟩ := bb (fB HMC.o hk BX3.o); clear hk hm)
   refine hK.out _ _ ?_ (λ hHeld => ?_)
   . (try dsimp only); go_keep
   clear hK K; try simp only [Act.put, aO, aM, aN]
   refine aa 18 ?_; refine aa 19 ?_; refine wpAnyH_done zK ?_ _; go_wp2_with fail
   go_ret; have hkey : aV (ay lc) q.cons = iM s q := (by rw [HE.o, HRC.o.1]; rfl); refine ⟨ah hkey, (((aw.of_below HV.o).trans (aw.of_below (B1.o))).trans (HK.o.mono (by simp))).trans (HK4.o.mono (by simp)), λ h => ?_⟩; exact HS3.o.putC HMC.o HK4.o (HM4.o (hkey.trans h)) ((HRC.o.kept HMC.o HK4.o).snoc ⟨_, _, _, _, rfl, HC3.o.kept HMC.o HK4.o⟩)
end Go.Proofs.YtiholfmmphcbeaaGreatDoor
