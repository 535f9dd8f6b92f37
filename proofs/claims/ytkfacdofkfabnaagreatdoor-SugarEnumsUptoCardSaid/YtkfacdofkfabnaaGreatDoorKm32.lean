import Derived.Test.YtkfacdofkfabnaaGreatDoorKm23
import Derived.Test.YtkfacdofkfabnaaGreatDoorKm30
set_option maxHeartbeats 4000000
set_option maxRecDepth 100000
namespace Go.Proofs.YtkfacdofkfabnaaGreatDoor
open _root_.Go.Proofs.Tryz
open Go.RowKit
def FA (w0 : World) (y : Ex) (w : World) (e : Ending) (w' : World) : Prop := Below w.heap.size w w' /\ ∃ M, e = .returned (.agg M.toArray) /\ a7 (ij w0 (cj w.heap.size w')) M y
theorem Hs : gE 114 := enters_of func114 zK rfl
theorem EK {w0 : World} {B : Nat} {x : Tx} {q : QEq} {L : List Value} (hB : w0.heap[B]? = some (.cells #[.string (str x)] 9 (0, 0))) (hL : iH w0 L q) (hq : q.names ≠ []) (w : World) (hw : Below w0.heap.size w0 w) :
  Calls prog 114 (#[.agg L.toArray] ++ #[.pointer (some ⟨B, 0, none⟩)]) w (aA (cz q == x) w) := by
 obtain ⟨nv, L', rfl, hn, he⟩ := hL; obtain ⟨o1, s1, n1, A1, m1, k1, A2, m2, k2, rfl⟩ := he.shape; obtain ⟨c, r, hc⟩ : ∃ c r, q.names = c :: r := by cases hh : q.names with | nil => exact absurd hh hq | cons c r => exact ⟨c, r, rfl⟩
 obtain ⟨A, ca, rfl, h1, h2, h3⟩ := hn; obtain ⟨M, hM, rfl, hcl⟩ := h3 0 c (by rw [hc]; rfl); have hlen : q.names.length = r.length + 1 := (by rw [hc]; rfl); have hE := hM.under hw; obtain ⟨a, rfl, ha, haa, d0⟩ := et (hE.under (zA w (.cells #[.slice A q.names.length ca, .int .i64 o1, .string s1, .int .i64 n1, .slice A1 m1 k1, .slice A2 m2 k2] 41))); have hx0 : ((w.alloc (.cells #[.slice (some a) q.names.length ca, .int .i64 o1, .string s1, .int .i64 n1, .slice A1 m1 k1, .slice A2 m2 k2] 41))).cell? ⟨B, 0, none⟩ = some (.string (str x)) := by
  have h := ag (o := .cells #[.slice (some a) q.names.length ca, .int .i64 o1, .string s1, .int .i64 n1, .slice A1 m1 k1, .slice A2 m2 k2] 41) (ab hw hB); rw [cell_of_row _ _ _ _ _ _ h]; rfl
 have hb : (cz q == x) = ((str c).toList == (str x).toList) := by
  rw [show cz q = c by unfold cz; rw [hc]; rfl, ByteArray.toList_eq, ByteArray.toList_eq, aZ, aZ]
 rw [hb]; simp only [Nat.zero_mul, add_zero] at d0; rw [hlen] at d0 hx0 ⊢; clear hM hE hb h1 h2 h3 hlen he; go_enter func114, ntmps114
 go_wp2_with fail
 obtain ⟨y0, y1, y2, y3, y4, y5⟩ := uP (heap_alloc_new w (.cells #[.slice (some a) (r.length + 1) ca, .int .i64 o1, .string s1, .int .i64 n1, .slice A1 m1 k1, .slice A2 m2 k2] 41)); go_region; go_wp2_with fail
 go_ret; exact ⟨rfl, ((Below.refl _ w).alloc (Nat.le_refl _) _).drew⟩
theorem Hb {f : QEq -> Bool} {l : List QEq} {k : Nat} {y : QEq} (h : bY (λ y => !f y) l k) (hy : l[k]? = some y) (hf : f y = true) : l.find? f = some y := by
 induction l generalizing k with
 | nil => simp at hy
 | cons z r ih =>
   cases k with
   | zero => simp at hy; subst hy; rw [List.find?_cons, hf]
   | succ k =>
     have hz := h 0 z zO rfl; rw [List.find?_cons, show f z = false by simpa using hz]; exact ih (k := k) (λ i x hi hx => h (i + 1) x zO (by simpa using hx)) (by simpa using hy)
theorem vX {w0 : World} {va : Value} {l : List QEq} {f : QEq -> Bool} (ha : aw w0 (iH w0) va l) {g : FuncId} {cap : Array Value} (eg : ∀ (args : Array Value) (W : World), (callFunc g args).run prog W = .ok (.enter g args) W)
  (hf : ∀ x ∈ l, ∀ L, iH w0 L x -> ∀ w, Below w0.heap.size w0 w -> Calls prog g (#[.agg L.toArray] ++ cap) w (aA (f x) w)) (hone : ∃ x ∈ l, f x = true) :
  ∀ w, Below w0.heap.size w0 w -> Calls prog 113 #[va, .func (.func g) #[] cap] w (λ e w' => (∃ (n : Nat) (q : QEq), e = .returned (.int .i64 n) /\ l[n]? = some q /\ l.find? f = some q) /\ Below w.heap.size w w') := by
 intro w hw; obtain ⟨A, ca, rfl, hca, hma, hea⟩ := ha; have hla : l.length <= 9223372036854775807 := (by unfold maxLen at hma; omega); have HW0 := zH hw; have HONE := zH hone; have hsz0 := hw.size; clear hw hca hma hone; go_enter func113, ntmps113
 go_wp2_with fail
 go_loopg [8] l.length (λ g v wr => ∃ k : Nat, k + g = l.length /\ v = .int .i64 k /\ bY (λ y => !f y) l k /\ Below w.heap.size w wr)
 case atStart => exact ⟨0, by omega, rfl, bY.zero, Below.refl _ _⟩
 case round =>
  obtain ⟨k, hkg, rfl, hto, hbw⟩ := hrel; have HK := zH hkg; have HW := zH hbw; have HT := zH hto; have hszw := hbw.size; have hkl : k <= l.length := zO; clear hkg hbw hto; by_cases hlt : k < l.length
  . obtain ⟨y, hy⟩ := zG hlt; obtain ⟨L, hEM, hRM⟩ := hea k y hy; have HF := zH (hf y (List.mem_of_getElem? hy) L hRM); obtain ⟨A0, n0, k0, o1, s2, o3, A4, n4, k4, A5, n5, k5, rfl⟩ := hRM.shape; have HB0 := zH (HW0.o.trans (HW.o.mono hsz0)); have HY := zH hy; obtain ⟨a, rfl, hab, haa, d0, d1, d2, d3, d4, d5⟩ := iU (hEM.under HB0.o); clear hEM hea hf hy hRM; cases hfx : f y
    . have HFX := zH hfx; rw [hfx] at HF; clear hfx; go_wp2_with (go_at_fn g; refine (HF.o _ HB0.o).mono ?_; rintro e w1 ⟨rfl, hb1⟩)
      go_roundg (l.length - (k + 1))
      case measure => have := HK.o; omega
      case rel => exact ⟨k + 1, by omega, by go_num, HT.o.succ HY.o (by rw [HFX.o]; rfl), HW.o.trans (hb1.mono zO)⟩
    . have HFX := zH hfx; rw [hfx] at HF; clear hfx; go_wp2_with (go_at_fn g; refine (HF.o _ HB0.o).mono ?_; rintro e w1 ⟨rfl, hb1⟩)
      go_ret; exact ⟨⟨k, y, rfl, HY.o, Hb HT.o HY.o HFX.o⟩, HW.o.trans (hb1.mono zO)⟩
  . have hke : k = l.length := by omega
    obtain ⟨x, hx, hfx⟩ := HONE.o; have := List.all_eq_true.1 (HT.o.all hke) x hx; rw [hfx] at this; cases this
theorem wG {tmps : Array Value} {w : World} {N : Nat} {x0 x1 x2 x3 x4 : Value} (hp : tmps.getD 4 undef = .pointer (some ⟨N, 0, none⟩)) (hg : w.heap[N]? = some (.cells #[x0, x1, x2, x3, x4] 39 (0, 0))) :
  (results f64 tmps).run prog w = .ok (.agg #[x0, x1, x2, x3, x4]) w :=
 results_cell_row results64 tmps w N 39 _ (0, 0) _ hp hg underlying39 rfl eP
theorem Hw {w0 : World} {s : aM} {x : Tx} {L : List Value} (hL : bt w0 L s) (hx : ∃ r ∈ s.eqs, cz r = x) (hn : ∀ q ∈ s.eqs, q.names ≠ []) (w : World) (hw : Below w0.heap.size w0 w) :
  Calls prog 64 #[.agg L.toArray, .string (str x)] w (FA w0 (lR x s) w) := by
 obtain ⟨q, hq1, hq2, hq3⟩ := wg hx; rw [hq3]; obtain ⟨ev, wv, rfl, hsn, hev, hwv⟩ := hL; obtain ⟨A1, n1, k1, rfl⟩ := aw.shape hev; obtain ⟨A2, n2, k2, rfl⟩ := aw.shape hwv; have HW0 := zH hw; have HB0 := zH (((zA w (.cells #[.string (str s.name), .slice A1 n1 k1, .slice A2 n2 k2] 50)).alloc (by simp) (.cells #[.string (str x)] 9)).alloc (by simp; omega) (.cells #[.int .i64 0, .string ⟨#[]⟩, .int .i64 0, .slice none 0 0, .slice none 0 0] 39)); have HS := zH (ag (o := .cells #[.int .i64 0, .string ⟨#[]⟩, .int .i64 0, .slice none 0 0, .slice none 0 0] 39) (ag (o := .cells #[.string (str x)] 9) (heap_alloc_new w (.cells #[.string (str s.name), .slice A1 n1 k1, .slice A2 n2 k2] 50)))); have HX := zH (ag (o := .cells #[.int .i64 0, .string ⟨#[]⟩, .int .i64 0, .slice none 0 0, .slice none 0 0] 39) (aF (w := w.alloc (.cells #[.string (str s.name), .slice A1 n1 k1, .slice A2 n2 k2] 50)) (o := .cells #[.string (str x)] 9) (n := w.heap.size + 1) (by simp))); have HR := zH (aF (w := (w.alloc (.cells #[.string (str s.name), .slice A1 n1 k1, .slice A2 n2 k2] 50)).alloc (.cells #[.string (str x)] 9)) (o := .cells #[.int .i64 0, .string ⟨#[]⟩, .int .i64 0, .slice none 0 0, .slice none 0 0] 39) (n := w.heap.size + 1 + 1) (by simp)); have HB3 := zH (hw.trans (HB0.o.mono hw.size)); have HEV := zH (aw.mono hev HB3.o λ _ _ h => iH.under h HB3.o); have HONE := zH (show ∃ r ∈ s.eqs, (cz r == x) = true from ⟨q, hq2, List.find?_some (p := λ q => cz q == x) hq1⟩); have HN := zH hn; have HQ := zH hq1; have HV0 := zH hev; have HIX := zH (vX HEV.o Hs (cap := #[.pointer (some ⟨w.heap.size + 1, 0, none⟩)]) (λ y hy M hM W hW => EK HX.o hM (HN.o y hy) W hW) HONE.o); obtain ⟨x0, x1, x2⟩ := eG HS.o; clear hw hx hn hq3 hev hwv hsn hq1 hq2; go_enter func64, ntmps64
 go_wp2_with (first
  | (go_at_call 113; (with_reducible refine (HIX.o _ (Below.refl _ _)).mono ?_); rintro e w1 ⟨⟨n, q', rfl, hn, hfd⟩, hb1⟩; obtain ⟨V1, rfl⟩ := zW w1; obtain rfl : q = q' := by have := HQ.o; rw [hfd] at this; exact (Option.some.inj this).symm
     have HB1 := zH (HB0.o.trans (hb1.mono HB0.o.size)); have HS1 := zH (ab hb1 HS.o); have HR1 := zH (ab hb1 HR.o); obtain ⟨z0, z1, z2⟩ := eG HS1.o; obtain ⟨r0, r1, r2, r3, r4⟩ := aN HR1.o; have f0 := ar HR1.o 0; have f1 := ar HR1.o 1; have f2 := ar HR1.o 2; have f3 := ar HR1.o 3; have f4 := ar HR1.o 4; obtain ⟨Af, cf, ef, hc1, hc2, hc3⟩ := HV0.o; obtain ⟨Lq, hLq, hEq⟩ := hc3 n q hn; obtain ⟨nv, L', rfl, hnv, hex⟩ := hEq; have HEX := zH hex; obtain ⟨A3, n3, k3, rfl⟩ := aw.shape hnv; obtain ⟨o4, s4, i4, A5, n5, k5, A6, n6, k6, rfl⟩ := hex.shape; obtain ⟨rfl, rfl, rfl⟩ : A1 = Af /\ n1 = s.eqs.length /\ k1 = cf := by simpa using ef
     have hlt : n < s.eqs.length := (List.getElem?_eq_some_iff.1 hn).1; have hlen : s.eqs.length <= 9223372036854775807 := (by unfold maxLen at hc2; omega); obtain ⟨a, rfl, ha, haa, d0, d1, d2, d3, d4, d5⟩ := iU (hLq.under (HB3.o.trans (hb1.mono HB3.o.size))); clear hb1 hfd hn hLq hnv hex hc1 hc2 hc3 ef))
 refine bodyPost_ret (wG (N := w.heap.size + 1 + 1) rfl (bX _ _ _ _ _ HR1.o)) rfl ⟨bD HB1.o zO _ _ _ _ _, _, rfl, HEX.o.sub (vR _ _)⟩
def JJ (w0 : World) (g : FuncId) (cap : Array Value) (f : aM -> Ex) (ss : List aM) : Prop :=
 (∀ (args : Array Value) (W : World), (callFunc g args).run prog W = .ok (.enter g args) W) /\ ∀ s ∈ ss, ∀ L, bt w0 L s -> ∀ w, Below w0.heap.size w0 w -> Calls prog g (#[.agg L.toArray] ++ cap) w (FA w0 (f s) w)
theorem Hr : gE 63 := enters_of func63 zK rfl
theorem yM {tmps : Array Value} {w : World} {N : Nat} {x0 x1 x2 x3 x4 : Value} (hp : tmps.getD 3 undef = .pointer (some ⟨N, 0, none⟩)) (hg : w.heap[N]? = some (.cells #[x0, x1, x2, x3, x4] 39 (0, 0))) :
  (results f63 tmps).run prog w = .ok (.agg #[x0, x1, x2, x3, x4]) w :=
 results_cell_row results63 tmps w N 39 _ (0, 0) _ hp hg underlying39 rfl eP
theorem mL {w0 w V : World} {B B' : Nat} (h : Sub (cj B w) (cj B' V)) : Sub (ij w0 (cj B w)) (ij w0 (cj B' V)) := mM h
theorem Ch {w0 : World} {B : Nat} {x : Tx} {ss : List aM} (hB : w0.heap[B]? = some (.cells #[.string (str x)] 9 (0, 0))) (hx : ∀ s ∈ ss, ∃ r ∈ s.eqs, cz r = x) (hn : ∀ s ∈ ss, Fr s) :
  JJ w0 63 #[.pointer (some ⟨B, 0, none⟩)] (lR x) ss := by
 refine ⟨Hr, λ s hs L hL w hw => ?_⟩; have HD := zH (Hw hL (hx s hs) (hn s hs).names); obtain ⟨s0, A1, n1, k1, A2, n2, k2, rfl⟩ := hL.shape; have HW0 := zH hw; have HB0 := zH ((zA w (.cells #[.string s0, .slice A1 n1 k1, .slice A2 n2 k2] 50)).alloc (by simp) (.cells #[.int .i64 0, .string ⟨#[]⟩, .int .i64 0, .slice none 0 0, .slice none 0 0] 39)); have HB3 := zH (hw.trans (HB0.o.mono hw.size)); have HS := zH (ag (o := .cells #[.int .i64 0, .string ⟨#[]⟩, .int .i64 0, .slice none 0 0, .slice none 0 0] 39) (heap_alloc_new w (.cells #[.string s0, .slice A1 n1 k1, .slice A2 n2 k2] 50))); have HX := zH (ag (o := .cells #[.int .i64 0, .string ⟨#[]⟩, .int .i64 0, .slice none 0 0, .slice none 0 0] 39) (ag (o := .cells #[.string s0, .slice A1 n1 k1, .slice A2 n2 k2] 50) (ab hw hB))); have HR := zH (aF (w := w.alloc (.cells #[.string s0, .slice A1 n1 k1, .slice A2 n2 k2] 50)) (o := .cells #[.int .i64 0, .string ⟨#[]⟩, .int .i64 0, .slice none 0 0, .slice none 0 0] 39) (n := w.heap.size + 1) (by simp)); obtain ⟨x0, x1, x2⟩ := eG HS.o; have hx0 : ((w.alloc (.cells #[.string s0, .slice A1 n1 k1, .slice A2 n2 k2] 50)).alloc (.cells #[.int .i64 0, .string ⟨#[]⟩, .int .i64 0, .slice none 0 0, .slice none 0 0] 39)).cell? ⟨B, 0, none⟩ = some (.string (str x)) := by
  rw [cell_of_row _ _ _ _ _ _ HX.o]; rfl
 clear hL hw hx hn hs; go_enter func63, ntmps63
 go_wp2_with (first
  | (go_at_call 64; (with_reducible refine (HD.o _ HB3.o).mono ?_); rintro e w1 ⟨hb1, M, rfl, hM⟩; obtain ⟨V1, rfl⟩ := zW w1; have HB1 := zH (HB0.o.trans (hb1.mono HB0.o.size)); have HM := zH hM; have hz := hb1.size; have HR1 := zH (ab hb1 HR.o); obtain ⟨o4, s4, i4, A5, n5, k5, A6, n6, k6, rfl⟩ := hM.shape; obtain ⟨r0, r1, r2, r3, r4⟩ := aN HR1.o; have f0 := ar HR1.o 0; have f1 := ar HR1.o 1; have f2 := ar HR1.o 2; have f3 := ar HR1.o 3; have f4 := ar HR1.o 4; clear hb1 hM))
 refine bodyPost_ret (yM (N := w.heap.size + 1) rfl (bX _ _ _ _ _ HR1.o)) rfl ⟨bD HB1.o zO _ _ _ _ _, _, rfl, HM.o.sub (mL ?_)⟩; exact Sub.trans (aL.sub (dm (aL.refl _ V1) (.inl (by simp)) _ _ _ _ _)) (bj (by simp; omega) _)
end Go.Proofs.YtkfacdofkfabnaaGreatDoor
