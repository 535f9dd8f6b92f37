import Derived.Test.YtdcjlihaldhhjaaGreatDoorKm31
import Derived.Test.YtdcjlihaldhhjaaGreatDoorKm32
set_option maxHeartbeats 8000000
set_option maxRecDepth 100000
namespace Go.Proofs.YtdcjlihaldhhjaaGreatDoor
open _root_.Go.Proofs.Tryz
open Go.RowKit
theorem tL {w0 : World} {va : Value} {l : List Tx} {f : Tx -> Bool} (ha : aw w0 nF va l) {g : FuncId} {cap : Array Value} (eg : ∀ (args : Array Value) (W : World), (callFunc g args).run prog W = .ok (.enter g args) W)
  (hf : ∀ x ∈ l, x.length <= maxLen -> ∀ w, Below w0.heap.size w0 w -> Calls prog g (#[.string (str x)] ++ cap) w (ax (f x) w)) :
  ∀ w, Below w0.heap.size w0 w -> Calls prog 143 #[va, .func (.func g) #[] cap] w (λ e w' => (∃ n : Int, e = .returned (.int .i64 n) /\ decide (0 <= n) = l.any f) /\ Below w.heap.size w w') := by
 intro w hw; obtain ⟨A, ca, rfl, hca, hma, hea⟩ := ha; have hla : l.length <= 9223372036854775807 := (by unfold maxLen at hma; omega); have HW0 := zH hw; have hsz0 := hw.size; clear hw hca hma; go_enter func143, ntmps143
 go_wp2_with fail
 go_loopg [8] l.length (λ g v wr => ∃ k : Nat, k + g = l.length /\ v = .int .i64 k /\ bL (λ y => !f y) l k /\ Below w.heap.size w wr)
 case atStart => exact ⟨0, by omega, rfl, bL.zero, Below.refl _ _⟩
 case round =>
  obtain ⟨k, hkg, rfl, hto, hbw⟩ := hrel; have HK := zH hkg; have HW := zH hbw; have HT := zH hto; have hszw := hbw.size; have hkl : k <= l.length := zO; clear hkg hbw hto; by_cases hlt : k < l.length
  . obtain ⟨y, hy⟩ := zG hlt; obtain ⟨L, hEM, rfl, hxl⟩ := hea k y hy; have HF := zH (hf y (List.mem_of_getElem? hy) hxl); have HB0 := zH (HW0.o.trans (HW.o.mono hsz0)); have HY := zH hy; obtain ⟨a, rfl, hab, haa, d0⟩ := ez (hEM.under HB0.o); rw [Nat.mul_one] at d0; clear hEM hea hf hy; cases hfx : f y
    . have HFX := zH hfx; rw [hfx] at HF; clear hfx; go_wp2_with (go_at_fn g; refine (HF.o _ HB0.o).mono ?_; rintro e w1 ⟨rfl, hb1⟩)
      go_roundg (l.length - (k + 1))
      case measure => have := HK.o; omega
      case rel => exact ⟨k + 1, by omega, by go_num, HT.o.succ HY.o (by rw [HFX.o]; rfl), HW.o.trans (hb1.mono zO)⟩
    . have HFX := zH hfx; rw [hfx] at HF; clear hfx; go_wp2_with (go_at_fn g; refine (HF.o _ HB0.o).mono ?_; rintro e w1 ⟨rfl, hb1⟩)
      go_ret; exact ⟨⟨_, rfl, by rw [List.any_eq_true.2 ⟨y, List.mem_of_getElem? HY.o, HFX.o⟩]; simp⟩, HW.o.trans (hb1.mono zO)⟩
  . have hke : k = l.length := by omega
    have HKE := zH hke; clear hke; go_wp2_with fail
    go_ret; exact ⟨⟨_, rfl, by rw [wB (HT.o.all HKE.o)]; rfl⟩, HW.o⟩
theorem f8 {w0 : World} {va : Value} {l : List Tx} {f : Tx -> Bool} (ha : aw w0 nF va l) {g : FuncId} {cap : Array Value} (eg : ∀ (args : Array Value) (W : World), (callFunc g args).run prog W = .ok (.enter g args) W)
  (hf : ∀ x ∈ l, x.length <= maxLen -> ∀ w, Below w0.heap.size w0 w -> Calls prog g (#[.string (str x)] ++ cap) w (ax (f x) w)) :
  ∀ w, Below w0.heap.size w0 w -> Calls prog 107 #[va, .func (.func g) #[] cap] w (ax (l.any f) w) := by
 intro w hw; have H := zH (tL ha eg hf w hw); obtain ⟨A, ca, rfl, _⟩ := ha; clear hw hf; go_enter func107, ntmps107
 go_wp2_with (go_at_call 143; refine H.o.mono ?_; rintro e w1 ⟨⟨n, rfl, hn⟩, hb1⟩; have HN := zH hn; clear hn)
 go_ret; exact ⟨aj HN.o, hb1⟩
theorem tK {w0 : World} {va : Value} {l : List gW} {f : gW -> Bool} (ha : aw w0 (eK w0) va l) {g : FuncId} {cap : Array Value} (eg : ∀ (args : Array Value) (W : World), (callFunc g args).run prog W = .ok (.enter g args) W)
  (hf : ∀ x ∈ l, ∀ L, eK w0 L x -> ∀ w, Below w0.heap.size w0 w -> Calls prog g (#[.agg L.toArray] ++ cap) w (ax (f x) w)) :
  ∀ w, Below w0.heap.size w0 w -> Calls prog 196 #[va, .func (.func g) #[] cap] w (λ e w' => (∃ n : Int, e = .returned (.int .i64 n) /\ decide (0 <= n) = l.any f) /\ Below w.heap.size w w') := by
 intro w hw; obtain ⟨A, ca, rfl, hca, hma, hea⟩ := ha; have hla : l.length <= 9223372036854775807 := (by unfold maxLen at hma; omega); have HW0 := zH hw; have hsz0 := hw.size; clear hw hca hma; go_enter func196, ntmps196
 go_wp2_with fail
 go_loopg [8] l.length (λ g v wr => ∃ k : Nat, k + g = l.length /\ v = .int .i64 k /\ bL (λ y => !f y) l k /\ Below w.heap.size w wr)
 case atStart => exact ⟨0, by omega, rfl, bL.zero, Below.refl _ _⟩
 case round =>
  obtain ⟨k, hkg, rfl, hto, hbw⟩ := hrel; have HK := zH hkg; have HW := zH hbw; have HT := zH hto; have hszw := hbw.size; have hkl : k <= l.length := zO; clear hkg hbw hto; by_cases hlt : k < l.length
  . obtain ⟨y, hy⟩ := zG hlt; obtain ⟨L, hEM, hRM⟩ := hea k y hy; have HF := zH (hf y (List.mem_of_getElem? hy) L hRM); obtain ⟨o0, s1, o2, A3, n3, k3, A4, n4, k4, s5, rfl⟩ := hRM.shape; have HB0 := zH (HW0.o.trans (HW.o.mono hsz0)); have HY := zH hy; obtain ⟨a, rfl, hab, haa, d0, d1, d2, d3, d4, d5⟩ := lp (hEM.under HB0.o); clear hEM hea hf hy hRM; cases hfx : f y
    . have HFX := zH hfx; rw [hfx] at HF; clear hfx; go_wp2_with (go_at_fn g; refine (HF.o _ HB0.o).mono ?_; rintro e w1 ⟨rfl, hb1⟩)
      go_roundg (l.length - (k + 1))
      case measure => have := HK.o; omega
      case rel => exact ⟨k + 1, by omega, by go_num, HT.o.succ HY.o (by rw [HFX.o]; rfl), HW.o.trans (hb1.mono zO)⟩
    . have HFX := zH hfx; rw [hfx] at HF; clear hfx; go_wp2_with (go_at_fn g; refine (HF.o _ HB0.o).mono ?_; rintro e w1 ⟨rfl, hb1⟩)
      go_ret; exact ⟨⟨_, rfl, by rw [List.any_eq_true.2 ⟨y, List.mem_of_getElem? HY.o, HFX.o⟩]; simp⟩, HW.o.trans (hb1.mono zO)⟩
  . have hke : k = l.length := by omega
    have HKE := zH hke; clear hke; go_wp2_with fail
    go_ret; exact ⟨⟨_, rfl, by rw [wB (HT.o.all HKE.o)]; rfl⟩, HW.o⟩
theorem pd {w0 : World} {va : Value} {l : List gW} {f : gW -> Bool} (ha : aw w0 (eK w0) va l) {g : FuncId} {cap : Array Value} (eg : ∀ (args : Array Value) (W : World), (callFunc g args).run prog W = .ok (.enter g args) W)
  (hf : ∀ x ∈ l, ∀ L, eK w0 L x -> ∀ w, Below w0.heap.size w0 w -> Calls prog g (#[.agg L.toArray] ++ cap) w (ax (f x) w)) :
  ∀ w, Below w0.heap.size w0 w -> Calls prog 177 #[va, .func (.func g) #[] cap] w (ax (l.any f) w) := by
 intro w hw; have H := zH (tK ha eg hf w hw); obtain ⟨A, ca, rfl, _⟩ := ha; clear hw hf; go_enter func177, ntmps177
 go_wp2_with (go_at_call 196; refine H.o.mono ?_; rintro e w1 ⟨⟨n, rfl, hn⟩, hb1⟩; have HN := zH hn; clear hn)
 go_ret; exact ⟨aj HN.o, hb1⟩
def rQ (k : Int) (s : Tx) : List Tx -> Int
 | [] => -1
 | x :: r => if x = s then k else rQ (k + 1) s r
def Be (l : List Tx) (s : Tx) : Int := rQ 0 s l
theorem Bf (s : Tx) (l : List Tx) : ∀ k : Int, 0 <= k -> decide (0 <= rQ k s l) = l.contains s := by
 induction l with
 | nil => intro k _; simp [rQ]
 | cons x r ih =>
   intro k hk; unfold rQ; by_cases h : x = s
   . rw [if_pos h]; subst h; simp [hk]
   . rw [if_neg h, ih (k + 1) zO]; simp; intro e; exact absurd e.symm h
theorem yJ {va : Value} {l : List Tx} {w : World} (ha : aG w va l) (s : Tx) : Calls prog 195 #[va, .string (str s)] w λ e w' => e = .returned (.int .i64 (Be l s)) /\ w = w' := by
 obtain ⟨A, c, rfl, hlc, hmc, he⟩ := ha; have hll : l.length <= 9223372036854775807 := (by unfold maxLen at hmc; omega); have HE := zH he; clear he hlc hmc; go_enter func195, ntmps195
 go_wp2_with fail
 go_loop [8] (λ v => ∃ k : Nat, k <= l.length /\ v = .int .i64 k /\ Be l s = rQ k s (l.drop k)) (λ v => l.length - (intOf v).toNat)
 case atStart => exact ⟨0, Nat.zero_le _, rfl, rfl⟩
 case round =>
  obtain ⟨k, hk, rfl, hr⟩ := hrel; have HR := zH hr; clear hr; by_cases hlt : k < l.length
  . obtain ⟨x, hx⟩ := zG hlt; obtain ⟨L, hEL, rfl, _⟩ := HE.o k x hx; obtain ⟨a, rfl, _, _, c0⟩ := ez hEL; rw [Nat.mul_one] at c0; have HD := zH (cx hx); clear hx hEL; by_cases hxs : x = s
    . have hb : ((str s).toList == (str x).toList) = true := by rw [hxs]; simp
      have HN := zH (show Be l s = k by rw [HR.o, HD.o, rQ, if_pos hxs]); clear hxs; go_wp2_with fail
      go_ret; exact ⟨gf HN.o.symm, rfl⟩
    . have hb : ((str s).toList == (str x).toList) = false := by rw [cR, cR]; simp; exact λ e => hxs e.symm
      have HN := zH (show Be l s = rQ ((k + 1 : Nat) : Int) s (l.drop (k + 1)) by rw [HR.o, HD.o, rQ, if_neg hxs]; rfl); clear hxs; go_wp2_with fail
      go_round
      case rel => exact ⟨k + 1, by omega, by go_num, HN.o⟩
      case measure => simp [intOf]; omega
  . have hke : k = l.length := by omega
    have HN := zH (show Be l s = -1 by rw [HR.o, hke, List.drop_length]; rfl); clear hke; go_wp2_with fail
    go_ret; exact ⟨gf HN.o.symm, rfl⟩
theorem pJ {va : Value} {l : List Tx} {w : World} (ha : aG w va l) (s : Tx) : Calls prog 176 #[va, .string (str s)] w λ e w' => e = .returned (.bool (l.contains s)) /\ w = w' := by
 have H := zH (yJ ha s); have HP := zH (Bf s l 0 zO); obtain ⟨A, c, rfl, _⟩ := ha; go_enter func176, ntmps176
 go_wp2_with (go_at_call 195; refine H.o.mono ?_; rintro e w1 ⟨rfl, rfl⟩)
 go_ret; exact ⟨aj HP.o, rfl⟩
end Go.Proofs.YtdcjlihaldhhjaaGreatDoor
namespace Go.Proofs.YtdcjlihaldhhjaaGreatDoor
open _root_.Go.Proofs.Tryz
open Go.RowKit
open Go.ChangeMaps Go.MapKept
open Go.Maps
theorem Bz : jD 197 := enters_of func197 zK rfl
section
variable {S P e1 c1 n1 t1 f1 v1 : Nat} {nd : Value × Value × Value × Value × Value} {s : eD}
theorem zg {w0 : World} (h : du w0 S P e1 c1 n1 t1 f1 v1 nd s) {N : Nat} (hN : w0.heap[N]? = some (.cells #[.pointer (some ⟨S, 0, none⟩)] 117 (0, 0))) {x : Tx} (hl : x.length <= maxLen) :
  ∀ w, Below w0.heap.size w0 w -> Calls prog 197 #[.string (str x), .pointer (some ⟨N, 0, none⟩)] w (ax (!jH s x) w) := by
 intro w hw; have H := zH (rp (h.under hw) hl); have x0 := mO (ag hw hN); clear h hN hl hw; go_enter func197, ntmps197
 go_wp2_with (go_at_call 198; (with_reducible refine H.o.mono ?_); rintro e w1 ⟨rfl, hb1⟩)
 go_ret; exact ⟨rfl, hb1⟩
theorem Ea {w : World} {N : Nat} {T0 : TypeId} {v0 : Value} (h : w.heap[N]? = some (.cells #[v0] T0 (0, 0))) : w.cell? ⟨N, 0, none⟩ = some v0 /\ True := ⟨mO h, trivial⟩
theorem Dq (l : List Tx) : ((l.length : Int) == 0) = l.isEmpty := by
 cases l with
 | nil => rfl
 | cons a b => simp; omega
theorem zf {w : World} (h : du w S P e1 c1 n1 t1 f1 v1 nd s) {op n : Int} {nm : Tx} {A B : Option Addr} {cs : List Tx} {ca k kc : Nat} (hnm : nm.length <= maxLen) (hcs : aG w (.slice A cs.length ca) cs) (results : Int) :
  Calls prog 179 #[.pointer (some ⟨S, 0, none⟩), .agg #[.int .i64 op, .string (str nm), .int .i64 n, .slice A cs.length ca, .slice B k kc], .int .i64 results] w (ax (gU s nm cs k results) w) := by
 have HS := zH h; have HNM := zH hnm; have HCS := zH hcs; have hmf : ∀ (fn : Fn) (first cap : Array Value) (w : World), (Instr.makeFunc fn first cap).run prog w = .ok (.func fn first cap) w := λ _ _ _ _ => rfl; have hlc : cs.length <= 9223372036854775807 := (by obtain ⟨_, _, e, h1, h2, _⟩ := hcs; injection e with _ _ e3; unfold maxLen at h2; omega); clear h hnm hcs; go_enter func179, ntmps179
 go_wp2_with fail
 have a1 : Below w.heap.size w (w.alloc (.cells #[.pointer (some ⟨S, 0, none⟩)] 117)) := (Below.refl _ w).alloc (Nat.le_refl _) _; have HV := zH (a1.alloc (by simp) (.cells #[.int .i64 op, .string (str nm), .int .i64 n, .slice A cs.length ca, .slice B k kc] 25)); have B1 := zH (aQ (o := .cells #[.int .i64 op, .string (str nm), .int .i64 n, .slice A cs.length ca, .slice B k kc] 25) (heap_alloc_new w (.cells #[.pointer (some ⟨S, 0, none⟩)] 117))); have B2 := zH (show ((w.alloc (.cells #[.pointer (some ⟨S, 0, none⟩)] 117)).alloc (.cells #[.int .i64 op, .string (str nm), .int .i64 n, .slice A cs.length ca, .slice B k kc] 25)).heap[w.heap.size + 1]? = some (.cells #[.int .i64 op, .string (str nm), .int .i64 n, .slice A cs.length ca, .slice B k kc] 25 (0, 0)) from aB (by simp)); generalize (w.alloc (.cells #[.pointer (some ⟨S, 0, none⟩)] 117)).alloc (.cells #[.int .i64 op, .string (str nm), .int .i64 n, .slice A cs.length ca, .slice B k kc] 25) = V at *; clear a1; have HSV := zH (HS.o.under HV.o); have x0 := mO B1.o; obtain ⟨y0, y1, y2, y3, y4, y5, y6, y7⟩ := fq HSV.o.box; obtain ⟨z0, z1, z2, z3, z4⟩ := aN B2.o; refine wp_region_held_drew (S := (λ W => W.cell? ⟨w.heap.size, 0, none⟩ = some (.pointer (some ⟨S, 0, none⟩)) /\ W.cell? ⟨S, 6, none⟩ = some (.map (some f1)) /\ W.cell? ⟨w.heap.size + 1, 1, none⟩ = some (.string (str nm)))) zK ?_ (λ hHeld => ?_)
 . (try dsimp only); go_keep
 refine aa 0 ?_; refine aa 1 ?_; refine aa 2 ?_; refine aa 3 ?_; refine aa 4 ?_; refine aa 5 ?_; refine au 6 zK rfl (λ K hK => ?_); go_simp
 (go_at_call 103
  (with_reducible refine (d9 (HSV.o.under (Below.refl _ V).drew).mf (dI _) HNM.o).mono ?_); rintro e w7 ⟨he, hb7⟩; rw [bN] at he; subst he; obtain ⟨V', rfl⟩ := zW w7; have HV' := zH ((zB V).drew.trans hb7); have B1' := zH (ag HV'.out B1.o); have B2' := zH (ag HV'.out B2.o); have HS' := zH (HSV.o.under HV'.out); have x0 := mO B1'.out; obtain ⟨y0, y1, y2, y3, y4, y5, y6, y7⟩ := fq HS'.out.box; obtain ⟨z0, z1, z2, z3, z4⟩ := aN B2'.out; clear hb7)
 refine hK.out _ _ ?_ (λ hHeld => ?_)
 . (try dsimp only); go_keep
 clear hK K; try simp only [Act.put, aK, aI, aJ]
 refine wpAnyH_done zK ?_ _; cases hc : s.funs.contains nm
 . have HCF := zH hc; clear hc; obtain ⟨ln, hmn, hrn⟩ := HS'.out.prog.mn; have HMN := zH hmn; cases hg : mS s.prog.nodes nm with
   | none =>
     have HQ := zH (show gU s nm cs k results = false by rw [gU, HCF.o, hg]; rfl); have hkn : nm ∉ ln.map Prod.fst := (by have := lX hg; rw [<- hrn.1] at this; exact this); clear hg hmn hrn; go_wp2_with fail
     have HRUN := zH (λ (W : World) (hW : Below V'.heap.size V' W) => (HMN.o.under hW).look_no underlying110 (zw W) HNM.o hkn)
     have KEEP := zH (show ∀ W, Below V'.heap.size V' W -> (λ W => W.cell? ⟨w.heap.size, 0, none⟩ = some (.pointer (some ⟨S, 0, none⟩)) /\ W.cell? ⟨S, 0, none⟩ = some (.pointer (some ⟨P, 0, none⟩)) /\ W.cell? ⟨P, 2, none⟩ = some (.map (some n1)) /\ W.cell? ⟨w.heap.size + 1, 1, none⟩ = some (.string (str nm)) /\ (Instr.lookup 110 (.map (some n1)) (.string (str nm)) true).run prog W = .ok (.tuple #[.agg #[.string ⟨#[]⟩, .slice none 0 0, .slice none 0 0, .slice none 0 0, .slice none 0 0], .bool false]) W) W from
      λ W hW => by
       obtain ⟨a1, _⟩ := Ea (ag hW B1'.out); obtain ⟨b0, _⟩ := fq (ag hW HS'.out.box); obtain ⟨_, _, d2, _⟩ := (HS'.out.under hW).prog.row; obtain ⟨_, g1, _⟩ := aN (ag hW B2'.out); exact ⟨a1, b0, d2, g1, HRUN.o W hW⟩)
     refine wp_region_held_drew (S := (λ W => W.cell? ⟨w.heap.size, 0, none⟩ = some (.pointer (some ⟨S, 0, none⟩)) /\ W.cell? ⟨S, 0, none⟩ = some (.pointer (some ⟨P, 0, none⟩)) /\ W.cell? ⟨P, 2, none⟩ = some (.map (some n1)) /\ W.cell? ⟨w.heap.size + 1, 1, none⟩ = some (.string (str nm)) /\ (Instr.lookup 110 (.map (some n1)) (.string (str nm)) true).run prog W = .ok (.tuple #[.agg #[.string ⟨#[]⟩, .slice none 0 0, .slice none 0 0, .slice none 0 0, .slice none 0 0], .bool false]) W)) zK ?_ (λ hHeld => ?_)
     . exact KEEP.o _ (Below.refl _ _).drew
     refine aa 0 ?_; refine aa 1 ?_; refine aa 2 ?_; refine aa 3 ?_; refine aa 4 ?_; refine aa 5 ?_; refine aa 6 ?_; refine aa 7 ?_; refine aa 8 ?_; refine aa 9 ?_; refine aa 10 ?_; refine aa 11 ?_; refine aa 12 ?_; refine au 13 zK rfl (λ K hK => ?_); go_simp
     refine hK.out _ _ (KEEP.o _ ?_) (λ hHeld => ?_)
     . (repeat (first | exact Below.refl _ _ | exact Below.refl _ _ | refine Below.drew ?_ | refine Below.alloc ?_ (by simp) _ | refine Below.setCell ?_ (by simp) _))
     clear hK K; try simp only [Act.put, aK, aI, aJ]
     refine au 14 zK rfl (λ K hK => ?_); go_simp
     refine hK.out _ _ (KEEP.o _ ?_) (λ hHeld => ?_)
     . (repeat (first | exact Below.refl _ _ | exact Below.refl _ _ | refine Below.drew ?_ | refine Below.alloc ?_ (by simp) _ | refine Below.setCell ?_ (by simp) _))
     clear hK K; try simp only [Act.put, aK, aI, aJ]
     refine aa 15 ?_; refine wpAnyH_done zK ?_ _; have HV2 := zH (show Below V'.heap.size V' (V'.alloc (.cells #[.string ⟨#[]⟩, .slice none 0 0, .slice none 0 0, .slice none 0 0, .slice none 0 0] 34)).drew from ((Below.refl _ V').alloc (Nat.le_refl _) _).drew); have BN := zH (show (V'.alloc (.cells #[.string ⟨#[]⟩, .slice none 0 0, .slice none 0 0, .slice none 0 0, .slice none 0 0] 34)).drew.heap[V'.heap.size]? = some (.cells #[.string ⟨#[]⟩, .slice none 0 0, .slice none 0 0, .slice none 0 0, .slice none 0 0] 34 (0, 0)) from heap_alloc_new V' _); generalize (V'.alloc (.cells #[.string ⟨#[]⟩, .slice none 0 0, .slice none 0 0, .slice none 0 0, .slice none 0 0] 34)).drew = V2 at *; have B22 := zH (ag HV2.o B2'.out); obtain ⟨r0, r1, r2, r3, r4⟩ := aN B22.o; obtain ⟨s0, s1, s2, s3, s4⟩ := aN BN.o
     go_wp2_with fail
     go_ret
     exact ⟨aj HQ.o.symm, (HV.o.trans (HV'.out.mono HV.o.size)).trans (HV2.o.mono (Nat.le_trans HV.o.size HV'.out.size))⟩
   | some q =>
     obtain ⟨v, hv, sN, A1, c1', A2, c2', A3, c3', A4, m4, c4', rfl⟩ := hrn.find hg
     have HCQ := zH (show gU s nm cs k results = (q.ins.length == k && (q.funs.length == cs.length && ((q.outs.length : Int) == results && cs.all (jH s)))) by rw [gU, HCF.o, hg]; rfl)
     clear hg hmn hrn
     go_wp2_with fail
     have HRUN := zH (λ (W : World) (hW : Below V'.heap.size V' W) => (HMN.o.under hW).look_yes underlying110 hv)
     have KEEP := zH (show ∀ W, Below V'.heap.size V' W -> (λ W => W.cell? ⟨w.heap.size, 0, none⟩ = some (.pointer (some ⟨S, 0, none⟩)) /\ W.cell? ⟨S, 0, none⟩ = some (.pointer (some ⟨P, 0, none⟩)) /\ W.cell? ⟨P, 2, none⟩ = some (.map (some n1)) /\ W.cell? ⟨w.heap.size + 1, 1, none⟩ = some (.string (str nm)) /\ (Instr.lookup 110 (.map (some n1)) (.string (str nm)) true).run prog W = .ok (.tuple #[.agg #[.string sN, .slice A1 q.funs.length c1', .slice A2 q.ins.length c2', .slice A3 q.outs.length c3', .slice A4 m4 c4'], .bool true]) W) W from
      λ W hW => by
       obtain ⟨a1, _⟩ := Ea (ag hW B1'.out)
       obtain ⟨b0, _⟩ := fq (ag hW HS'.out.box)
       obtain ⟨_, _, d2, _⟩ := (HS'.out.under hW).prog.row
       obtain ⟨_, g1, _⟩ := aN (ag hW B2'.out)
       exact ⟨a1, b0, d2, g1, HRUN.o W hW⟩)
     refine wp_region_held_drew (S := (λ W => W.cell? ⟨w.heap.size, 0, none⟩ = some (.pointer (some ⟨S, 0, none⟩)) /\ W.cell? ⟨S, 0, none⟩ = some (.pointer (some ⟨P, 0, none⟩)) /\ W.cell? ⟨P, 2, none⟩ = some (.map (some n1)) /\ W.cell? ⟨w.heap.size + 1, 1, none⟩ = some (.string (str nm)) /\ (Instr.lookup 110 (.map (some n1)) (.string (str nm)) true).run prog W = .ok (.tuple #[.agg #[.string sN, .slice A1 q.funs.length c1', .slice A2 q.ins.length c2', .slice A3 q.outs.length c3', .slice A4 m4 c4'], .bool true]) W)) zK ?_ (λ hHeld => ?_)
     . exact KEEP.o _ (Below.refl _ _).drew
     refine aa 0 ?_
     refine aa 1 ?_
     refine aa 2 ?_
     refine aa 3 ?_
     refine aa 4 ?_
     refine aa 5 ?_
     refine aa 6 ?_
     refine aa 7 ?_
     refine aa 8 ?_
     refine aa 9 ?_
     refine aa 10 ?_
     refine aa 11 ?_
     refine aa 12 ?_
     refine au 13 zK rfl (λ K hK => ?_)
     go_simp
     refine hK.out _ _ (KEEP.o _ ?_) (λ hHeld => ?_)
     . (repeat (first | exact Below.refl _ _ | exact Below.refl _ _ | refine Below.drew ?_ | refine Below.alloc ?_ (by simp) _ | refine Below.setCell ?_ (by simp) _))
     clear hK K
     try simp only [Act.put, aK, aI, aJ]
     refine au 14 zK rfl (λ K hK => ?_)
     go_simp
     refine hK.out _ _ (KEEP.o _ ?_) (λ hHeld => ?_)
     . (repeat (first | exact Below.refl _ _ | exact Below.refl _ _ | refine Below.drew ?_ | refine Below.alloc ?_ (by simp) _ | refine Below.setCell ?_ (by simp) _))
     clear hK K
     try simp only [Act.put, aK, aI, aJ]
     refine aa 15 ?_
     refine wpAnyH_done zK ?_ _
     have HV2 := zH (show Below V'.heap.size V' (V'.alloc (.cells #[.string sN, .slice A1 q.funs.length c1', .slice A2 q.ins.length c2', .slice A3 q.outs.length c3', .slice A4 m4 c4'] 34)).drew from ((Below.refl _ V').alloc (Nat.le_refl _) _).drew)
     have BN := zH (show (V'.alloc (.cells #[.string sN, .slice A1 q.funs.length c1', .slice A2 q.ins.length c2', .slice A3 q.outs.length c3', .slice A4 m4 c4'] 34)).drew.heap[V'.heap.size]? = some (.cells #[.string sN, .slice A1 q.funs.length c1', .slice A2 q.ins.length c2', .slice A3 q.outs.length c3', .slice A4 m4 c4'] 34 (0, 0)) from heap_alloc_new V' _)
     generalize (V'.alloc (.cells #[.string sN, .slice A1 q.funs.length c1', .slice A2 q.ins.length c2', .slice A3 q.outs.length c3', .slice A4 m4 c4'] 34)).drew = V2 at *
     have B22 := zH (ag HV2.o B2'.out)
     obtain ⟨r0, r1, r2, r3, r4⟩ := aN B22.o
     obtain ⟨s0, s1, s2, s3, s4⟩ := aN BN.o
     by_cases hA : q.ins.length = k
     . have bA : ((q.ins.length : Int) == (k : Int)) = true := by simp [hA]
       have HA := zH (show (q.ins.length == k) = true by simp [hA])
       clear hA
       by_cases hB : q.funs.length = cs.length
       . have bB : ((q.funs.length : Int) == (cs.length : Int)) = true := by simp [hB]
         have HB := zH (show (q.funs.length == cs.length) = true by simp [hB])
         clear hB
         by_cases hC : (q.outs.length : Int) = results
         . have bC : ((q.outs.length : Int) == results) = true := by simp [hC]
           have HC := zH bC
           clear hC
           have HW2 := zH (HV'.out.trans (HV2.o.mono HV'.out.size))
           have HCL := zH (f8 (HCS.o.under (HV.o.trans (HW2.o.mono HV.o.size))) Bz (f := λ x => !jH s x) (cap := #[.pointer (some ⟨w.heap.size, 0, none⟩)]) (λ x _ hx => zg (HS'.out.under HV2.o) (ag HV2.o B1'.out) hx))
           have HFIN := zH (show (!cs.any (λ x => !jH s x)) = gU s nm cs k results by rw [HCQ.o, HA.o, HB.o, HC.o]; simp [List.any_eq_not_all_not])
           go_wp2_with (go_at_call 107
                        (with_reducible refine (HCL.o _ (Below.refl _ _)).mono ?_)
                        rintro e w7 ⟨rfl, hb7⟩)
           go_ret
           exact ⟨aj HFIN.o, ((HV.o.trans (HV'.out.mono HV.o.size)).trans (HV2.o.mono (Nat.le_trans HV.o.size HV'.out.size))).trans (hb7.mono (Nat.le_trans (Nat.le_trans HV.o.size HV'.out.size) HV2.o.size))⟩
         . have bC : ((q.outs.length : Int) == results) = false := by simp [hC]
           have HQ := zH (show gU s nm cs k results = false by rw [HCQ.o, HA.o, HB.o, bC]; rfl)
           clear hC
           go_wp2_with fail
           go_ret
           exact ⟨aj HQ.o.symm, (HV.o.trans (HV'.out.mono HV.o.size)).trans (HV2.o.mono (Nat.le_trans HV.o.size HV'.out.size))⟩
       . have bB : ((q.funs.length : Int) == (cs.length : Int)) = false := by simp; omega
         have HQ := zH (show gU s nm cs k results = false by rw [HCQ.o, HA.o, beq_eq_false_iff_ne.2 hB]; rfl)
         clear hB
         go_wp2_with fail
         go_ret
         exact ⟨aj HQ.o.symm, (HV.o.trans (HV'.out.mono HV.o.size)).trans (HV2.o.mono (Nat.le_trans HV.o.size HV'.out.size))⟩
     . have bA : ((q.ins.length : Int) == (k : Int)) = false := by simp; omega
       have HQ := zH (show gU s nm cs k results = false by rw [HCQ.o, beq_eq_false_iff_ne.2 hA]; rfl)
       clear hA
       go_wp2_with fail
       go_ret
       exact ⟨aj HQ.o.symm, (HV.o.trans (HV'.out.mono HV.o.size)).trans (HV2.o.mono (Nat.le_trans HV.o.size HV'.out.size))⟩
 . have HCF := zH hc
   have HQ := zH (show gU s nm cs k results = ((cs.length : Int) == 0) by rw [gU, if_pos hc, Dq])
   clear hc
   go_wp2_with fail
   go_ret
   exact ⟨aj HQ.o.symm, HV.o.trans (HV'.out.mono HV.o.size)⟩
end
end Go.Proofs.YtdcjlihaldhhjaaGreatDoor
namespace Go.Proofs.YtdcjlihaldhhjaaGreatDoor
open _root_.Go.Proofs.Tryz
open Go.RowKit
def iK (op r i : Int) : Int := if op = 15 /\ i = 0 then r else 1
def D3 (op r i : Int) (u : Bool) (w : World) (e : Ending) (w' : World) : Prop := e = .returned (.agg #[.int .i64 (iK op r i), .bool (u || op == 13)]) /\ Below w.heap.size w w'
theorem uZ : (prog.info? 166).map (·.size) = some 2 := by kernel_rfl
theorem er {tmps : Array Value} {w : World} {N : Nat} {x0 x1 : Value} (hp : tmps.getD 6 undef = .pointer (some ⟨N, 0, none⟩)) (hg : w.heap[N]? = some (.cells #[x0, x1] 166 (0, 0))) :
  (results f150 tmps).run prog w = .ok (.agg #[x0, x1]) w :=
 results_cell_row results150 tmps w N 166 _ (0, 0) _ hp hg underlying166 rfl uZ
theorem Ds (op r i n : Int) (u : Bool) (s0 : ByteArray) (A B : Option Addr) (m1 j1 m2 j2 : Nat) (w : World) : Calls prog 150 #[.agg #[.int .i64 r, .bool u], .agg #[.int .i64 op, .string s0, .int .i64 n, .slice A m1 j1, .slice B m2 j2], .int .i64 i] w (D3 op r i u w) := by
 cases u
 . by_cases h15 : op = 15
   . subst h15; by_cases hi : i = 0
     . subst hi; have HR := zH (show iK 15 r 0 = r by simp [iK]); go_enter func150, ntmps150
       go_wp2_with fail
       exact bodyPost_ret (er rfl (aQ (aB (by simp)))) rfl ⟨by rw [HR.o]; rfl, (((((Below.refl _ w).alloc (Nat.le_refl _) _).alloc (by simp) _).alloc (by simp; omega) _).alloc (by simp; omega) _)⟩
     . have hb : (i == 0) = false := by simp [hi]
       have HR := zH (show iK 15 r i = 1 by simp [iK, hi]); clear hi; go_enter func150, ntmps150
       go_wp2_with fail
       exact bodyPost_ret (er rfl (aQ (aB (by simp)))) rfl ⟨by rw [HR.o]; rfl, (((((Below.refl _ w).alloc (Nat.le_refl _) _).alloc (by simp) _).alloc (by simp; omega) _).alloc (by simp; omega) _)⟩
   . have hb : (op == 15) = false := by simp [h15]
     have HR := zH (show iK op r i = 1 by simp [iK, h15]); clear h15; go_enter func150, ntmps150
     go_wp2_with fail
     exact bodyPost_ret (er rfl (aQ (aB (by simp)))) rfl ⟨by rw [HR.o]; simp, (((((Below.refl _ w).alloc (Nat.le_refl _) _).alloc (by simp) _).alloc (by simp; omega) _).alloc (by simp; omega) _)⟩
 . by_cases h15 : op = 15
   . subst h15; by_cases hi : i = 0
     . subst hi; have HR := zH (show iK 15 r 0 = r by simp [iK]); go_enter func150, ntmps150
       go_wp2_with fail
       exact bodyPost_ret (er rfl (aQ (aB (by simp)))) rfl ⟨by rw [HR.o]; simp, (((((Below.refl _ w).alloc (Nat.le_refl _) _).alloc (by simp) _).alloc (by simp; omega) _).alloc (by simp; omega) _)⟩
     . have hb : (i == 0) = false := by simp [hi]
       have HR := zH (show iK 15 r i = 1 by simp [iK, hi]); clear hi; go_enter func150, ntmps150
       go_wp2_with fail
       exact bodyPost_ret (er rfl (aQ (aB (by simp)))) rfl ⟨by rw [HR.o]; simp, (((((Below.refl _ w).alloc (Nat.le_refl _) _).alloc (by simp) _).alloc (by simp; omega) _).alloc (by simp; omega) _)⟩
   . have hb : (op == 15) = false := by simp [h15]
     have HR := zH (show iK op r i = 1 by simp [iK, h15]); clear h15; go_enter func150, ntmps150
     go_wp2_with fail
     exact bodyPost_ret (er rfl (aQ (aB (by simp)))) rfl ⟨by rw [HR.o]; simp, (((((Below.refl _ w).alloc (Nat.le_refl _) _).alloc (by simp) _).alloc (by simp; omega) _).alloc (by simp; omega) _)⟩
end Go.Proofs.YtdcjlihaldhhjaaGreatDoor
