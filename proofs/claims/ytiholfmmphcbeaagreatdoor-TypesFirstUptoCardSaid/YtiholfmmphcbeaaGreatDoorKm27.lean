import Derived.Test.YtiholfmmphcbeaaGreatDoorKm25
import Derived.Test.YtiholfmmphcbeaaGreatDoorKm26
set_option maxHeartbeats 8000000
set_option maxRecDepth 100000
namespace Go.Proofs.YtiholfmmphcbeaaGreatDoor
open _root_.Go.Proofs.Tryz
open Go.RowKit
theorem vV {w0 : World} {va : Value} {l : List Tx} {f : Tx -> Bool} (ha : ak w0 pt va l) {g : FuncId} {cap : Array Value} (eg : ∀ (args : Array Value) (W : World), (callFunc g args).run prog W = .ok (.enter g args) W)
  (hf : ∀ x ∈ l, x.length <= maxLen -> ∀ w, Below w0.heap.size w0 w -> Calls prog g (#[.string (str x)] ++ cap) w (ar (f x) w)) :
  ∀ w, Below w0.heap.size w0 w -> Calls prog 131 #[va, .func (.func g) #[] cap] w (λ e w' => (∃ n : Int, e = .returned (.int .i64 n) /\ decide (0 <= n) = l.any f) /\ Below w.heap.size w w') := by
 intro w hw; obtain ⟨A, ca, rfl, hca, hma, hea⟩ := ha; have hla : l.length <= 9223372036854775807 := (by unfold maxLen at hma; omega); have HW0 := zH hw; have hsz0 := hw.size; clear hw hca hma; go_enter func131, ntmps131
 go_wp2_with fail
 go_loopg [8] l.length (λ g v wr => ∃ k : Nat, k + g = l.length /\ v = .int .i64 k /\ bL (λ y => !f y) l k /\ Below w.heap.size w wr)
 case atStart => exact ⟨0, by omega, rfl, bL.zero, Below.refl _ _⟩
 case round =>
  obtain ⟨k, hkg, rfl, hto, hbw⟩ := hrel; have HK := zH hkg; have HW := zH hbw; have HT := zH hto; have hszw := hbw.size; have hkl : k <= l.length := zO; clear hkg hbw hto; by_cases hlt : k < l.length
  . obtain ⟨y, hy⟩ := zG hlt; obtain ⟨L, hEM, rfl, hxl⟩ := hea k y hy; have HF := zH (hf y (List.mem_of_getElem? hy) hxl); have HB0 := zH (HW0.o.trans (HW.o.mono hsz0)); have HY := zH hy; obtain ⟨a, rfl, hab, haa, d0⟩ := dL (hEM.under HB0.o); rw [Nat.mul_one] at d0; clear hEM hea hf hy; cases hfx : f y
    . have HFX := zH hfx; rw [hfx] at HF; clear hfx; go_wp2_with (go_at_fn g; refine (HF.o _ HB0.o).mono ?_; rintro e w1 ⟨rfl, hb1⟩)
      go_roundg (l.length - (k + 1))
      case measure => have := HK.o; omega
      case rel => exact ⟨k + 1, by omega, by go_num, HT.o.succ HY.o (by rw [HFX.o]; rfl), HW.o.trans (hb1.mono zO)⟩
    . have HFX := zH hfx; rw [hfx] at HF; clear hfx; go_wp2_with (go_at_fn g; refine (HF.o _ HB0.o).mono ?_; rintro e w1 ⟨rfl, hb1⟩)
      go_ret; exact ⟨⟨_, rfl, by rw [List.any_eq_true.2 ⟨y, List.mem_of_getElem? HY.o, HFX.o⟩]; simp⟩, HW.o.trans (hb1.mono zO)⟩
  . have hke : k = l.length := by omega
    have HKE := zH hke; clear hke; go_wp2_with fail
    go_ret; exact ⟨⟨_, rfl, by rw [yV (HT.o.all HKE.o)]; rfl⟩, HW.o⟩
theorem ig {w0 : World} {va : Value} {l : List Tx} {f : Tx -> Bool} (ha : ak w0 pt va l) {g : FuncId} {cap : Array Value} (eg : ∀ (args : Array Value) (W : World), (callFunc g args).run prog W = .ok (.enter g args) W)
  (hf : ∀ x ∈ l, x.length <= maxLen -> ∀ w, Below w0.heap.size w0 w -> Calls prog g (#[.string (str x)] ++ cap) w (ar (f x) w)) :
  ∀ w, Below w0.heap.size w0 w -> Calls prog 95 #[va, .func (.func g) #[] cap] w (ar (l.any f) w) := by
 intro w hw; have H := zH (vV ha eg hf w hw); obtain ⟨A, ca, rfl, _⟩ := ha; clear hw hf; go_enter func95, ntmps95
 go_wp2_with (go_at_call 131; refine H.o.mono ?_; rintro e w1 ⟨⟨n, rfl, hn⟩, hb1⟩; have HN := zH hn; clear hn)
 go_ret; exact ⟨ah HN.o, hb1⟩
theorem vU {w0 : World} {va : Value} {l : List iO} {f : iO -> Bool} (ha : ak w0 (gp w0) va l) {g : FuncId} {cap : Array Value} (eg : ∀ (args : Array Value) (W : World), (callFunc g args).run prog W = .ok (.enter g args) W)
  (hf : ∀ x ∈ l, ∀ L, gp w0 L x -> ∀ w, Below w0.heap.size w0 w -> Calls prog g (#[.agg L.toArray] ++ cap) w (ar (f x) w)) :
  ∀ w, Below w0.heap.size w0 w -> Calls prog 187 #[va, .func (.func g) #[] cap] w (λ e w' => (∃ n : Int, e = .returned (.int .i64 n) /\ decide (0 <= n) = l.any f) /\ Below w.heap.size w w') := by
 intro w hw; obtain ⟨A, ca, rfl, hca, hma, hea⟩ := ha; have hla : l.length <= 9223372036854775807 := (by unfold maxLen at hma; omega); have HW0 := zH hw; have hsz0 := hw.size; clear hw hca hma; go_enter func187, ntmps187
 go_wp2_with fail
 go_loopg [8] l.length (λ g v wr => ∃ k : Nat, k + g = l.length /\ v = .int .i64 k /\ bL (λ y => !f y) l k /\ Below w.heap.size w wr)
 case atStart => exact ⟨0, by omega, rfl, bL.zero, Below.refl _ _⟩
 case round =>
  obtain ⟨k, hkg, rfl, hto, hbw⟩ := hrel; have HK := zH hkg; have HW := zH hbw; have HT := zH hto; have hszw := hbw.size; have hkl : k <= l.length := zO; clear hkg hbw hto; by_cases hlt : k < l.length
  . obtain ⟨y, hy⟩ := zG hlt; obtain ⟨L, hEM, hRM⟩ := hea k y hy; have HF := zH (hf y (List.mem_of_getElem? hy) L hRM); obtain ⟨o0, s1, o2, A3, n3, k3, A4, n4, k4, s5, rfl⟩ := hRM.shape; have HB0 := zH (HW0.o.trans (HW.o.mono hsz0)); have HY := zH hy; obtain ⟨a, rfl, hab, haa, d0, d1, d2, d3, d4, d5⟩ := mV (hEM.under HB0.o); clear hEM hea hf hy hRM; cases hfx : f y
    . have HFX := zH hfx; rw [hfx] at HF; clear hfx; go_wp2_with (go_at_fn g; refine (HF.o _ HB0.o).mono ?_; rintro e w1 ⟨rfl, hb1⟩)
      go_roundg (l.length - (k + 1))
      case measure => have := HK.o; omega
      case rel => exact ⟨k + 1, by omega, by go_num, HT.o.succ HY.o (by rw [HFX.o]; rfl), HW.o.trans (hb1.mono zO)⟩
    . have HFX := zH hfx; rw [hfx] at HF; clear hfx; go_wp2_with (go_at_fn g; refine (HF.o _ HB0.o).mono ?_; rintro e w1 ⟨rfl, hb1⟩)
      go_ret; exact ⟨⟨_, rfl, by rw [List.any_eq_true.2 ⟨y, List.mem_of_getElem? HY.o, HFX.o⟩]; simp⟩, HW.o.trans (hb1.mono zO)⟩
  . have hke : k = l.length := by omega
    have HKE := zH hke; clear hke; go_wp2_with fail
    go_ret; exact ⟨⟨_, rfl, by rw [yV (HT.o.all HKE.o)]; rfl⟩, HW.o⟩
theorem qJ {w0 : World} {va : Value} {l : List iO} {f : iO -> Bool} (ha : ak w0 (gp w0) va l) {g : FuncId} {cap : Array Value} (eg : ∀ (args : Array Value) (W : World), (callFunc g args).run prog W = .ok (.enter g args) W)
  (hf : ∀ x ∈ l, ∀ L, gp w0 L x -> ∀ w, Below w0.heap.size w0 w -> Calls prog g (#[.agg L.toArray] ++ cap) w (ar (f x) w)) :
  ∀ w, Below w0.heap.size w0 w -> Calls prog 166 #[va, .func (.func g) #[] cap] w (ar (l.any f) w) := by
 intro w hw; have H := zH (vU ha eg hf w hw); obtain ⟨A, ca, rfl, _⟩ := ha; clear hw hf; go_enter func166, ntmps166
 go_wp2_with (go_at_call 187; refine H.o.mono ?_; rintro e w1 ⟨⟨n, rfl, hn⟩, hb1⟩; have HN := zH hn; clear hn)
 go_ret; exact ⟨ah HN.o, hb1⟩
def tT (k : Int) (s : Tx) : List Tx -> Int
 | [] => -1
 | x :: r => if x = s then k else tT (k + 1) s r
def lx (l : List Tx) (s : Tx) : Int := tT 0 s l
theorem DL (s : Tx) (l : List Tx) : ∀ k : Int, 0 <= k -> decide (0 <= tT k s l) = l.contains s := by
 induction l with
 | nil => intro k _; simp [tT]
 | cons x r ih =>
   intro k hk; unfold tT; by_cases h : x = s
   . rw [if_pos h]; subst h; simp [hk]
   . rw [if_neg h, ih (k + 1) zO]; simp; intro e; exact absurd e.symm h
theorem nQ {va : Value} {l : List Tx} {w : World} (ha : aF w va l) (s : Tx) : Calls prog 100 #[va, .string (str s)] w λ e w' => e = .returned (.int .i64 (lx l s)) /\ w = w' := by
 obtain ⟨A, c, rfl, hlc, hmc, he⟩ := ha; have hll : l.length <= 9223372036854775807 := (by unfold maxLen at hmc; omega); have HE := zH he; clear he hlc hmc; go_enter func100, ntmps100
 go_wp2_with fail
 go_loop [8] (λ v => ∃ k : Nat, k <= l.length /\ v = .int .i64 k /\ lx l s = tT k s (l.drop k)) (λ v => l.length - (intOf v).toNat)
 case atStart => exact ⟨0, Nat.zero_le _, rfl, rfl⟩
 case round =>
  obtain ⟨k, hk, rfl, hr⟩ := hrel; have HR := zH hr; clear hr; by_cases hlt : k < l.length
  . obtain ⟨x, hx⟩ := zG hlt; obtain ⟨L, hEL, rfl, _⟩ := HE.o k x hx; obtain ⟨a, rfl, _, _, c0⟩ := dL hEL; rw [Nat.mul_one] at c0; have HD := zH (bw hx); clear hx hEL; by_cases hxs : x = s
    . have hb : ((str s).toList == (str x).toList) = true := by rw [hxs]; simp
      have HN := zH (show lx l s = k by rw [HR.o, HD.o, tT, if_pos hxs]); clear hxs; go_wp2_with fail
      go_ret; exact ⟨iz HN.o.symm, rfl⟩
    . have hb : ((str s).toList == (str x).toList) = false := by rw [ep, ep]; simp; exact λ e => hxs e.symm
      have HN := zH (show lx l s = tT ((k + 1 : Nat) : Int) s (l.drop (k + 1)) by rw [HR.o, HD.o, tT, if_neg hxs]; rfl); clear hxs; go_wp2_with fail
      go_round
      case rel => exact ⟨k + 1, by omega, by go_num, HN.o⟩
      case measure => simp [intOf]; omega
  . have hke : k = l.length := by omega
    have HN := zH (show lx l s = -1 by rw [HR.o, hke, List.drop_length]; rfl); clear hke; go_wp2_with fail
    go_ret; exact ⟨iz HN.o.symm, rfl⟩
theorem rA {va : Value} {l : List Tx} {w : World} (ha : aF w va l) (s : Tx) : Calls prog 58 #[va, .string (str s)] w λ e w' => e = .returned (.bool (l.contains s)) /\ w = w' := by
 have H := zH (nQ ha s); have HP := zH (DL s l 0 zO); obtain ⟨A, c, rfl, _⟩ := ha; go_enter func58, ntmps58
 go_wp2_with (go_at_call 100; refine H.o.mono ?_; rintro e w1 ⟨rfl, rfl⟩)
 go_ret; exact ⟨ah HP.o, rfl⟩
end Go.Proofs.YtiholfmmphcbeaaGreatDoor
namespace Go.Proofs.YtiholfmmphcbeaaGreatDoor
open _root_.Go.Proofs.Tryz
open Go.RowKit
open Go.ChangeMaps Go.MapKept
open Go.Maps
theorem D8 : lr 188 := enters_of func188 zK rfl
section
variable {S P e1 c1 n1 t1 f1 v1 : Nat} {nd : Value × Value × Value × Value × Value} {s : dM}
theorem Cc {w0 : World} (h : dT w0 S P e1 c1 n1 t1 f1 v1 nd s) {N : Nat} (hN : w0.heap[N]? = some (.cells #[.pointer (some ⟨S, 0, none⟩)] 137 (0, 0))) {x : Tx} (hl : x.length <= maxLen) :
  ∀ w, Below w0.heap.size w0 w -> Calls prog 188 #[.string (str x), .pointer (some ⟨N, 0, none⟩)] w (ar (!jD s x) w) := by
 intro w hw; have H := zH (tA (h.under hw) hl); have x0 := oN (ao hw hN); clear h hN hl hw; go_enter func188, ntmps188
 go_wp2_with (go_at_call 189; (with_reducible refine H.o.mono ?_); rintro e w1 ⟨rfl, hb1⟩)
 go_ret; exact ⟨rfl, hb1⟩
theorem GM {w : World} {N : Nat} {T0 : TypeId} {v0 : Value} (h : w.heap[N]? = some (.cells #[v0] T0 (0, 0))) : w.cell? ⟨N, 0, none⟩ = some v0 /\ True := ⟨oN h, trivial⟩
theorem FN (l : List Tx) : ((l.length : Int) == 0) = l.isEmpty := by
 cases l with
 | nil => rfl
 | cons a b => simp; omega
theorem Cb {w : World} (h : dT w S P e1 c1 n1 t1 f1 v1 nd s) {op n : Int} {nm : Tx} {A B : Option Addr} {cs : List Tx} {ca k kc : Nat} (hnm : nm.length <= maxLen) (hcs : aF w (.slice A cs.length ca) cs) (results : Int) :
  Calls prog 168 #[.pointer (some ⟨S, 0, none⟩), .agg #[.int .i64 op, .string (str nm), .int .i64 n, .slice A cs.length ca, .slice B k kc], .int .i64 results] w (ar (ip s nm cs k results) w) := by
 have HS := zH h; have HNM := zH hnm; have HCS := zH hcs; have hmf : ∀ (fn : Fn) (first cap : Array Value) (w : World), (Instr.makeFunc fn first cap).run prog w = .ok (.func fn first cap) w := λ _ _ _ _ => rfl; have hlc : cs.length <= 9223372036854775807 := (by obtain ⟨_, _, e, h1, h2, _⟩ := hcs; injection e with _ _ e3; unfold maxLen at h2; omega); clear h hnm hcs; go_enter func168, ntmps168
 go_wp2_with fail
 have a1 : Below w.heap.size w (w.alloc (.cells #[.pointer (some ⟨S, 0, none⟩)] 137)) := (Below.refl _ w).alloc (Nat.le_refl _) _; have HV := zH (a1.alloc (by simp) (.cells #[.int .i64 op, .string (str nm), .int .i64 n, .slice A cs.length ca, .slice B k kc] 81)); have B1 := zH (az (o := .cells #[.int .i64 op, .string (str nm), .int .i64 n, .slice A cs.length ca, .slice B k kc] 81) (heap_alloc_new w (.cells #[.pointer (some ⟨S, 0, none⟩)] 137))); have B2 := zH (show ((w.alloc (.cells #[.pointer (some ⟨S, 0, none⟩)] 137)).alloc (.cells #[.int .i64 op, .string (str nm), .int .i64 n, .slice A cs.length ca, .slice B k kc] 81)).heap[w.heap.size + 1]? = some (.cells #[.int .i64 op, .string (str nm), .int .i64 n, .slice A cs.length ca, .slice B k kc] 81 (0, 0)) from bh (by simp)); generalize (w.alloc (.cells #[.pointer (some ⟨S, 0, none⟩)] 137)).alloc (.cells #[.int .i64 op, .string (str nm), .int .i64 n, .slice A cs.length ca, .slice B k kc] 81) = V at *; clear a1; have HSV := zH (HS.o.under HV.o); have x0 := oN B1.o; obtain ⟨y0, y1, y2, y3, y4, y5, y6, y7⟩ := gq HSV.o.box; obtain ⟨z0, z1, z2, z3, z4⟩ := aW B2.o; refine wp_region_held_drew (S := (λ W => W.cell? ⟨w.heap.size, 0, none⟩ = some (.pointer (some ⟨S, 0, none⟩)) /\ W.cell? ⟨S, 6, none⟩ = some (.map (some f1)) /\ W.cell? ⟨w.heap.size + 1, 1, none⟩ = some (.string (str nm)))) zK ?_ (λ hHeld => ?_)
 . (try dsimp only); go_keep
 refine aa 0 ?_; refine aa 1 ?_; refine aa 2 ?_; refine aa 3 ?_; refine aa 4 ?_; refine aa 5 ?_; refine aq 6 zK rfl (λ K hK => ?_); go_simp
 (go_at_call 91
  (with_reducible refine (eS (HSV.o.under (Below.refl _ V).drew).mf (er _) HNM.o).mono ?_); rintro e w7 ⟨he, hb7⟩; rw [bN] at he; subst he; obtain ⟨V', rfl⟩ := zW w7; have HV' := zH ((zB V).drew.trans hb7); have B1' := zH (ao HV'.out B1.o); have B2' := zH (ao HV'.out B2.o); have HS' := zH (HSV.o.under HV'.out); have x0 := oN B1'.out; obtain ⟨y0, y1, y2, y3, y4, y5, y6, y7⟩ := gq HS'.out.box; obtain ⟨z0, z1, z2, z3, z4⟩ := aW B2'.out; clear hb7)
 refine hK.out _ _ ?_ (λ hHeld => ?_)
 . (try dsimp only); go_keep
 clear hK K; try simp only [Act.put, aO, aM, aN]
 refine wpAnyH_done zK ?_ _; cases hc : s.funs.contains nm
 . have HCF := zH hc; clear hc; obtain ⟨ln, hmn, hrn⟩ := HS'.out.prog.mn; have HMN := zH hmn; cases hg : bl s.prog.nodes nm with
   | none =>
     have HQ := zH (show ip s nm cs k results = false by rw [ip, HCF.o, hg]; rfl); have hkn : nm ∉ ln.map Prod.fst := (by have := nS hg; rw [<- hrn.1] at this; exact this); clear hg hmn hrn; go_wp2_with fail
     have HRUN := zH (λ (W : World) (hW : Below V'.heap.size V' W) => (HMN.o.under hW).look_no underlying130 (Cn W) HNM.o hkn)
     have KEEP := zH (show ∀ W, Below V'.heap.size V' W -> (λ W => W.cell? ⟨w.heap.size, 0, none⟩ = some (.pointer (some ⟨S, 0, none⟩)) /\ W.cell? ⟨S, 0, none⟩ = some (.pointer (some ⟨P, 0, none⟩)) /\ W.cell? ⟨P, 2, none⟩ = some (.map (some n1)) /\ W.cell? ⟨w.heap.size + 1, 1, none⟩ = some (.string (str nm)) /\ (Instr.lookup 130 (.map (some n1)) (.string (str nm)) true).run prog W = .ok (.tuple #[.agg #[.string ⟨#[]⟩, .slice none 0 0, .slice none 0 0, .slice none 0 0, .slice none 0 0], .bool false]) W) W from
      λ W hW => by
       obtain ⟨a1, _⟩ := GM (ao hW B1'.out); obtain ⟨b0, _⟩ := gq (ao hW HS'.out.box); obtain ⟨_, _, d2, _⟩ := (HS'.out.under hW).prog.row; obtain ⟨_, g1, _⟩ := aW (ao hW B2'.out); exact ⟨a1, b0, d2, g1, HRUN.o W hW⟩)
     refine wp_region_held_drew (S := (λ W => W.cell? ⟨w.heap.size, 0, none⟩ = some (.pointer (some ⟨S, 0, none⟩)) /\ W.cell? ⟨S, 0, none⟩ = some (.pointer (some ⟨P, 0, none⟩)) /\ W.cell? ⟨P, 2, none⟩ = some (.map (some n1)) /\ W.cell? ⟨w.heap.size + 1, 1, none⟩ = some (.string (str nm)) /\ (Instr.lookup 130 (.map (some n1)) (.string (str nm)) true).run prog W = .ok (.tuple #[.agg #[.string ⟨#[]⟩, .slice none 0 0, .slice none 0 0, .slice none 0 0, .slice none 0 0], .bool false]) W)) zK ?_ (λ hHeld => ?_)
     . exact KEEP.o _ (Below.refl _ _).drew
     refine aa 0 ?_; refine aa 1 ?_; refine aa 2 ?_; refine aa 3 ?_; refine aa 4 ?_; refine aa 5 ?_; refine aa 6 ?_; refine aa 7 ?_; refine aa 8 ?_; refine aa 9 ?_; refine aa 10 ?_; refine aa 11 ?_; refine aa 12 ?_; refine aq 13 zK rfl (λ K hK => ?_); go_simp
     refine hK.out _ _ (KEEP.o _ ?_) (λ hHeld => ?_)
     . (repeat (first | exact Below.refl _ _ | exact Below.refl _ _ | refine Below.drew ?_ | refine Below.alloc ?_ (by simp) _ | refine Below.setCell ?_ (by simp) _))
     clear hK K; try simp only [Act.put, aO, aM, aN]
     refine aq 14 zK rfl (λ K hK => ?_); go_simp
     refine hK.out _ _ (KEEP.o _ ?_) (λ hHeld => ?_)
     . (repeat (first | exact Below.refl _ _ | exact Below.refl _ _ | refine Below.drew ?_ | refine Below.alloc ?_ (by simp) _ | refine Below.setCell ?_ (by simp) _))
     clear hK K; try simp only [Act.put, aO, aM, aN]
     refine aa 15 ?_; refine wpAnyH_done zK ?_ _; have HV2 := zH (show Below V'.heap.size V' (V'.alloc (.cells #[.string ⟨#[]⟩, .slice none 0 0, .slice none 0 0, .slice none 0 0, .slice none 0 0] 53)).drew from ((Below.refl _ V').alloc (Nat.le_refl _) _).drew); have BN := zH (show (V'.alloc (.cells #[.string ⟨#[]⟩, .slice none 0 0, .slice none 0 0, .slice none 0 0, .slice none 0 0] 53)).drew.heap[V'.heap.size]? = some (.cells #[.string ⟨#[]⟩, .slice none 0 0, .slice none 0 0, .slice none 0 0, .slice none 0 0] 53 (0, 0)) from heap_alloc_new V' _); generalize (V'.alloc (.cells #[.string ⟨#[]⟩, .slice none 0 0, .slice none 0 0, .slice none 0 0, .slice none 0 0] 53)).drew = V2 at *; have B22 := zH (ao HV2.o B2'.out); obtain ⟨r0, r1, r2, r3, r4⟩ := aW B22.o; obtain ⟨s0, s1, s2, s3, s4⟩ := aW BN.o
     go_wp2_with fail
     go_ret
     exact ⟨ah HQ.o.symm, (HV.o.trans (HV'.out.mono HV.o.size)).trans (HV2.o.mono (Nat.le_trans HV.o.size HV'.out.size))⟩
   | some q =>
     obtain ⟨v, hv, sN, A1, c1', A2, c2', A3, c3', A4, m4, c4', rfl⟩ := hrn.find hg
     have HCQ := zH (show ip s nm cs k results = (q.ins.length == k && (q.funs.length == cs.length && ((q.outs.length : Int) == results && cs.all (jD s)))) by rw [ip, HCF.o, hg]; rfl)
     clear hg hmn hrn
     go_wp2_with fail
     have HRUN := zH (λ (W : World) (hW : Below V'.heap.size V' W) => (HMN.o.under hW).look_yes underlying130 hv)
     have KEEP := zH (show ∀ W, Below V'.heap.size V' W -> (λ W => W.cell? ⟨w.heap.size, 0, none⟩ = some (.pointer (some ⟨S, 0, none⟩)) /\ W.cell? ⟨S, 0, none⟩ = some (.pointer (some ⟨P, 0, none⟩)) /\ W.cell? ⟨P, 2, none⟩ = some (.map (some n1)) /\ W.cell? ⟨w.heap.size + 1, 1, none⟩ = some (.string (str nm)) /\ (Instr.lookup 130 (.map (some n1)) (.string (str nm)) true).run prog W = .ok (.tuple #[.agg #[.string sN, .slice A1 q.funs.length c1', .slice A2 q.ins.length c2', .slice A3 q.outs.length c3', .slice A4 m4 c4'], .bool true]) W) W from
      λ W hW => by
       obtain ⟨a1, _⟩ := GM (ao hW B1'.out)
       obtain ⟨b0, _⟩ := gq (ao hW HS'.out.box)
       obtain ⟨_, _, d2, _⟩ := (HS'.out.under hW).prog.row
       obtain ⟨_, g1, _⟩ := aW (ao hW B2'.out)
       exact ⟨a1, b0, d2, g1, HRUN.o W hW⟩)
     refine wp_region_held_drew (S := (λ W => W.cell? ⟨w.heap.size, 0, none⟩ = some (.pointer (some ⟨S, 0, none⟩)) /\ W.cell? ⟨S, 0, none⟩ = some (.pointer (some ⟨P, 0, none⟩)) /\ W.cell? ⟨P, 2, none⟩ = some (.map (some n1)) /\ W.cell? ⟨w.heap.size + 1, 1, none⟩ = some (.string (str nm)) /\ (Instr.lookup 130 (.map (some n1)) (.string (str nm)) true).run prog W = .ok (.tuple #[.agg #[.string sN, .slice A1 q.funs.length c1', .slice A2 q.ins.length c2', .slice A3 q.outs.length c3', .slice A4 m4 c4'], .bool true]) W)) zK ?_ (λ hHeld => ?_)
     . exact KEEP.o _ (Below.refl _ _).drew
     refine aa 0 ?_
     refine aa 1 ?_
     refine aa 2 ?_
     refine aa 3 ?_
     refine aa 4 ?_
     refine aa 5 ?_
     refine aa 6 ?_
     refine aa 7 ?_
     refine aa 8 ?_
     refine aa 9 ?_
     refine aa 10 ?_
     refine aa 11 ?_
     refine aa 12 ?_
     refine aq 13 zK rfl (λ K hK => ?_)
     go_simp
     refine hK.out _ _ (KEEP.o _ ?_) (λ hHeld => ?_)
     . (repeat (first | exact Below.refl _ _ | exact Below.refl _ _ | refine Below.drew ?_ | refine Below.alloc ?_ (by simp) _ | refine Below.setCell ?_ (by simp) _))
     clear hK K
     try simp only [Act.put, aO, aM, aN]
     refine aq 14 zK rfl (λ K hK => ?_)
     go_simp
     refine hK.out _ _ (KEEP.o _ ?_) (λ hHeld => ?_)
     . (repeat (first | exact Below.refl _ _ | exact Below.refl _ _ | refine Below.drew ?_ | refine Below.alloc ?_ (by simp) _ | refine Below.setCell ?_ (by simp) _))
     clear hK K
     try simp only [Act.put, aO, aM, aN]
     refine aa 15 ?_
     refine wpAnyH_done zK ?_ _
     have HV2 := zH (show Below V'.heap.size V' (V'.alloc (.cells #[.string sN, .slice A1 q.funs.length c1', .slice A2 q.ins.length c2', .slice A3 q.outs.length c3', .slice A4 m4 c4'] 53)).drew from ((Below.refl _ V').alloc (Nat.le_refl _) _).drew)
     have BN := zH (show (V'.alloc (.cells #[.string sN, .slice A1 q.funs.length c1', .slice A2 q.ins.length c2', .slice A3 q.outs.length c3', .slice A4 m4 c4'] 53)).drew.heap[V'.heap.size]? = some (.cells #[.string sN, .slice A1 q.funs.length c1', .slice A2 q.ins.length c2', .slice A3 q.outs.length c3', .slice A4 m4 c4'] 53 (0, 0)) from heap_alloc_new V' _)
     generalize (V'.alloc (.cells #[.string sN, .slice A1 q.funs.length c1', .slice A2 q.ins.length c2', .slice A3 q.outs.length c3', .slice A4 m4 c4'] 53)).drew = V2 at *
     have B22 := zH (ao HV2.o B2'.out)
     obtain ⟨r0, r1, r2, r3, r4⟩ := aW B22.o
     obtain ⟨s0, s1, s2, s3, s4⟩ := aW BN.o
     by_cases hA : q.ins.length = k
     . have bA : ((q.ins.length : Int) == (k : Int)) = true := by simp [hA]
       have HA := zH (show (q.ins.length == k) = true by simp [hA])
       clear hA
       by_cases hB : q.funs.length = cs.length
       . have bB : ((q.funs.length : Int) == (cs.length : Int)) = true := by simp [hB]
         have HB := zH (show (q.funs.length == cs.length) = true by simp [hB])
         clear hB
         by_cases hC : (q.outs.length : Int) = results
         . have bC : ((q.outs.length : Int) == results) = true := by simp [hC]
           have HC := zH bC
           clear hC
           have HW2 := zH (HV'.out.trans (HV2.o.mono HV'.out.size))
           have HCL := zH (ig (HCS.o.under (HV.o.trans (HW2.o.mono HV.o.size))) D8 (f := λ x => !jD s x) (cap := #[.pointer (some ⟨w.heap.size, 0, none⟩)]) (λ x _ hx => Cc (HS'.out.under HV2.o) (ao HV2.o B1'.out) hx))
           have HFIN := zH (show (!cs.any (λ x => !jD s x)) = ip s nm cs k results by rw [HCQ.o, HA.o, HB.o, HC.o]; simp [List.any_eq_not_all_not])
           go_wp2_with (go_at_call 95
                        (with_reducible refine (HCL.o _ (Below.refl _ _)).mono ?_)
                        rintro e w7 ⟨rfl, hb7⟩)
           go_ret
           exact ⟨ah HFIN.o, ((HV.o.trans (HV'.out.mono HV.o.size)).trans (HV2.o.mono (Nat.le_trans HV.o.size HV'.out.size))).trans (hb7.mono (Nat.le_trans (Nat.le_trans HV.o.size HV'.out.size) HV2.o.size))⟩
         . have bC : ((q.outs.length : Int) == results) = false := by simp [hC]
           have HQ := zH (show ip s nm cs k results = false by rw [HCQ.o, HA.o, HB.o, bC]; rfl)
           clear hC
           go_wp2_with fail
           go_ret
           exact ⟨ah HQ.o.symm, (HV.o.trans (HV'.out.mono HV.o.size)).trans (HV2.o.mono (Nat.le_trans HV.o.size HV'.out.size))⟩
       . have bB : ((q.funs.length : Int) == (cs.length : Int)) = false := by simp; omega
         have HQ := zH (show ip s nm cs k results = false by rw [HCQ.o, HA.o, beq_eq_false_iff_ne.2 hB]; rfl)
         clear hB
         go_wp2_with fail
         go_ret
         exact ⟨ah HQ.o.symm, (HV.o.trans (HV'.out.mono HV.o.size)).trans (HV2.o.mono (Nat.le_trans HV.o.size HV'.out.size))⟩
     . have bA : ((q.ins.length : Int) == (k : Int)) = false := by simp; omega
       have HQ := zH (show ip s nm cs k results = false by rw [HCQ.o, beq_eq_false_iff_ne.2 hA]; rfl)
       clear hA
       go_wp2_with fail
       go_ret
       exact ⟨ah HQ.o.symm, (HV.o.trans (HV'.out.mono HV.o.size)).trans (HV2.o.mono (Nat.le_trans HV.o.size HV'.out.size))⟩
 . have HCF := zH hc
   have HQ := zH (show ip s nm cs k results = ((cs.length : Int) == 0) by rw [ip, if_pos hc, FN])
   clear hc
   go_wp2_with fail
   go_ret
   exact ⟨ah HQ.o.symm, HV.o.trans (HV'.out.mono HV.o.size)⟩
end
end Go.Proofs.YtiholfmmphcbeaaGreatDoor
namespace Go.Proofs.YtiholfmmphcbeaaGreatDoor
open _root_.Go.Proofs.Tryz
open Go.RowKit
def jH (op r i : Int) : Int := if op = 15 /\ i = 0 then r else 1
def GC (op r i : Int) (u : Bool) (w : World) (e : Ending) (w' : World) : Prop := e = .returned (.agg #[.int .i64 (jH op r i), .bool (u || op == 13)]) /\ Below w.heap.size w w'
theorem xH : (prog.info? 181).map (·.size) = some 2 := by kernel_rfl
theorem fh {tmps : Array Value} {w : World} {N : Nat} {x0 x1 : Value} (hp : tmps.getD 6 undef = .pointer (some ⟨N, 0, none⟩)) (hg : w.heap[N]? = some (.cells #[x0, x1] 181 (0, 0))) :
  (results f138 tmps).run prog w = .ok (.agg #[x0, x1]) w :=
 results_cell_row results138 tmps w N 181 _ (0, 0) _ hp hg underlying181 rfl xH
theorem FO (op r i n : Int) (u : Bool) (s0 : ByteArray) (A B : Option Addr) (m1 j1 m2 j2 : Nat) (w : World) : Calls prog 138 #[.agg #[.int .i64 r, .bool u], .agg #[.int .i64 op, .string s0, .int .i64 n, .slice A m1 j1, .slice B m2 j2], .int .i64 i] w (GC op r i u w) := by
 cases u
 . by_cases h15 : op = 15
   . subst h15; by_cases hi : i = 0
     . subst hi; have HR := zH (show jH 15 r 0 = r by simp [jH]); go_enter func138, ntmps138
       go_wp2_with fail
       exact bodyPost_ret (fh rfl (az (bh (by simp)))) rfl ⟨by rw [HR.o]; rfl, (((((Below.refl _ w).alloc (Nat.le_refl _) _).alloc (by simp) _).alloc (by simp; omega) _).alloc (by simp; omega) _)⟩
     . have hb : (i == 0) = false := by simp [hi]
       have HR := zH (show jH 15 r i = 1 by simp [jH, hi]); clear hi; go_enter func138, ntmps138
       go_wp2_with fail
       exact bodyPost_ret (fh rfl (az (bh (by simp)))) rfl ⟨by rw [HR.o]; rfl, (((((Below.refl _ w).alloc (Nat.le_refl _) _).alloc (by simp) _).alloc (by simp; omega) _).alloc (by simp; omega) _)⟩
   . have hb : (op == 15) = false := by simp [h15]
     have HR := zH (show jH op r i = 1 by simp [jH, h15]); clear h15; go_enter func138, ntmps138
     go_wp2_with fail
     exact bodyPost_ret (fh rfl (az (bh (by simp)))) rfl ⟨by rw [HR.o]; simp, (((((Below.refl _ w).alloc (Nat.le_refl _) _).alloc (by simp) _).alloc (by simp; omega) _).alloc (by simp; omega) _)⟩
 . by_cases h15 : op = 15
   . subst h15; by_cases hi : i = 0
     . subst hi; have HR := zH (show jH 15 r 0 = r by simp [jH]); go_enter func138, ntmps138
       go_wp2_with fail
       exact bodyPost_ret (fh rfl (az (bh (by simp)))) rfl ⟨by rw [HR.o]; simp, (((((Below.refl _ w).alloc (Nat.le_refl _) _).alloc (by simp) _).alloc (by simp; omega) _).alloc (by simp; omega) _)⟩
     . have hb : (i == 0) = false := by simp [hi]
       have HR := zH (show jH 15 r i = 1 by simp [jH, hi]); clear hi; go_enter func138, ntmps138
       go_wp2_with fail
       exact bodyPost_ret (fh rfl (az (bh (by simp)))) rfl ⟨by rw [HR.o]; simp, (((((Below.refl _ w).alloc (Nat.le_refl _) _).alloc (by simp) _).alloc (by simp; omega) _).alloc (by simp; omega) _)⟩
   . have hb : (op == 15) = false := by simp [h15]
     have HR := zH (show jH op r i = 1 by simp [jH, h15]); clear h15; go_enter func138, ntmps138
     go_wp2_with fail
     exact bodyPost_ret (fh rfl (az (bh (by simp)))) rfl ⟨by rw [HR.o]; simp, (((((Below.refl _ w).alloc (Nat.le_refl _) _).alloc (by simp) _).alloc (by simp; omega) _).alloc (by simp; omega) _)⟩
end Go.Proofs.YtiholfmmphcbeaaGreatDoor
namespace Go.Proofs.YtiholfmmphcbeaaGreatDoor
open _root_.Go.Proofs.Tryz
open Go.RowKit
open Go.ChangeMaps Go.MapKept
open Go.Maps
section
variable {S P e1 c1 n1 t1 f1 v1 : Nat} {nd : Value × Value × Value × Value × Value} {s : dM}
theorem Ih {w : World} (h : dT w S P e1 c1 n1 t1 f1 v1 nd s) {n : Int} {nm : Tx} {A B : Option Addr} {cs : List Tx} {ca k kc : Nat} (hnm : nm.length <= maxLen) (hcs : aF w (.slice A cs.length ca) cs) (r : Int) (u : Bool) :
  Calls prog 137 #[.pointer (some ⟨S, 0, none⟩), .agg #[.int .i64 4, .string (str nm), .int .i64 n, .slice A cs.length ca, .slice B k kc], .agg #[.int .i64 r, .bool u]] w (ar (bg s 4 nm cs k r u) w) := by
 have HS := zH h; have HNM := zH hnm; have HCS := zH hcs; have hlc : cs.length <= 9223372036854775807 := (by obtain ⟨_, _, e, h1, h2, _⟩ := hcs; injection e with _ _ e3; unfold maxLen at h2; omega); clear h hnm hcs; obtain ⟨b, hb⟩ : ∃ b, s.vars.contains nm = b := ⟨_, rfl⟩; have HBQ := zH hb; have HQ := zH (show bg s 4 nm cs k r u = b by rw [<- hb]; simp [bg]); clear hb; go_enter func137, ntmps137
 go_wp2_with fail
 have a1 : Below w.heap.size w (w.alloc (.cells #[.int .i64 4, .string (str nm), .int .i64 n, .slice A cs.length ca, .slice B k kc] 81)) := (Below.refl _ w).alloc (Nat.le_refl _) _; have HV := zH (a1.alloc (by simp) (.cells #[.int .i64 r, .bool u] 181)); have B1 := zH (az (o := .cells #[.int .i64 r, .bool u] 181) (heap_alloc_new w (.cells #[.int .i64 4, .string (str nm), .int .i64 n, .slice A cs.length ca, .slice B k kc] 81))); have B2 := zH (show ((w.alloc (.cells #[.int .i64 4, .string (str nm), .int .i64 n, .slice A cs.length ca, .slice B k kc] 81)).alloc (.cells #[.int .i64 r, .bool u] 181)).heap[w.heap.size + 1]? = some (.cells #[.int .i64 r, .bool u] 181 (0, 0)) from bh (by simp)); generalize (w.alloc (.cells #[.int .i64 4, .string (str nm), .int .i64 n, .slice A cs.length ca, .slice B k kc] 81)).alloc (.cells #[.int .i64 r, .bool u] 181) = V at *; clear a1; have HSV := zH (HS.o.under HV.o)
 have KEEP := zH (show ∀ W, Below V.heap.size V W -> (λ W => W.cell? ⟨S, 0, none⟩ = some (.pointer (some ⟨P, 0, none⟩)) /\ W.cell? ⟨S, 7, none⟩ = some (.map (some v1)) /\ W.cell? ⟨P, 1, none⟩ = some (.map (some c1)) /\ W.cell? ⟨w.heap.size, 1, none⟩ = some (.string (str nm)) /\ W.cell? ⟨w.heap.size, 3, none⟩ = some (.slice A cs.length ca) /\ W.cell? ⟨w.heap.size + 1, 1, none⟩ = some (.bool u)) W from
  λ W hW => by
   obtain ⟨b0, _, _, _, _, _, _, b7⟩ := gq (ao hW HSV.o.box); obtain ⟨_, d1, _, _⟩ := (HSV.o.under hW).prog.row; obtain ⟨_, g1, _, g3, _⟩ := aW (ao hW B1.o); obtain ⟨_, j1⟩ := bb (ao hW B2.o); exact ⟨b0, b7, d1, g1, g3, j1⟩)
 obtain ⟨lv, hmv, hkv, hsv⟩ := HSV.o.mv; have HMV := zH hmv; have HKV := zH hkv; have HSH := zH hsv; clear hmv hkv hsv; refine wp_region_held_drew (S := (λ W => W.cell? ⟨S, 0, none⟩ = some (.pointer (some ⟨P, 0, none⟩)) /\ W.cell? ⟨S, 7, none⟩ = some (.map (some v1)) /\ W.cell? ⟨P, 1, none⟩ = some (.map (some c1)) /\ W.cell? ⟨w.heap.size, 1, none⟩ = some (.string (str nm)) /\ W.cell? ⟨w.heap.size, 3, none⟩ = some (.slice A cs.length ca) /\ W.cell? ⟨w.heap.size + 1, 1, none⟩ = some (.bool u))) zK ?_ (λ hHeld => ?_)
 . exact KEEP.o _ (Below.refl _ _).drew
 refine aa 0 ?_; refine aa 1 ?_; refine aa 2 ?_; refine aa 3 ?_; refine aa 4 ?_; refine aa 5 ?_; refine aq 6 zK rfl (λ K hK => ?_); go_simp
 (go_at_call 132
  (with_reducible refine (ec (HMV.o.under (zB V).drew) HSH.o HNM.o).mono ?_); rintro e w7 ⟨he, hb7⟩; rw [HKV.o, HBQ.o] at he; subst he; obtain ⟨G1w, rfl⟩ := zW w7; have G1 := zH (((zB V).drew).trans (hb7.mono ((zB V).drew).size)); clear hb7)
 refine hK.out _ _ (KEEP.o _ ?_) (λ hHeld => ?_)
 . (repeat (first | exact Below.refl _ _ | exact G1.o | refine Below.drew ?_ | refine Below.alloc ?_ (by simp) _ | refine Below.setCell ?_ (by simp) _))
 clear hK K; try simp only [Act.put, aO, aM, aN]
 refine aa 7 ?_; refine wpAnyH_done zK ?_ _; go_wp2_with fail
 go_ret; exact ⟨ah HQ.o.symm, HV.o.trans (G1.o.mono HV.o.size)⟩
theorem Ii {w : World} (h : dT w S P e1 c1 n1 t1 f1 v1 nd s) {n : Int} {nm : Tx} {A B : Option Addr} {cs : List Tx} {ca k kc : Nat} (hnm : nm.length <= maxLen) (hcs : aF w (.slice A cs.length ca) cs) (r : Int) (u : Bool) :
  Calls prog 137 #[.pointer (some ⟨S, 0, none⟩), .agg #[.int .i64 3, .string (str nm), .int .i64 n, .slice A cs.length ca, .slice B k kc], .agg #[.int .i64 r, .bool u]] w (ar (bg s 3 nm cs k r u) w) := by
 have HS := zH h; have HNM := zH hnm; have HCS := zH hcs; have hlc : cs.length <= 9223372036854775807 := (by obtain ⟨_, _, e, h1, h2, _⟩ := hcs; injection e with _ _ e3; unfold maxLen at h2; omega); clear h hnm hcs; obtain ⟨b, hb⟩ : ∃ b, s.prog.conKeys.contains nm = b := ⟨_, rfl⟩; have HBQ := zH hb; have HQ := zH (show bg s 3 nm cs k r u = b by rw [<- hb]; simp [bg]); clear hb; go_enter func137, ntmps137
 go_wp2_with fail
 have a1 : Below w.heap.size w (w.alloc (.cells #[.int .i64 3, .string (str nm), .int .i64 n, .slice A cs.length ca, .slice B k kc] 81)) := (Below.refl _ w).alloc (Nat.le_refl _) _; have HV := zH (a1.alloc (by simp) (.cells #[.int .i64 r, .bool u] 181)); have B1 := zH (az (o := .cells #[.int .i64 r, .bool u] 181) (heap_alloc_new w (.cells #[.int .i64 3, .string (str nm), .int .i64 n, .slice A cs.length ca, .slice B k kc] 81))); have B2 := zH (show ((w.alloc (.cells #[.int .i64 3, .string (str nm), .int .i64 n, .slice A cs.length ca, .slice B k kc] 81)).alloc (.cells #[.int .i64 r, .bool u] 181)).heap[w.heap.size + 1]? = some (.cells #[.int .i64 r, .bool u] 181 (0, 0)) from bh (by simp)); generalize (w.alloc (.cells #[.int .i64 3, .string (str nm), .int .i64 n, .slice A cs.length ca, .slice B k kc] 81)).alloc (.cells #[.int .i64 r, .bool u] 181) = V at *; clear a1; have HSV := zH (HS.o.under HV.o)
 have KEEP := zH (show ∀ W, Below V.heap.size V W -> (λ W => W.cell? ⟨S, 0, none⟩ = some (.pointer (some ⟨P, 0, none⟩)) /\ W.cell? ⟨S, 7, none⟩ = some (.map (some v1)) /\ W.cell? ⟨P, 1, none⟩ = some (.map (some c1)) /\ W.cell? ⟨w.heap.size, 1, none⟩ = some (.string (str nm)) /\ W.cell? ⟨w.heap.size, 3, none⟩ = some (.slice A cs.length ca) /\ W.cell? ⟨w.heap.size + 1, 1, none⟩ = some (.bool u)) W from
  λ W hW => by
   obtain ⟨b0, _, _, _, _, _, _, b7⟩ := gq (ao hW HSV.o.box); obtain ⟨_, d1, _, _⟩ := (HSV.o.under hW).prog.row; obtain ⟨_, g1, _, g3, _⟩ := aW (ao hW B1.o); obtain ⟨_, j1⟩ := bb (ao hW B2.o); exact ⟨b0, b7, d1, g1, g3, j1⟩)
 obtain ⟨lc, hmc, hrc⟩ := HSV.o.prog.mc; have HMC := zH hmc; have HRC := zH hrc; clear hmc hrc; refine wp_region_held_drew (S := (λ W => W.cell? ⟨S, 0, none⟩ = some (.pointer (some ⟨P, 0, none⟩)) /\ W.cell? ⟨S, 7, none⟩ = some (.map (some v1)) /\ W.cell? ⟨P, 1, none⟩ = some (.map (some c1)) /\ W.cell? ⟨w.heap.size, 1, none⟩ = some (.string (str nm)) /\ W.cell? ⟨w.heap.size, 3, none⟩ = some (.slice A cs.length ca) /\ W.cell? ⟨w.heap.size + 1, 1, none⟩ = some (.bool u))) zK ?_ (λ hHeld => ?_)
 . exact KEEP.o _ (Below.refl _ _).drew
 refine aa 0 ?_; refine aa 1 ?_; refine aa 2 ?_; refine aa 3 ?_; refine aa 4 ?_; refine aa 5 ?_; refine aa 6 ?_; refine aa 7 ?_; refine aa 8 ?_; refine aq 9 zK rfl (λ K hK => ?_); go_simp
 (go_at_call 90
  (with_reducible refine (jm (HMC.o.under (zB V).drew) HRC.o.sh HNM.o).mono ?_); rintro e w7 ⟨he, hb7⟩; rw [HRC.o.1, show s.prog.cons.map Prod.fst = s.prog.conKeys from rfl, HBQ.o] at he; subst he; obtain ⟨G1w, rfl⟩ := zW w7; have G1 := zH (((zB V).drew).trans (hb7.mono ((zB V).drew).size)); clear hb7)
 refine hK.out _ _ (KEEP.o _ ?_) (λ hHeld => ?_)
 . (repeat (first | exact Below.refl _ _ | exact G1.o | refine Below.drew ?_ | refine Below.alloc ?_ (by simp) _ | refine Below.setCell ?_ (by simp) _))
 clear hK K; try simp only [Act.put, aO, aM, aN]
 refine aa 10 ?_; refine wpAnyH_done zK ?_ _; go_wp2_with fail
 go_ret; exact ⟨ah HQ.o.symm, HV.o.trans (G1.o.mono HV.o.size)⟩
theorem FI {w : World} (h : dT w S P e1 c1 n1 t1 f1 v1 nd s) {n : Int} {nm : Tx} {A B : Option Addr} {cs : List Tx} {ca k kc : Nat} (hnm : nm.length <= maxLen) (hcs : aF w (.slice A cs.length ca) cs) (r : Int) (u : Bool) (hne : cs ≠ []) :
  Calls prog 137 #[.pointer (some ⟨S, 0, none⟩), .agg #[.int .i64 11, .string (str nm), .int .i64 n, .slice A cs.length ca, .slice B k kc], .agg #[.int .i64 r, .bool u]] w (ar (bg s 11 nm cs k r u) w) := by
 have HS := zH h; have HNM := zH hnm; have HCS := zH hcs; have hlc : cs.length <= 9223372036854775807 := (by obtain ⟨_, _, e, h1, h2, _⟩ := hcs; injection e with _ _ e3; unfold maxLen at h2; omega); clear h hnm hcs; have HQ := zH (show bg s 11 nm cs k r u = (!u && (s.vars.contains nm && s.prog.conKeys.contains (cs.headD []))) by simp [bg]); obtain ⟨c0, rr, hcc⟩ := List.exists_cons_of_ne_nil hne
 have HE0 := zH (show ∃ a, A = some a /\ a.block < w.heap.size /\ w.cell? a = some (.string (str c0)) /\ c0.length <= maxLen by
  obtain ⟨A', c', e', _, _, he⟩ := HCS.o; injection e' with e1 _ _; obtain ⟨L0, hE0, rfl, hcl⟩ := he 0 c0 (by rw [hcc]; rfl); obtain ⟨a, ea, hab, _, q0⟩ := dL hE0; simp only [Nat.zero_mul] at q0; rw [add_zero] at q0; exact ⟨a, e1.trans ea, hab, q0, hcl⟩)
 have HHD := zH (show cs.headD [] = c0 by rw [hcc]; rfl); have hpos : 0 < cs.length := (by rw [hcc]; simp); clear hne hcc; obtain ⟨a, rfl, hab, q0, hcl⟩ := HE0.o; have HCL := zH hcl; obtain ⟨b, hb⟩ : ∃ b, s.prog.conKeys.contains c0 = b := ⟨_, rfl⟩; have HBQ := zH hb; clear hcl hb; go_enter func137, ntmps137
 go_wp2_with fail
 have a1 : Below w.heap.size w (w.alloc (.cells #[.int .i64 11, .string (str nm), .int .i64 n, .slice (some a) cs.length ca, .slice B k kc] 81)) := (Below.refl _ w).alloc (Nat.le_refl _) _; have HV := zH (a1.alloc (by simp) (.cells #[.int .i64 r, .bool u] 181)); have B1 := zH (az (o := .cells #[.int .i64 r, .bool u] 181) (heap_alloc_new w (.cells #[.int .i64 11, .string (str nm), .int .i64 n, .slice (some a) cs.length ca, .slice B k kc] 81))); have B2 := zH (show ((w.alloc (.cells #[.int .i64 11, .string (str nm), .int .i64 n, .slice (some a) cs.length ca, .slice B k kc] 81)).alloc (.cells #[.int .i64 r, .bool u] 181)).heap[w.heap.size + 1]? = some (.cells #[.int .i64 r, .bool u] 181 (0, 0)) from bh (by simp)); generalize (w.alloc (.cells #[.int .i64 11, .string (str nm), .int .i64 n, .slice (some a) cs.length ca, .slice B k kc] 81)).alloc (.cells #[.int .i64 r, .bool u] 181) = V at *; clear a1; have HSV := zH (HS.o.under HV.o)
 have KEEP := zH (show ∀ W, Below V.heap.size V W -> (λ W => W.cell? ⟨S, 0, none⟩ = some (.pointer (some ⟨P, 0, none⟩)) /\ W.cell? ⟨S, 7, none⟩ = some (.map (some v1)) /\ W.cell? ⟨P, 1, none⟩ = some (.map (some c1)) /\ W.cell? ⟨w.heap.size, 1, none⟩ = some (.string (str nm)) /\ W.cell? ⟨w.heap.size, 3, none⟩ = some (.slice (some a) cs.length ca) /\ W.cell? ⟨w.heap.size + 1, 1, none⟩ = some (.bool u) /\ W.cell? a = some (.string (str c0))) W from
  λ W hW => by
   obtain ⟨b0, _, _, _, _, _, _, b7⟩ := gq (ao hW HSV.o.box); obtain ⟨_, d1, _, _⟩ := (HSV.o.under hW).prog.row; obtain ⟨_, g1, _, g3, _⟩ := aW (ao hW B1.o); obtain ⟨_, j1⟩ := bb (ao hW B2.o); exact ⟨b0, b7, d1, g1, g3, j1, (hW.cell (p := a) (Nat.lt_of_lt_of_le hab HV.o.size)).trans ((HV.o.cell (p := a) hab).trans q0)⟩)
 obtain ⟨lv, hmv, hkv, hsv⟩ := HSV.o.mv; have HMV := zH hmv; have HKV := zH hkv; have HSH := zH hsv; clear hmv hkv hsv; obtain ⟨lc, hmc, hrc⟩ := HSV.o.prog.mc; have HMC := zH hmc; have HRC := zH hrc; clear hmc hrc; cases u
 . cases hc : s.vars.contains nm
   . have HC := zH hc; clear hc; refine wp_region_held_drew (S := (λ W => W.cell? ⟨S, 0, none⟩ = some (.pointer (some ⟨P, 0, none⟩)) /\ W.cell? ⟨S, 7, none⟩ = some (.map (some v1)) /\ W.cell? ⟨P, 1, none⟩ = some (.map (some c1)) /\ W.cell? ⟨w.heap.size, 1, none⟩ = some (.string (str nm)) /\ W.cell? ⟨w.heap.size, 3, none⟩ = some (.slice (some a) cs.length ca) /\ W.cell? ⟨w.heap.size + 1, 1, none⟩ = some (.bool false) /\ W.cell? a = some (.string (str c0)))) zK ?_ (λ hHeld => ?_)
     . exact KEEP.o _ (Below.refl _ _).drew
     refine aa 0 ?_; refine aa 1 ?_; refine aa 2 ?_; refine aa 3 ?_; refine aa 4 ?_; refine aa 5 ?_; refine aa 6 ?_; refine aa 7 ?_; refine aa 8 ?_; refine aa 9 ?_; refine aq 10 zK rfl (λ K hK => ?_); go_simp
     (go_at_call 132
      (with_reducible refine (ec (HMV.o.under (zB V).drew) HSH.o HNM.o).mono ?_); rintro e w7 ⟨he, hb7⟩; rw [HKV.o, HC.o] at he; subst he; obtain ⟨G1w, rfl⟩ := zW w7; have G1 := zH (((zB V).drew).trans (hb7.mono ((zB V).drew).size)); clear hb7)
     refine hK.out _ _ (KEEP.o _ ?_) (λ hHeld => ?_)
     . (repeat (first | exact Below.refl _ _ | exact G1.o | refine Below.drew ?_ | refine Below.alloc ?_ (by simp) _ | refine Below.setCell ?_ (by simp) _))
     clear hK K; try simp only [Act.put, aO, aM, aN]
     refine aa 11 ?_; refine aa 12 ?_; refine ag 13 ?_; refine ag 14 ?_; refine ag 15 ?_; refine ag 16 ?_; refine ag 17 ?_; refine ag 18 ?_; refine ag 19 ?_; refine ag 20 ?_; refine ag 21 ?_; refine ag 22 ?_; refine ag 23 ?_; refine ag 24 ?_; refine aa 25 ?_; refine aa 26 ?_; refine wpAnyH_done zK ?_ _; go_wp2_with fail
     go_ret; exact ⟨ah (by rw [HQ.o, HC.o]; rfl), HV.o.trans (G1.o.mono HV.o.size)⟩
   . have HC := zH hc; clear hc; refine wp_region_held_drew (S := (λ W => W.cell? ⟨S, 0, none⟩ = some (.pointer (some ⟨P, 0, none⟩)) /\ W.cell? ⟨S, 7, none⟩ = some (.map (some v1)) /\ W.cell? ⟨P, 1, none⟩ = some (.map (some c1)) /\ W.cell? ⟨w.heap.size, 1, none⟩ = some (.string (str nm)) /\ W.cell? ⟨w.heap.size, 3, none⟩ = some (.slice (some a) cs.length ca) /\ W.cell? ⟨w.heap.size + 1, 1, none⟩ = some (.bool false) /\ W.cell? a = some (.string (str c0)))) zK ?_ (λ hHeld => ?_)
     . exact KEEP.o _ (Below.refl _ _).drew
     refine aa 0 ?_; refine aa 1 ?_; refine aa 2 ?_; refine aa 3 ?_; refine aa 4 ?_; refine aa 5 ?_; refine aa 6 ?_; refine aa 7 ?_; refine aa 8 ?_; refine aa 9 ?_; refine aq 10 zK rfl (λ K hK => ?_); go_simp
     (go_at_call 132
      (with_reducible refine (ec (HMV.o.under (zB V).drew) HSH.o HNM.o).mono ?_); rintro e w7 ⟨he, hb7⟩; rw [HKV.o, HC.o] at he; subst he; obtain ⟨G1w, rfl⟩ := zW w7; have G1 := zH (((zB V).drew).trans (hb7.mono ((zB V).drew).size)); clear hb7)
     refine hK.out _ _ (KEEP.o _ ?_) (λ hHeld => ?_)
     . (repeat (first | exact Below.refl _ _ | exact G1.o | refine Below.drew ?_ | refine Below.alloc ?_ (by simp) _ | refine Below.setCell ?_ (by simp) _))
     clear hK K; try simp only [Act.put, aO, aM, aN]
     refine aa 11 ?_; refine aa 12 ?_; refine aa 13 ?_; refine aa 14 ?_; refine aa 15 ?_; refine aa 16 ?_; refine aa 17 ?_; refine aa 18 ?_; refine aa 19 ?_; refine aa 20 ?_; refine aa 21 ?_; refine aa 22 ?_; refine aa 23 ?_; refine aq 24 zK rfl (λ K hK => ?_); go_simp
     (go_at_call 90
      (with_reducible refine (jm (HMC.o.under G1.o) HRC.o.sh HCL.o).mono ?_); rintro e w7 ⟨he, hb7⟩; rw [HRC.o.1, show s.prog.cons.map Prod.fst = s.prog.conKeys from rfl, HBQ.o] at he; subst he; obtain ⟨G2w, rfl⟩ := zW w7; have G2 := zH ((G1.o).trans (hb7.mono (G1.o).size)); clear hb7)
     refine hK.out _ _ (KEEP.o _ ?_) (λ hHeld => ?_)
     . (repeat (first | exact Below.refl _ _ | exact G2.o | refine Below.drew ?_ | refine Below.alloc ?_ (by simp) _ | refine Below.setCell ?_ (by simp) _))
     clear hK K; try simp only [Act.put, aO, aM, aN]
     refine aa 25 ?_; refine aa 26 ?_; refine wpAnyH_done zK ?_ _; go_wp2_with fail
     go_ret; exact ⟨ah (by rw [HQ.o, HC.o, HHD.o, HBQ.o]; rfl), HV.o.trans (G2.o.mono HV.o.size)⟩
 . skip
   refine wp_region_held_drew (S := (λ W => W.cell? ⟨S, 0, none⟩ = some (.pointer (some ⟨P, 0, none⟩)) /\ W.cell? ⟨S, 7, none⟩ = some (.map (some v1)) /\ W.cell? ⟨P, 1, none⟩ = some (.map (some c1)) /\ W.cell? ⟨w.heap.size, 1, none⟩ = some (.string (str nm)) /\ W.cell? ⟨w.heap.size, 3, none⟩ = some (.slice (some a) cs.length ca) /\ W.cell? ⟨w.heap.size + 1, 1, none⟩ = some (.bool true) /\ W.cell? a = some (.string (str c0)))) zK ?_ (λ hHeld => ?_)
   . exact KEEP.o _ (Below.refl _ _).drew
   refine aa 0 ?_; refine aa 1 ?_; refine aa 2 ?_; refine aa 3 ?_; refine ag 4 ?_; refine ag 5 ?_; refine ag 6 ?_; refine ag 7 ?_; refine ag 8 ?_; refine ag 9 ?_; refine ag 10 ?_; refine aa 11 ?_; refine aa 12 ?_; refine ag 13 ?_; refine ag 14 ?_; refine ag 15 ?_; refine ag 16 ?_; refine ag 17 ?_; refine ag 18 ?_; refine ag 19 ?_; refine ag 20 ?_; refine ag 21 ?_; refine ag 22 ?_; refine ag 23 ?_; refine ag 24 ?_; refine aa 25 ?_; refine aa 26 ?_; refine wpAnyH_done zK ?_ _; go_wp2_with fail
   go_ret; exact ⟨ah (by rw [HQ.o]; rfl), HV.o.drew⟩
theorem FH {w : World} (h : dT w S P e1 c1 n1 t1 f1 v1 nd s) {n : Int} {nm : Tx} {A B : Option Addr} {cs : List Tx} {ca k kc : Nat} (hnm : nm.length <= maxLen) (hcs : aF w (.slice A cs.length ca) cs) (r : Int) (u : Bool) (hne : cs ≠ []) :
  Calls prog 137 #[.pointer (some ⟨S, 0, none⟩), .agg #[.int .i64 12, .string (str nm), .int .i64 n, .slice A cs.length ca, .slice B k kc], .agg #[.int .i64 r, .bool u]] w (ar (bg s 12 nm cs k r u) w) := by
 have HS := zH h; have HNM := zH hnm; have HCS := zH hcs; have hlc : cs.length <= 9223372036854775807 := (by obtain ⟨_, _, e, h1, h2, _⟩ := hcs; injection e with _ _ e3; unfold maxLen at h2; omega); clear h hnm hcs; have HQ := zH (show bg s 12 nm cs k r u = (!u && (s.vars.contains nm && ez s cs)) by simp [bg]); have HNE := zH hne; clear hne; go_enter func137, ntmps137
 go_wp2_with fail
 have a1 : Below w.heap.size w (w.alloc (.cells #[.int .i64 12, .string (str nm), .int .i64 n, .slice A cs.length ca, .slice B k kc] 81)) := (Below.refl _ w).alloc (Nat.le_refl _) _; have HV := zH (a1.alloc (by simp) (.cells #[.int .i64 r, .bool u] 181)); have B1 := zH (az (o := .cells #[.int .i64 r, .bool u] 181) (heap_alloc_new w (.cells #[.int .i64 12, .string (str nm), .int .i64 n, .slice A cs.length ca, .slice B k kc] 81))); have B2 := zH (show ((w.alloc (.cells #[.int .i64 12, .string (str nm), .int .i64 n, .slice A cs.length ca, .slice B k kc] 81)).alloc (.cells #[.int .i64 r, .bool u] 181)).heap[w.heap.size + 1]? = some (.cells #[.int .i64 r, .bool u] 181 (0, 0)) from bh (by simp)); generalize (w.alloc (.cells #[.int .i64 12, .string (str nm), .int .i64 n, .slice A cs.length ca, .slice B k kc] 81)).alloc (.cells #[.int .i64 r, .bool u] 181) = V at *; clear a1; have HSV := zH (HS.o.under HV.o)
 have KEEP := zH (show ∀ W, Below V.heap.size V W -> (λ W => W.cell? ⟨S, 0, none⟩ = some (.pointer (some ⟨P, 0, none⟩)) /\ W.cell? ⟨S, 7, none⟩ = some (.map (some v1)) /\ W.cell? ⟨P, 1, none⟩ = some (.map (some c1)) /\ W.cell? ⟨w.heap.size, 1, none⟩ = some (.string (str nm)) /\ W.cell? ⟨w.heap.size, 3, none⟩ = some (.slice A cs.length ca) /\ W.cell? ⟨w.heap.size + 1, 1, none⟩ = some (.bool u)) W from
  λ W hW => by
   obtain ⟨b0, _, _, _, _, _, _, b7⟩ := gq (ao hW HSV.o.box); obtain ⟨_, d1, _, _⟩ := (HSV.o.under hW).prog.row; obtain ⟨_, g1, _, g3, _⟩ := aW (ao hW B1.o); obtain ⟨_, j1⟩ := bb (ao hW B2.o); exact ⟨b0, b7, d1, g1, g3, j1⟩)
 obtain ⟨lv, hmv, hkv, hsv⟩ := HSV.o.mv; have HMV := zH hmv; have HKV := zH hkv; have HSH := zH hsv; clear hmv hkv hsv; cases u
 . cases hc : s.vars.contains nm
   . have HC := zH hc; clear hc; refine wp_region_held_drew (S := (λ W => W.cell? ⟨S, 0, none⟩ = some (.pointer (some ⟨P, 0, none⟩)) /\ W.cell? ⟨S, 7, none⟩ = some (.map (some v1)) /\ W.cell? ⟨P, 1, none⟩ = some (.map (some c1)) /\ W.cell? ⟨w.heap.size, 1, none⟩ = some (.string (str nm)) /\ W.cell? ⟨w.heap.size, 3, none⟩ = some (.slice A cs.length ca) /\ W.cell? ⟨w.heap.size + 1, 1, none⟩ = some (.bool false))) zK ?_ (λ hHeld => ?_)
     . exact KEEP.o _ (Below.refl _ _).drew
     refine aa 0 ?_; refine aa 1 ?_; refine aa 2 ?_; refine aa 3 ?_; refine aa 4 ?_; refine aa 5 ?_; refine aa 6 ?_; refine aa 7 ?_; refine aa 8 ?_; refine aa 9 ?_; refine aq 10 zK rfl (λ K hK => ?_); go_simp
     (go_at_call 132
      (with_reducible refine (ec (HMV.o.under (zB V).drew) HSH.o HNM.o).mono ?_); rintro e w7 ⟨he, hb7⟩; rw [HKV.o, HC.o] at he; subst he; obtain ⟨G1w, rfl⟩ := zW w7; have G1 := zH (((zB V).drew).trans (hb7.mono ((zB V).drew).size)); clear hb7)
     refine hK.out _ _ (KEEP.o _ ?_) (λ hHeld => ?_)
     . (repeat (first | exact Below.refl _ _ | exact G1.o | refine Below.drew ?_ | refine Below.alloc ?_ (by simp) _ | refine Below.setCell ?_ (by simp) _))
     clear hK K; try simp only [Act.put, aO, aM, aN]
     refine aa 11 ?_; refine aa 12 ?_; refine ag 13 ?_; refine ag 14 ?_; refine ag 15 ?_; refine ag 16 ?_; refine aa 17 ?_; refine aa 18 ?_; refine wpAnyH_done zK ?_ _; go_wp2_with fail
     go_ret; exact ⟨ah (by rw [HQ.o, HC.o]; rfl), HV.o.trans (G1.o.mono HV.o.size)⟩
   . have HC := zH hc; clear hc; refine wp_region_held_drew (S := (λ W => W.cell? ⟨S, 0, none⟩ = some (.pointer (some ⟨P, 0, none⟩)) /\ W.cell? ⟨S, 7, none⟩ = some (.map (some v1)) /\ W.cell? ⟨P, 1, none⟩ = some (.map (some c1)) /\ W.cell? ⟨w.heap.size, 1, none⟩ = some (.string (str nm)) /\ W.cell? ⟨w.heap.size, 3, none⟩ = some (.slice A cs.length ca) /\ W.cell? ⟨w.heap.size + 1, 1, none⟩ = some (.bool false))) zK ?_ (λ hHeld => ?_)
     . exact KEEP.o _ (Below.refl _ _).drew
     refine aa 0 ?_; refine aa 1 ?_; refine aa 2 ?_; refine aa 3 ?_; refine aa 4 ?_; refine aa 5 ?_; refine aa 6 ?_; refine aa 7 ?_; refine aa 8 ?_; refine aa 9 ?_; refine aq 10 zK rfl (λ K hK => ?_); go_simp
     (go_at_call 132
      (with_reducible refine (ec (HMV.o.under (zB V).drew) HSH.o HNM.o).mono ?_); rintro e w7 ⟨he, hb7⟩; rw [HKV.o, HC.o] at he; subst he; obtain ⟨G1w, rfl⟩ := zW w7; have G1 := zH (((zB V).drew).trans (hb7.mono ((zB V).drew).size)); clear hb7)
     refine hK.out _ _ (KEEP.o _ ?_) (λ hHeld => ?_)
     . (repeat (first | exact Below.refl _ _ | exact G1.o | refine Below.drew ?_ | refine Below.alloc ?_ (by simp) _ | refine Below.setCell ?_ (by simp) _))
     clear hK K; try simp only [Act.put, aO, aM, aN]
     refine aa 11 ?_; refine aa 12 ?_; refine aa 13 ?_; refine aa 14 ?_; refine aa 15 ?_; refine aq 16 zK rfl (λ K hK => ?_); go_simp
     (go_at_call 167
      (with_reducible refine (ng (HSV.o.under G1.o) ((HCS.o.under HV.o).under G1.o) HNE.o).mono ?_); rintro e w7 ⟨rfl, hb7⟩; obtain ⟨G2w, rfl⟩ := zW w7; have G2 := zH (G1.o.trans (hb7.mono G1.o.size)); clear hb7)
     refine hK.out _ _ (KEEP.o _ ?_) (λ hHeld => ?_)
     . (repeat (first | exact Below.refl _ _ | exact G2.o | refine Below.drew ?_ | refine Below.alloc ?_ (by simp) _ | refine Below.setCell ?_ (by simp) _))
     clear hK K; try simp only [Act.put, aO, aM, aN]
     refine aa 17 ?_; refine aa 18 ?_; refine wpAnyH_done zK ?_ _; go_wp2_with fail
     go_ret; exact ⟨ah (by rw [HQ.o, HC.o]; rfl), HV.o.trans (G2.o.mono HV.o.size)⟩
 . skip
   refine wp_region_held_drew (S := (λ W => W.cell? ⟨S, 0, none⟩ = some (.pointer (some ⟨P, 0, none⟩)) /\ W.cell? ⟨S, 7, none⟩ = some (.map (some v1)) /\ W.cell? ⟨P, 1, none⟩ = some (.map (some c1)) /\ W.cell? ⟨w.heap.size, 1, none⟩ = some (.string (str nm)) /\ W.cell? ⟨w.heap.size, 3, none⟩ = some (.slice A cs.length ca) /\ W.cell? ⟨w.heap.size + 1, 1, none⟩ = some (.bool true))) zK ?_ (λ hHeld => ?_)
   . exact KEEP.o _ (Below.refl _ _).drew
   refine aa 0 ?_; refine aa 1 ?_; refine aa 2 ?_; refine aa 3 ?_; refine ag 4 ?_; refine ag 5 ?_; refine ag 6 ?_; refine ag 7 ?_; refine ag 8 ?_; refine ag 9 ?_; refine ag 10 ?_; refine aa 11 ?_; refine aa 12 ?_; refine ag 13 ?_; refine ag 14 ?_; refine ag 15 ?_; refine ag 16 ?_; refine aa 17 ?_; refine aa 18 ?_; refine wpAnyH_done zK ?_ _; go_wp2_with fail
   go_ret; exact ⟨ah (by rw [HQ.o]; rfl), HV.o.drew⟩
theorem FG {w : World} (h : dT w S P e1 c1 n1 t1 f1 v1 nd s) {n : Int} {nm : Tx} {A B : Option Addr} {cs : List Tx} {ca k kc : Nat} (hnm : nm.length <= maxLen) (hcs : aF w (.slice A cs.length ca) cs) (r : Int) (u : Bool) (hne : cs ≠ []) :
  Calls prog 137 #[.pointer (some ⟨S, 0, none⟩), .agg #[.int .i64 13, .string (str nm), .int .i64 n, .slice A cs.length ca, .slice B k kc], .agg #[.int .i64 r, .bool u]] w (ar (bg s 13 nm cs k r u) w) := by
 have HS := zH h; have HNM := zH hnm; have HCS := zH hcs; have hlc : cs.length <= 9223372036854775807 := (by obtain ⟨_, _, e, h1, h2, _⟩ := hcs; injection e with _ _ e3; unfold maxLen at h2; omega); clear h hnm hcs; have HQ := zH (show bg s 13 nm cs k r u = (!u && (s.vars.contains nm && ez s cs)) by simp [bg]); have HNE := zH hne; clear hne; go_enter func137, ntmps137
 go_wp2_with fail
 have a1 : Below w.heap.size w (w.alloc (.cells #[.int .i64 13, .string (str nm), .int .i64 n, .slice A cs.length ca, .slice B k kc] 81)) := (Below.refl _ w).alloc (Nat.le_refl _) _; have HV := zH (a1.alloc (by simp) (.cells #[.int .i64 r, .bool u] 181)); have B1 := zH (az (o := .cells #[.int .i64 r, .bool u] 181) (heap_alloc_new w (.cells #[.int .i64 13, .string (str nm), .int .i64 n, .slice A cs.length ca, .slice B k kc] 81))); have B2 := zH (show ((w.alloc (.cells #[.int .i64 13, .string (str nm), .int .i64 n, .slice A cs.length ca, .slice B k kc] 81)).alloc (.cells #[.int .i64 r, .bool u] 181)).heap[w.heap.size + 1]? = some (.cells #[.int .i64 r, .bool u] 181 (0, 0)) from bh (by simp)); generalize (w.alloc (.cells #[.int .i64 13, .string (str nm), .int .i64 n, .slice A cs.length ca, .slice B k kc] 81)).alloc (.cells #[.int .i64 r, .bool u] 181) = V at *; clear a1; have HSV := zH (HS.o.under HV.o)
 have KEEP := zH (show ∀ W, Below V.heap.size V W -> (λ W => W.cell? ⟨S, 0, none⟩ = some (.pointer (some ⟨P, 0, none⟩)) /\ W.cell? ⟨S, 7, none⟩ = some (.map (some v1)) /\ W.cell? ⟨P, 1, none⟩ = some (.map (some c1)) /\ W.cell? ⟨w.heap.size, 1, none⟩ = some (.string (str nm)) /\ W.cell? ⟨w.heap.size, 3, none⟩ = some (.slice A cs.length ca) /\ W.cell? ⟨w.heap.size + 1, 1, none⟩ = some (.bool u)) W from
  λ W hW => by
   obtain ⟨b0, _, _, _, _, _, _, b7⟩ := gq (ao hW HSV.o.box); obtain ⟨_, d1, _, _⟩ := (HSV.o.under hW).prog.row; obtain ⟨_, g1, _, g3, _⟩ := aW (ao hW B1.o); obtain ⟨_, j1⟩ := bb (ao hW B2.o); exact ⟨b0, b7, d1, g1, g3, j1⟩)
 obtain ⟨lv, hmv, hkv, hsv⟩ := HSV.o.mv; have HMV := zH hmv; have HKV := zH hkv; have HSH := zH hsv; clear hmv hkv hsv; cases u
 . cases hc : s.vars.contains nm
   . have HC := zH hc; clear hc; refine wp_region_held_drew (S := (λ W => W.cell? ⟨S, 0, none⟩ = some (.pointer (some ⟨P, 0, none⟩)) /\ W.cell? ⟨S, 7, none⟩ = some (.map (some v1)) /\ W.cell? ⟨P, 1, none⟩ = some (.map (some c1)) /\ W.cell? ⟨w.heap.size, 1, none⟩ = some (.string (str nm)) /\ W.cell? ⟨w.heap.size, 3, none⟩ = some (.slice A cs.length ca) /\ W.cell? ⟨w.heap.size + 1, 1, none⟩ = some (.bool false))) zK ?_ (λ hHeld => ?_)
     . exact KEEP.o _ (Below.refl _ _).drew
     refine aa 0 ?_; refine aa 1 ?_; refine aa 2 ?_; refine aa 3 ?_; refine aa 4 ?_; refine aa 5 ?_; refine aa 6 ?_; refine aa 7 ?_; refine aa 8 ?_; refine aa 9 ?_; refine aq 10 zK rfl (λ K hK => ?_); go_simp
     (go_at_call 132
      (with_reducible refine (ec (HMV.o.under (zB V).drew) HSH.o HNM.o).mono ?_); rintro e w7 ⟨he, hb7⟩; rw [HKV.o, HC.o] at he; subst he; obtain ⟨G1w, rfl⟩ := zW w7; have G1 := zH (((zB V).drew).trans (hb7.mono ((zB V).drew).size)); clear hb7)
     refine hK.out _ _ (KEEP.o _ ?_) (λ hHeld => ?_)
     . (repeat (first | exact Below.refl _ _ | exact G1.o | refine Below.drew ?_ | refine Below.alloc ?_ (by simp) _ | refine Below.setCell ?_ (by simp) _))
     clear hK K; try simp only [Act.put, aO, aM, aN]
     refine aa 11 ?_; refine aa 12 ?_; refine ag 13 ?_; refine ag 14 ?_; refine ag 15 ?_; refine ag 16 ?_; refine aa 17 ?_; refine aa 18 ?_; refine wpAnyH_done zK ?_ _; go_wp2_with fail
     go_ret; exact ⟨ah (by rw [HQ.o, HC.o]; rfl), HV.o.trans (G1.o.mono HV.o.size)⟩
   . have HC := zH hc; clear hc; refine wp_region_held_drew (S := (λ W => W.cell? ⟨S, 0, none⟩ = some (.pointer (some ⟨P, 0, none⟩)) /\ W.cell? ⟨S, 7, none⟩ = some (.map (some v1)) /\ W.cell? ⟨P, 1, none⟩ = some (.map (some c1)) /\ W.cell? ⟨w.heap.size, 1, none⟩ = some (.string (str nm)) /\ W.cell? ⟨w.heap.size, 3, none⟩ = some (.slice A cs.length ca) /\ W.cell? ⟨w.heap.size + 1, 1, none⟩ = some (.bool false))) zK ?_ (λ hHeld => ?_)
     . exact KEEP.o _ (Below.refl _ _).drew
     refine aa 0 ?_; refine aa 1 ?_; refine aa 2 ?_; refine aa 3 ?_; refine aa 4 ?_; refine aa 5 ?_; refine aa 6 ?_; refine aa 7 ?_; refine aa 8 ?_; refine aa 9 ?_; refine aq 10 zK rfl (λ K hK => ?_); go_simp
     (go_at_call 132
      (with_reducible refine (ec (HMV.o.under (zB V).drew) HSH.o HNM.o).mono ?_); rintro e w7 ⟨he, hb7⟩; rw [HKV.o, HC.o] at he; subst he; obtain ⟨G1w, rfl⟩ := zW w7; have G1 := zH (((zB V).drew).trans (hb7.mono ((zB V).drew).size)); clear hb7)
     refine hK.out _ _ (KEEP.o _ ?_) (λ hHeld => ?_)
     . (repeat (first | exact Below.refl _ _ | exact G1.o | refine Below.drew ?_ | refine Below.alloc ?_ (by simp) _ | refine Below.setCell ?_ (by simp) _))
     clear hK K; try simp only [Act.put, aO, aM, aN]
     refine aa 11 ?_; refine aa 12 ?_; refine aa 13 ?_; refine aa 14 ?_; refine aa 15 ?_; refine aq 16 zK rfl (λ K hK => ?_); go_simp
     (go_at_call 167
      (with_reducible refine (ng (HSV.o.under G1.o) ((HCS.o.under HV.o).under G1.o) HNE.o).mono ?_); rintro e w7 ⟨rfl, hb7⟩; obtain ⟨G2w, rfl⟩ := zW w7; have G2 := zH (G1.o.trans (hb7.mono G1.o.size)); clear hb7)
     refine hK.out _ _ (KEEP.o _ ?_) (λ hHeld => ?_)
     . (repeat (first | exact Below.refl _ _ | exact G2.o | refine Below.drew ?_ | refine Below.alloc ?_ (by simp) _ | refine Below.setCell ?_ (by simp) _))
     clear hK K; try simp only [Act.put, aO, aM, aN]
     refine aa 17 ?_; refine aa 18 ?_; refine wpAnyH_done zK ?_ _; go_wp2_with fail
     go_ret; exact ⟨ah (by rw [HQ.o, HC.o]; rfl), HV.o.trans (G2.o.mono HV.o.size)⟩
 . skip
   refine wp_region_held_drew (S := (λ W => W.cell? ⟨S, 0, none⟩ = some (.pointer (some ⟨P, 0, none⟩)) /\ W.cell? ⟨S, 7, none⟩ = some (.map (some v1)) /\ W.cell? ⟨P, 1, none⟩ = some (.map (some c1)) /\ W.cell? ⟨w.heap.size, 1, none⟩ = some (.string (str nm)) /\ W.cell? ⟨w.heap.size, 3, none⟩ = some (.slice A cs.length ca) /\ W.cell? ⟨w.heap.size + 1, 1, none⟩ = some (.bool true))) zK ?_ (λ hHeld => ?_)
   . exact KEEP.o _ (Below.refl _ _).drew
   refine aa 0 ?_; refine aa 1 ?_; refine aa 2 ?_; refine aa 3 ?_; refine ag 4 ?_; refine ag 5 ?_; refine ag 6 ?_; refine ag 7 ?_; refine ag 8 ?_; refine ag 9 ?_; refine ag 10 ?_; refine aa 11 ?_; refine aa 12 ?_; refine ag 13 ?_; refine ag 14 ?_; refine ag 15 ?_; refine ag 16 ?_; refine aa 17 ?_; refine aa 18 ?_; refine wpAnyH_done zK ?_ _; go_wp2_with fail
   go_ret; exact ⟨ah (by rw [HQ.o]; rfl), HV.o.drew⟩
theorem FF {w : World} (h : dT w S P e1 c1 n1 t1 f1 v1 nd s) {n : Int} {nm : Tx} {A B : Option Addr} {cs : List Tx} {ca k kc : Nat} (hnm : nm.length <= maxLen) (hcs : aF w (.slice A cs.length ca) cs) (r : Int) (u : Bool) :
  Calls prog 137 #[.pointer (some ⟨S, 0, none⟩), .agg #[.int .i64 14, .string (str nm), .int .i64 n, .slice A cs.length ca, .slice B k kc], .agg #[.int .i64 r, .bool u]] w (ar (bg s 14 nm cs k r u) w) := by
 have HS := zH h; have HNM := zH hnm; have HCS := zH hcs; have hlc : cs.length <= 9223372036854775807 := (by obtain ⟨_, _, e, h1, h2, _⟩ := hcs; injection e with _ _ e3; unfold maxLen at h2; omega); clear h hnm hcs; have HQ := zH (show bg s 14 nm cs k r u = ip s nm cs k r by simp [bg]); go_enter func137, ntmps137
 go_wp2_with (go_at_call 168
              have a1 : Below w.heap.size w ((w.alloc (.cells #[.int .i64 14, .string (str nm), .int .i64 n, .slice A cs.length ca, .slice B k kc] 81)).alloc (.cells #[.int .i64 r, .bool u] 181)) := ((Below.refl _ w).alloc (Nat.le_refl _) _).alloc (by simp) _; (with_reducible refine (Cb (HS.o.under a1) HNM.o (HCS.o.under a1) r).mono ?_); rintro e w7 ⟨rfl, hb7⟩; have G1 := zH (a1.trans (hb7.mono a1.size)); clear a1 hb7)
 go_ret; exact ⟨ah HQ.o.symm, G1.o⟩
theorem Ig {w : World} (h : dT w S P e1 c1 n1 t1 f1 v1 nd s) {op n : Int} {nm : Tx} {A B : Option Addr} {cs : List Tx} {ca k kc : Nat} (hnm : nm.length <= maxLen) (hcs : aF w (.slice A cs.length ca) cs) (r : Int) (u : Bool) (h4 : (op == 4) = false) (h3 : (op == 3) = false) (h11 : (op == 11) = false) (h12 : (op == 12) = false) (h13 : (op == 13) = false) (h14 : (op == 14) = false) :
  Calls prog 137 #[.pointer (some ⟨S, 0, none⟩), .agg #[.int .i64 op, .string (str nm), .int .i64 n, .slice A cs.length ca, .slice B k kc], .agg #[.int .i64 r, .bool u]] w (ar (bg s op nm cs k r u) w) := by
 have HS := zH h; have HNM := zH hnm; have HCS := zH hcs; have hlc : cs.length <= 9223372036854775807 := (by obtain ⟨_, _, e, h1, h2, _⟩ := hcs; injection e with _ _ e3; unfold maxLen at h2; omega); clear h hnm hcs; have HQ := zH (show bg s op nm cs k r u = true by simp only [beq_eq_false_iff_ne, ne_eq] at h4 h3 h11 h12 h13 h14; simp [bg, h4, h3, h11, h12, h13, h14]); go_enter func137, ntmps137
 go_wp2_with fail
 go_ret; exact ⟨ah HQ.o.symm, ((Below.refl _ w).alloc (Nat.le_refl _) _).alloc (by simp) _⟩
end
end Go.Proofs.YtiholfmmphcbeaaGreatDoor
