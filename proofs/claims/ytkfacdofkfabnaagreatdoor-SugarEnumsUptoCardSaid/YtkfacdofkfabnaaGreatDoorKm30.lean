import Derived.Test.YtkfacdofkfabnaaGreatDoorKm27
import Derived.Test.YtkfacdofkfabnaaGreatDoorKm29
set_option maxHeartbeats 8000000
set_option maxRecDepth 100000
namespace Go.Proofs.YtkfacdofkfabnaaGreatDoor
open _root_.Go.Proofs.Tryz
open Go.RowKit
theorem vW {w0 : World} {va : Value} {l : List Tx} {f : Tx -> Bool} (ha : aw w0 iw va l) {g : FuncId} {cap : Array Value} (eg : ∀ (args : Array Value) (W : World), (callFunc g args).run prog W = .ok (.enter g args) W)
  (hf : ∀ x ∈ l, x.length <= maxLen -> ∀ w, Below w0.heap.size w0 w -> Calls prog g (#[.string (str x)] ++ cap) w (aA (f x) w)) :
  ∀ w, Below w0.heap.size w0 w -> Calls prog 143 #[va, .func (.func g) #[] cap] w (λ e w' => (∃ n : Int, e = .returned (.int .i64 n) /\ decide (0 <= n) = l.any f) /\ Below w.heap.size w w') := by
 intro w hw; obtain ⟨A, ca, rfl, hca, hma, hea⟩ := ha; have hla : l.length <= 9223372036854775807 := (by unfold maxLen at hma; omega); have HW0 := zH hw; have hsz0 := hw.size; clear hw hca hma; go_enter func143, ntmps143
 go_wp2_with fail
 go_loopg [8] l.length (λ g v wr => ∃ k : Nat, k + g = l.length /\ v = .int .i64 k /\ bY (λ y => !f y) l k /\ Below w.heap.size w wr)
 case atStart => exact ⟨0, by omega, rfl, bY.zero, Below.refl _ _⟩
 case round =>
  obtain ⟨k, hkg, rfl, hto, hbw⟩ := hrel; have HK := zH hkg; have HW := zH hbw; have HT := zH hto; have hszw := hbw.size; have hkl : k <= l.length := zO; clear hkg hbw hto; by_cases hlt : k < l.length
  . obtain ⟨y, hy⟩ := zG hlt; obtain ⟨L, hEM, rfl, hxl⟩ := hea k y hy; have HF := zH (hf y (List.mem_of_getElem? hy) hxl); have HB0 := zH (HW0.o.trans (HW.o.mono hsz0)); have HY := zH hy; obtain ⟨a, rfl, hab, haa, d0⟩ := et (hEM.under HB0.o); rw [Nat.mul_one] at d0; clear hEM hea hf hy; cases hfx : f y
    . have HFX := zH hfx; rw [hfx] at HF; clear hfx; go_wp2_with (go_at_fn g; refine (HF.o _ HB0.o).mono ?_; rintro e w1 ⟨rfl, hb1⟩)
      go_roundg (l.length - (k + 1))
      case measure => have := HK.o; omega
      case rel => exact ⟨k + 1, by omega, by go_num, HT.o.succ HY.o (by rw [HFX.o]; rfl), HW.o.trans (hb1.mono zO)⟩
    . have HFX := zH hfx; rw [hfx] at HF; clear hfx; go_wp2_with (go_at_fn g; refine (HF.o _ HB0.o).mono ?_; rintro e w1 ⟨rfl, hb1⟩)
      go_ret; exact ⟨⟨_, rfl, by rw [List.any_eq_true.2 ⟨y, List.mem_of_getElem? HY.o, HFX.o⟩]; simp⟩, HW.o.trans (hb1.mono zO)⟩
  . have hke : k = l.length := by omega
    have HKE := zH hke; clear hke; go_wp2_with fail
    go_ret; exact ⟨⟨_, rfl, by rw [zC (HT.o.all HKE.o)]; rfl⟩, HW.o⟩
theorem gT {w0 : World} {va : Value} {l : List Tx} {f : Tx -> Bool} (ha : aw w0 iw va l) {g : FuncId} {cap : Array Value} (eg : ∀ (args : Array Value) (W : World), (callFunc g args).run prog W = .ok (.enter g args) W)
  (hf : ∀ x ∈ l, x.length <= maxLen -> ∀ w, Below w0.heap.size w0 w -> Calls prog g (#[.string (str x)] ++ cap) w (aA (f x) w)) :
  ∀ w, Below w0.heap.size w0 w -> Calls prog 105 #[va, .func (.func g) #[] cap] w (aA (l.any f) w) := by
 intro w hw; have H := zH (vW ha eg hf w hw); obtain ⟨A, ca, rfl, _⟩ := ha; clear hw hf; go_enter func105, ntmps105
 go_wp2_with (go_at_call 143; refine H.o.mono ?_; rintro e w1 ⟨⟨n, rfl, hn⟩, hb1⟩; have HN := zH hn; clear hn)
 go_ret; exact ⟨au HN.o, hb1⟩
theorem vV {w0 : World} {va : Value} {l : List eO} {f : eO -> Bool} (ha : aw w0 (d7 w0) va l) {g : FuncId} {cap : Array Value} (eg : ∀ (args : Array Value) (W : World), (callFunc g args).run prog W = .ok (.enter g args) W)
  (hf : ∀ x ∈ l, ∀ L, d7 w0 L x -> ∀ w, Below w0.heap.size w0 w -> Calls prog g (#[.agg L.toArray] ++ cap) w (aA (f x) w)) :
  ∀ w, Below w0.heap.size w0 w -> Calls prog 199 #[va, .func (.func g) #[] cap] w (λ e w' => (∃ n : Int, e = .returned (.int .i64 n) /\ decide (0 <= n) = l.any f) /\ Below w.heap.size w w') := by
 intro w hw; obtain ⟨A, ca, rfl, hca, hma, hea⟩ := ha; have hla : l.length <= 9223372036854775807 := (by unfold maxLen at hma; omega); have HW0 := zH hw; have hsz0 := hw.size; clear hw hca hma; go_enter func199, ntmps199
 go_wp2_with fail
 go_loopg [8] l.length (λ g v wr => ∃ k : Nat, k + g = l.length /\ v = .int .i64 k /\ bY (λ y => !f y) l k /\ Below w.heap.size w wr)
 case atStart => exact ⟨0, by omega, rfl, bY.zero, Below.refl _ _⟩
 case round =>
  obtain ⟨k, hkg, rfl, hto, hbw⟩ := hrel; have HK := zH hkg; have HW := zH hbw; have HT := zH hto; have hszw := hbw.size; have hkl : k <= l.length := zO; clear hkg hbw hto; by_cases hlt : k < l.length
  . obtain ⟨y, hy⟩ := zG hlt; obtain ⟨L, hEM, hRM⟩ := hea k y hy; have HF := zH (hf y (List.mem_of_getElem? hy) L hRM); obtain ⟨o0, s1, o2, A3, n3, k3, A4, n4, k4, s5, rfl⟩ := hRM.shape; have HB0 := zH (HW0.o.trans (HW.o.mono hsz0)); have HY := zH hy; obtain ⟨a, rfl, hab, haa, d0, d1, d2, d3, d4, d5⟩ := iU (hEM.under HB0.o); clear hEM hea hf hy hRM; cases hfx : f y
    . have HFX := zH hfx; rw [hfx] at HF; clear hfx; go_wp2_with (go_at_fn g; refine (HF.o _ HB0.o).mono ?_; rintro e w1 ⟨rfl, hb1⟩)
      go_roundg (l.length - (k + 1))
      case measure => have := HK.o; omega
      case rel => exact ⟨k + 1, by omega, by go_num, HT.o.succ HY.o (by rw [HFX.o]; rfl), HW.o.trans (hb1.mono zO)⟩
    . have HFX := zH hfx; rw [hfx] at HF; clear hfx; go_wp2_with (go_at_fn g; refine (HF.o _ HB0.o).mono ?_; rintro e w1 ⟨rfl, hb1⟩)
      go_ret; exact ⟨⟨_, rfl, by rw [List.any_eq_true.2 ⟨y, List.mem_of_getElem? HY.o, HFX.o⟩]; simp⟩, HW.o.trans (hb1.mono zO)⟩
  . have hke : k = l.length := by omega
    have HKE := zH hke; clear hke; go_wp2_with fail
    go_ret; exact ⟨⟨_, rfl, by rw [zC (HT.o.all HKE.o)]; rfl⟩, HW.o⟩
theorem qJ {w0 : World} {va : Value} {l : List eO} {f : eO -> Bool} (ha : aw w0 (d7 w0) va l) {g : FuncId} {cap : Array Value} (eg : ∀ (args : Array Value) (W : World), (callFunc g args).run prog W = .ok (.enter g args) W)
  (hf : ∀ x ∈ l, ∀ L, d7 w0 L x -> ∀ w, Below w0.heap.size w0 w -> Calls prog g (#[.agg L.toArray] ++ cap) w (aA (f x) w)) :
  ∀ w, Below w0.heap.size w0 w -> Calls prog 179 #[va, .func (.func g) #[] cap] w (aA (l.any f) w) := by
 intro w hw; have H := zH (vV ha eg hf w hw); obtain ⟨A, ca, rfl, _⟩ := ha; clear hw hf; go_enter func179, ntmps179
 go_wp2_with (go_at_call 199; refine H.o.mono ?_; rintro e w1 ⟨⟨n, rfl, hn⟩, hb1⟩; have HN := zH hn; clear hn)
 go_ret; exact ⟨au HN.o, hb1⟩
def tQ (k : Int) (s : Tx) : List Tx -> Int
 | [] => -1
 | x :: r => if x = s then k else tQ (k + 1) s r
def Ei (l : List Tx) (s : Tx) : Int := tQ 0 s l
theorem Ej (s : Tx) (l : List Tx) : ∀ k : Int, 0 <= k -> decide (0 <= tQ k s l) = l.contains s := by
 induction l with
 | nil => intro k _; simp [tQ]
 | cons x r ih =>
   intro k hk; unfold tQ; by_cases h : x = s
   . rw [if_pos h]; subst h; simp [hk]
   . rw [if_neg h, ih (k + 1) zO]; simp; intro e; exact absurd e.symm h
theorem Cg {va : Value} {l : List Tx} {w : World} (ha : aH w va l) (s : Tx) : Calls prog 198 #[va, .string (str s)] w λ e w' => e = .returned (.int .i64 (Ei l s)) /\ w = w' := by
 obtain ⟨A, c, rfl, hlc, hmc, he⟩ := ha; have hll : l.length <= 9223372036854775807 := (by unfold maxLen at hmc; omega); have HE := zH he; clear he hlc hmc; go_enter func198, ntmps198
 go_wp2_with fail
 go_loop [8] (λ v => ∃ k : Nat, k <= l.length /\ v = .int .i64 k /\ Ei l s = tQ k s (l.drop k)) (λ v => l.length - (intOf v).toNat)
 case atStart => exact ⟨0, Nat.zero_le _, rfl, rfl⟩
 case round =>
  obtain ⟨k, hk, rfl, hr⟩ := hrel; have HR := zH hr; clear hr; by_cases hlt : k < l.length
  . obtain ⟨x, hx⟩ := zG hlt; obtain ⟨L, hEL, rfl, _⟩ := HE.o k x hx; obtain ⟨a, rfl, _, _, c0⟩ := et hEL; rw [Nat.mul_one] at c0; have HD := zH (cU hx); clear hx hEL; by_cases hxs : x = s
    . have hb : ((str s).toList == (str x).toList) = true := by rw [hxs]; simp
      have HN := zH (show Ei l s = k by rw [HR.o, HD.o, tQ, if_pos hxs]); clear hxs; go_wp2_with fail
      go_ret; exact ⟨hG HN.o.symm, rfl⟩
    . have hb : ((str s).toList == (str x).toList) = false := by rw [ey, ey]; simp; exact λ e => hxs e.symm
      have HN := zH (show Ei l s = tQ ((k + 1 : Nat) : Int) s (l.drop (k + 1)) by rw [HR.o, HD.o, tQ, if_neg hxs]; rfl); clear hxs; go_wp2_with fail
      go_round
      case rel => exact ⟨k + 1, by omega, by go_num, HN.o⟩
      case measure => simp [intOf]; omega
  . have hke : k = l.length := by omega
    have HN := zH (show Ei l s = -1 by rw [HR.o, hke, List.drop_length]; rfl); clear hke; go_wp2_with fail
    go_ret; exact ⟨hG HN.o.symm, rfl⟩
theorem rq {va : Value} {l : List Tx} {w : World} (ha : aH w va l) (s : Tx) : Calls prog 178 #[va, .string (str s)] w λ e w' => e = .returned (.bool (l.contains s)) /\ w = w' := by
 have H := zH (Cg ha s); have HP := zH (Ej s l 0 zO); obtain ⟨A, c, rfl, _⟩ := ha; go_enter func178, ntmps178
 go_wp2_with (go_at_call 198; refine H.o.mono ?_; rintro e w1 ⟨rfl, rfl⟩)
 go_ret; exact ⟨au HP.o, rfl⟩
end Go.Proofs.YtkfacdofkfabnaaGreatDoor
namespace Go.Proofs.YtkfacdofkfabnaaGreatDoor
open _root_.Go.Proofs.Tryz
open Go.RowKit
open Go.ChangeMaps Go.MapKept
open Go.Maps
theorem EF : gE 200 := enters_of func200 zK rfl
section
variable {S P e1 c1 n1 t1 f1 v1 : Nat} {nd : Value × Value × Value × Value × Value} {s : fu}
theorem CF {w0 : World} (h : dX w0 S P e1 c1 n1 t1 f1 v1 nd s) {N : Nat} (hN : w0.heap[N]? = some (.cells #[.pointer (some ⟨S, 0, none⟩)] 121 (0, 0))) {x : Tx} (hl : x.length <= maxLen) :
  ∀ w, Below w0.heap.size w0 w -> Calls prog 200 #[.string (str x), .pointer (some ⟨N, 0, none⟩)] w (aA (!ll s x) w) := by
 intro w hw; have H := zH (tm (h.under hw) hl); have x0 := oL (ab hw hN); clear h hN hl hw; go_enter func200, ntmps200
 go_wp2_with (go_at_call 201; (with_reducible refine H.o.mono ?_); rintro e w1 ⟨rfl, hb1⟩)
 go_ret; exact ⟨rfl, hb1⟩
theorem Ix {w : World} {N : Nat} {T0 : TypeId} {v0 : Value} (h : w.heap[N]? = some (.cells #[v0] T0 (0, 0))) : w.cell? ⟨N, 0, none⟩ = some v0 /\ True := ⟨oL h, trivial⟩
theorem GL (l : List Tx) : ((l.length : Int) == 0) = l.isEmpty := by
 cases l with
 | nil => rfl
 | cons a b => simp; omega
theorem CE {w : World} (h : dX w S P e1 c1 n1 t1 f1 v1 nd s) {op n : Int} {nm : Tx} {A B : Option Addr} {cs : List Tx} {ca k kc : Nat} (hnm : nm.length <= maxLen) (hcs : aH w (.slice A cs.length ca) cs) (results : Int) :
  Calls prog 181 #[.pointer (some ⟨S, 0, none⟩), .agg #[.int .i64 op, .string (str nm), .int .i64 n, .slice A cs.length ca, .slice B k kc], .int .i64 results] w (aA (iW s nm cs k results) w) := by
 have HS := zH h; have HNM := zH hnm; have HCS := zH hcs; have hmf : ∀ (fn : Fn) (first cap : Array Value) (w : World), (Instr.makeFunc fn first cap).run prog w = .ok (.func fn first cap) w := λ _ _ _ _ => rfl; have hlc : cs.length <= 9223372036854775807 := (by obtain ⟨_, _, e, h1, h2, _⟩ := hcs; injection e with _ _ e3; unfold maxLen at h2; omega); clear h hnm hcs; go_enter func181, ntmps181
 go_wp2_with fail
 have a1 : Below w.heap.size w (w.alloc (.cells #[.pointer (some ⟨S, 0, none⟩)] 121)) := (Below.refl _ w).alloc (Nat.le_refl _) _; have HV := zH (a1.alloc (by simp) (.cells #[.int .i64 op, .string (str nm), .int .i64 n, .slice A cs.length ca, .slice B k kc] 39)); have B1 := zH (aT (o := .cells #[.int .i64 op, .string (str nm), .int .i64 n, .slice A cs.length ca, .slice B k kc] 39) (heap_alloc_new w (.cells #[.pointer (some ⟨S, 0, none⟩)] 121))); have B2 := zH (show ((w.alloc (.cells #[.pointer (some ⟨S, 0, none⟩)] 121)).alloc (.cells #[.int .i64 op, .string (str nm), .int .i64 n, .slice A cs.length ca, .slice B k kc] 39)).heap[w.heap.size + 1]? = some (.cells #[.int .i64 op, .string (str nm), .int .i64 n, .slice A cs.length ca, .slice B k kc] 39 (0, 0)) from aF (by simp)); generalize (w.alloc (.cells #[.pointer (some ⟨S, 0, none⟩)] 121)).alloc (.cells #[.int .i64 op, .string (str nm), .int .i64 n, .slice A cs.length ca, .slice B k kc] 39) = V at *; clear a1; have HSV := zH (HS.o.under HV.o); have x0 := oL B1.o; obtain ⟨y0, y1, y2, y3, y4, y5, y6, y7⟩ := gm HSV.o.box; obtain ⟨z0, z1, z2, z3, z4⟩ := aN B2.o; refine wp_region_held_drew (S := (λ W => W.cell? ⟨w.heap.size, 0, none⟩ = some (.pointer (some ⟨S, 0, none⟩)) /\ W.cell? ⟨S, 6, none⟩ = some (.map (some f1)) /\ W.cell? ⟨w.heap.size + 1, 1, none⟩ = some (.string (str nm)))) zK ?_ (λ hHeld => ?_)
 . (try dsimp only); go_keep
 refine aa 0 ?_; refine aa 1 ?_; refine aa 2 ?_; refine aa 3 ?_; refine aa 4 ?_; refine aa 5 ?_; refine ay 6 zK rfl (λ K hK => ?_); go_simp
 (go_at_call 101
  (with_reducible refine (eV (HSV.o.under (Below.refl _ V).drew).mf (ez _) HNM.o).mono ?_); rintro e w7 ⟨he, hb7⟩; rw [cg] at he; subst he; obtain ⟨V', rfl⟩ := zW w7; have HV' := zH ((zB V).drew.trans hb7); have B1' := zH (ab HV'.out B1.o); have B2' := zH (ab HV'.out B2.o); have HS' := zH (HSV.o.under HV'.out); have x0 := oL B1'.out; obtain ⟨y0, y1, y2, y3, y4, y5, y6, y7⟩ := gm HS'.out.box; obtain ⟨z0, z1, z2, z3, z4⟩ := aN B2'.out; clear hb7)
 refine hK.out _ _ ?_ (λ hHeld => ?_)
 . (try dsimp only); go_keep
 clear hK K; try simp only [Act.put, aK, aI, aJ]
 refine wpAnyH_done zK ?_ _; cases hc : s.funs.contains nm
 . have HCF := zH hc; clear hc; obtain ⟨ln, hmn, hrn⟩ := HS'.out.prog.mn; have HMN := zH hmn; cases hg : oO s.prog.nodes nm with
   | none =>
     have HQ := zH (show iW s nm cs k results = false by rw [iW, HCF.o, hg]; rfl); have hkn : nm ∉ ln.map Prod.fst := (by have := nR hg; rw [<- hrn.1] at this; exact this); clear hg hmn hrn; go_wp2_with fail
     have HRUN := zH (λ (W : World) (hW : Below V'.heap.size V' W) => (HMN.o.under hW).look_no underlying114 (CX W) HNM.o hkn)
     have KEEP := zH (show ∀ W, Below V'.heap.size V' W -> (λ W => W.cell? ⟨w.heap.size, 0, none⟩ = some (.pointer (some ⟨S, 0, none⟩)) /\ W.cell? ⟨S, 0, none⟩ = some (.pointer (some ⟨P, 0, none⟩)) /\ W.cell? ⟨P, 2, none⟩ = some (.map (some n1)) /\ W.cell? ⟨w.heap.size + 1, 1, none⟩ = some (.string (str nm)) /\ (Instr.lookup 114 (.map (some n1)) (.string (str nm)) true).run prog W = .ok (.tuple #[.agg #[.string ⟨#[]⟩, .slice none 0 0, .slice none 0 0, .slice none 0 0, .slice none 0 0], .bool false]) W) W from
      λ W hW => by
       obtain ⟨a1, _⟩ := Ix (ab hW B1'.out); obtain ⟨b0, _⟩ := gm (ab hW HS'.out.box); obtain ⟨_, _, d2, _⟩ := (HS'.out.under hW).prog.row; obtain ⟨_, g1, _⟩ := aN (ab hW B2'.out); exact ⟨a1, b0, d2, g1, HRUN.o W hW⟩)
     refine wp_region_held_drew (S := (λ W => W.cell? ⟨w.heap.size, 0, none⟩ = some (.pointer (some ⟨S, 0, none⟩)) /\ W.cell? ⟨S, 0, none⟩ = some (.pointer (some ⟨P, 0, none⟩)) /\ W.cell? ⟨P, 2, none⟩ = some (.map (some n1)) /\ W.cell? ⟨w.heap.size + 1, 1, none⟩ = some (.string (str nm)) /\ (Instr.lookup 114 (.map (some n1)) (.string (str nm)) true).run prog W = .ok (.tuple #[.agg #[.string ⟨#[]⟩, .slice none 0 0, .slice none 0 0, .slice none 0 0, .slice none 0 0], .bool false]) W)) zK ?_ (λ hHeld => ?_)
     . exact KEEP.o _ (Below.refl _ _).drew
     refine aa 0 ?_; refine aa 1 ?_; refine aa 2 ?_; refine aa 3 ?_; refine aa 4 ?_; refine aa 5 ?_; refine aa 6 ?_; refine aa 7 ?_; refine aa 8 ?_; refine aa 9 ?_; refine aa 10 ?_; refine aa 11 ?_; refine aa 12 ?_; refine ay 13 zK rfl (λ K hK => ?_); go_simp
     refine hK.out _ _ (KEEP.o _ ?_) (λ hHeld => ?_)
     . (repeat (first | exact Below.refl _ _ | exact Below.refl _ _ | refine Below.drew ?_ | refine Below.alloc ?_ (by simp) _ | refine Below.setCell ?_ (by simp) _))
     clear hK K; try simp only [Act.put, aK, aI, aJ]
     refine ay 14 zK rfl (λ K hK => ?_); go_simp
     refine hK.out _ _ (KEEP.o _ ?_) (λ hHeld => ?_)
     . (repeat (first | exact Below.refl _ _ | exact Below.refl _ _ | refine Below.drew ?_ | refine Below.alloc ?_ (by simp) _ | refine Below.setCell ?_ (by simp) _))
     clear hK K; try simp only [Act.put, aK, aI, aJ]
     refine aa 15 ?_; refine wpAnyH_done zK ?_ _; have HV2 := zH (show Below V'.heap.size V' (V'.alloc (.cells #[.string ⟨#[]⟩, .slice none 0 0, .slice none 0 0, .slice none 0 0, .slice none 0 0] 36)).drew from ((Below.refl _ V').alloc (Nat.le_refl _) _).drew); have BN := zH (show (V'.alloc (.cells #[.string ⟨#[]⟩, .slice none 0 0, .slice none 0 0, .slice none 0 0, .slice none 0 0] 36)).drew.heap[V'.heap.size]? = some (.cells #[.string ⟨#[]⟩, .slice none 0 0, .slice none 0 0, .slice none 0 0, .slice none 0 0] 36 (0, 0)) from heap_alloc_new V' _); generalize (V'.alloc (.cells #[.string ⟨#[]⟩, .slice none 0 0, .slice none 0 0, .slice none 0 0, .slice none 0 0] 36)).drew = V2 at *; have B22 := zH (ab HV2.o B2'.out); obtain ⟨r0, r1, r2, r3, r4⟩ := aN B22.o; obtain ⟨s0, s1, s2, s3, s4⟩ := aN BN.o
     go_wp2_with fail
     go_ret
     exact ⟨au HQ.o.symm, (HV.o.trans (HV'.out.mono HV.o.size)).trans (HV2.o.mono (Nat.le_trans HV.o.size HV'.out.size))⟩
   | some q =>
     obtain ⟨v, hv, sN, A1, c1', A2, c2', A3, c3', A4, m4, c4', rfl⟩ := hrn.find hg
     have HCQ := zH (show iW s nm cs k results = (q.ins.length == k && (q.funs.length == cs.length && ((q.outs.length : Int) == results && cs.all (ll s)))) by rw [iW, HCF.o, hg]; rfl)
     clear hg hmn hrn
     go_wp2_with fail
     have HRUN := zH (λ (W : World) (hW : Below V'.heap.size V' W) => (HMN.o.under hW).look_yes underlying114 hv)
     have KEEP := zH (show ∀ W, Below V'.heap.size V' W -> (λ W => W.cell? ⟨w.heap.size, 0, none⟩ = some (.pointer (some ⟨S, 0, none⟩)) /\ W.cell? ⟨S, 0, none⟩ = some (.pointer (some ⟨P, 0, none⟩)) /\ W.cell? ⟨P, 2, none⟩ = some (.map (some n1)) /\ W.cell? ⟨w.heap.size + 1, 1, none⟩ = some (.string (str nm)) /\ (Instr.lookup 114 (.map (some n1)) (.string (str nm)) true).run prog W = .ok (.tuple #[.agg #[.string sN, .slice A1 q.funs.length c1', .slice A2 q.ins.length c2', .slice A3 q.outs.length c3', .slice A4 m4 c4'], .bool true]) W) W from
      λ W hW => by
       obtain ⟨a1, _⟩ := Ix (ab hW B1'.out)
       obtain ⟨b0, _⟩ := gm (ab hW HS'.out.box)
       obtain ⟨_, _, d2, _⟩ := (HS'.out.under hW).prog.row
       obtain ⟨_, g1, _⟩ := aN (ab hW B2'.out)
       exact ⟨a1, b0, d2, g1, HRUN.o W hW⟩)
     refine wp_region_held_drew (S := (λ W => W.cell? ⟨w.heap.size, 0, none⟩ = some (.pointer (some ⟨S, 0, none⟩)) /\ W.cell? ⟨S, 0, none⟩ = some (.pointer (some ⟨P, 0, none⟩)) /\ W.cell? ⟨P, 2, none⟩ = some (.map (some n1)) /\ W.cell? ⟨w.heap.size + 1, 1, none⟩ = some (.string (str nm)) /\ (Instr.lookup 114 (.map (some n1)) (.string (str nm)) true).run prog W = .ok (.tuple #[.agg #[.string sN, .slice A1 q.funs.length c1', .slice A2 q.ins.length c2', .slice A3 q.outs.length c3', .slice A4 m4 c4'], .bool true]) W)) zK ?_ (λ hHeld => ?_)
     . exact KEEP.o _ (Below.refl _ _).drew
     refine aa 0 ?_
     refine aa 1 ?_
     refine aa 2 ?_
     refine aa 3 ?_
     refine aa 4 ?_
     refine aa 5 ?_
     refine aa 6 ?_
     refine aa 7 ?_
     refine aa 8 ?_
     refine aa 9 ?_
     refine aa 10 ?_
     refine aa 11 ?_
     refine aa 12 ?_
     refine ay 13 zK rfl (λ K hK => ?_)
     go_simp
     refine hK.out _ _ (KEEP.o _ ?_) (λ hHeld => ?_)
     . (repeat (first | exact Below.refl _ _ | exact Below.refl _ _ | refine Below.drew ?_ | refine Below.alloc ?_ (by simp) _ | refine Below.setCell ?_ (by simp) _))
     clear hK K
     try simp only [Act.put, aK, aI, aJ]
     refine ay 14 zK rfl (λ K hK => ?_)
     go_simp
     refine hK.out _ _ (KEEP.o _ ?_) (λ hHeld => ?_)
     . (repeat (first | exact Below.refl _ _ | exact Below.refl _ _ | refine Below.drew ?_ | refine Below.alloc ?_ (by simp) _ | refine Below.setCell ?_ (by simp) _))
     clear hK K
     try simp only [Act.put, aK, aI, aJ]
     refine aa 15 ?_
     refine wpAnyH_done zK ?_ _
     have HV2 := zH (show Below V'.heap.size V' (V'.alloc (.cells #[.string sN, .slice A1 q.funs.length c1', .slice A2 q.ins.length c2', .slice A3 q.outs.length c3', .slice A4 m4 c4'] 36)).drew from ((Below.refl _ V').alloc (Nat.le_refl _) _).drew)
     have BN := zH (show (V'.alloc (.cells #[.string sN, .slice A1 q.funs.length c1', .slice A2 q.ins.length c2', .slice A3 q.outs.length c3', .slice A4 m4 c4'] 36)).drew.heap[V'.heap.size]? = some (.cells #[.string sN, .slice A1 q.funs.length c1', .slice A2 q.ins.length c2', .slice A3 q.outs.length c3', .slice A4 m4 c4'] 36 (0, 0)) from heap_alloc_new V' _)
     generalize (V'.alloc (.cells #[.string sN, .slice A1 q.funs.length c1', .slice A2 q.ins.length c2', .slice A3 q.outs.length c3', .slice A4 m4 c4'] 36)).drew = V2 at *
     have B22 := zH (ab HV2.o B2'.out)
     obtain ⟨r0, r1, r2, r3, r4⟩ := aN B22.o
     obtain ⟨s0, s1, s2, s3, s4⟩ := aN BN.o
     by_cases hA : q.ins.length = k
     . have bA : ((q.ins.length : Int) == (k : Int)) = true := by simp [hA]
       have HA := zH (show (q.ins.length == k) = true by simp [hA])
       clear hA
       by_cases hB : q.funs.length = cs.length
       . have bB : ((q.funs.length : Int) == (cs.length : Int)) = true := by simp [hB]
         have HB := zH (show (q.funs.length == cs.length) = true by simp [hB])
         clear hB
         by_cases hC : (q.outs.length : Int) = results
         . have bC : ((q.outs.length : Int) == results) = true := by simp [hC]
           have HC := zH bC
           clear hC
           have HW2 := zH (HV'.out.trans (HV2.o.mono HV'.out.size))
           have HCL := zH (gT (HCS.o.under (HV.o.trans (HW2.o.mono HV.o.size))) EF (f := λ x => !ll s x) (cap := #[.pointer (some ⟨w.heap.size, 0, none⟩)]) (λ x _ hx => CF (HS'.out.under HV2.o) (ab HV2.o B1'.out) hx))
           have HFIN := zH (show (!cs.any (λ x => !ll s x)) = iW s nm cs k results by rw [HCQ.o, HA.o, HB.o, HC.o]; simp [List.any_eq_not_all_not])
           go_wp2_with (go_at_call 105
                        (with_reducible refine (HCL.o _ (Below.refl _ _)).mono ?_)
                        rintro e w7 ⟨rfl, hb7⟩)
           go_ret
           exact ⟨au HFIN.o, ((HV.o.trans (HV'.out.mono HV.o.size)).trans (HV2.o.mono (Nat.le_trans HV.o.size HV'.out.size))).trans (hb7.mono (Nat.le_trans (Nat.le_trans HV.o.size HV'.out.size) HV2.o.size))⟩
         . have bC : ((q.outs.length : Int) == results) = false := by simp [hC]
           have HQ := zH (show iW s nm cs k results = false by rw [HCQ.o, HA.o, HB.o, bC]; rfl)
           clear hC
           go_wp2_with fail
           go_ret
           exact ⟨au HQ.o.symm, (HV.o.trans (HV'.out.mono HV.o.size)).trans (HV2.o.mono (Nat.le_trans HV.o.size HV'.out.size))⟩
       . have bB : ((q.funs.length : Int) == (cs.length : Int)) = false := by simp; omega
         have HQ := zH (show iW s nm cs k results = false by rw [HCQ.o, HA.o, beq_eq_false_iff_ne.2 hB]; rfl)
         clear hB
         go_wp2_with fail
         go_ret
         exact ⟨au HQ.o.symm, (HV.o.trans (HV'.out.mono HV.o.size)).trans (HV2.o.mono (Nat.le_trans HV.o.size HV'.out.size))⟩
     . have bA : ((q.ins.length : Int) == (k : Int)) = false := by simp; omega
       have HQ := zH (show iW s nm cs k results = false by rw [HCQ.o, beq_eq_false_iff_ne.2 hA]; rfl)
       clear hA
       go_wp2_with fail
       go_ret
       exact ⟨au HQ.o.symm, (HV.o.trans (HV'.out.mono HV.o.size)).trans (HV2.o.mono (Nat.le_trans HV.o.size HV'.out.size))⟩
 . have HCF := zH hc
   have HQ := zH (show iW s nm cs k results = ((cs.length : Int) == 0) by rw [iW, if_pos hc, GL])
   clear hc
   go_wp2_with fail
   go_ret
   exact ⟨au HQ.o.symm, HV.o.trans (HV'.out.mono HV.o.size)⟩
end
end Go.Proofs.YtkfacdofkfabnaaGreatDoor
namespace Go.Proofs.YtkfacdofkfabnaaGreatDoor
open _root_.Go.Proofs.Tryz
open Go.RowKit
def jI (op r i : Int) : Int := if op = 15 /\ i = 0 then r else 1
def Io (op r i : Int) (u : Bool) (w : World) (e : Ending) (w' : World) : Prop := e = .returned (.agg #[.int .i64 (jI op r i), .bool (u || op == 13)]) /\ Below w.heap.size w w'
theorem xY : (prog.info? 168).map (·.size) = some 2 := by kernel_rfl
theorem fe {tmps : Array Value} {w : World} {N : Nat} {x0 x1 : Value} (hp : tmps.getD 6 undef = .pointer (some ⟨N, 0, none⟩)) (hg : w.heap[N]? = some (.cells #[x0, x1] 168 (0, 0))) :
  (results f150 tmps).run prog w = .ok (.agg #[x0, x1]) w :=
 results_cell_row results150 tmps w N 168 _ (0, 0) _ hp hg underlying168 rfl xY
theorem GO (op r i n : Int) (u : Bool) (s0 : ByteArray) (A B : Option Addr) (m1 j1 m2 j2 : Nat) (w : World) : Calls prog 150 #[.agg #[.int .i64 r, .bool u], .agg #[.int .i64 op, .string s0, .int .i64 n, .slice A m1 j1, .slice B m2 j2], .int .i64 i] w (Io op r i u w) := by
 cases u
 . by_cases h15 : op = 15
   . subst h15; by_cases hi : i = 0
     . subst hi; have HR := zH (show jI 15 r 0 = r by simp [jI]); go_enter func150, ntmps150
       go_wp2_with fail
       exact bodyPost_ret (fe rfl (aT (aF (by simp)))) rfl ⟨by rw [HR.o]; rfl, (((((Below.refl _ w).alloc (Nat.le_refl _) _).alloc (by simp) _).alloc (by simp; omega) _).alloc (by simp; omega) _)⟩
     . have hb : (i == 0) = false := by simp [hi]
       have HR := zH (show jI 15 r i = 1 by simp [jI, hi]); clear hi; go_enter func150, ntmps150
       go_wp2_with fail
       exact bodyPost_ret (fe rfl (aT (aF (by simp)))) rfl ⟨by rw [HR.o]; rfl, (((((Below.refl _ w).alloc (Nat.le_refl _) _).alloc (by simp) _).alloc (by simp; omega) _).alloc (by simp; omega) _)⟩
   . have hb : (op == 15) = false := by simp [h15]
     have HR := zH (show jI op r i = 1 by simp [jI, h15]); clear h15; go_enter func150, ntmps150
     go_wp2_with fail
     exact bodyPost_ret (fe rfl (aT (aF (by simp)))) rfl ⟨by rw [HR.o]; simp, (((((Below.refl _ w).alloc (Nat.le_refl _) _).alloc (by simp) _).alloc (by simp; omega) _).alloc (by simp; omega) _)⟩
 . by_cases h15 : op = 15
   . subst h15; by_cases hi : i = 0
     . subst hi; have HR := zH (show jI 15 r 0 = r by simp [jI]); go_enter func150, ntmps150
       go_wp2_with fail
       exact bodyPost_ret (fe rfl (aT (aF (by simp)))) rfl ⟨by rw [HR.o]; simp, (((((Below.refl _ w).alloc (Nat.le_refl _) _).alloc (by simp) _).alloc (by simp; omega) _).alloc (by simp; omega) _)⟩
     . have hb : (i == 0) = false := by simp [hi]
       have HR := zH (show jI 15 r i = 1 by simp [jI, hi]); clear hi; go_enter func150, ntmps150
       go_wp2_with fail
       exact bodyPost_ret (fe rfl (aT (aF (by simp)))) rfl ⟨by rw [HR.o]; simp, (((((Below.refl _ w).alloc (Nat.le_refl _) _).alloc (by simp) _).alloc (by simp; omega) _).alloc (by simp; omega) _)⟩
   . have hb : (op == 15) = false := by simp [h15]
     have HR := zH (show jI op r i = 1 by simp [jI, h15]); clear h15; go_enter func150, ntmps150
     go_wp2_with fail
     exact bodyPost_ret (fe rfl (aT (aF (by simp)))) rfl ⟨by rw [HR.o]; simp, (((((Below.refl _ w).alloc (Nat.le_refl _) _).alloc (by simp) _).alloc (by simp; omega) _).alloc (by simp; omega) _)⟩
end Go.Proofs.YtkfacdofkfabnaaGreatDoor
namespace Go.Proofs.YtkfacdofkfabnaaGreatDoor
open _root_.Go.Proofs.Tryz
open Go.RowKit
open Go.ChangeMaps Go.MapKept
open Go.Maps
section
variable {S P e1 c1 n1 t1 f1 v1 : Nat} {nd : Value × Value × Value × Value × Value} {s : fu}
theorem Je {w : World} (h : dX w S P e1 c1 n1 t1 f1 v1 nd s) {n : Int} {nm : Tx} {A B : Option Addr} {cs : List Tx} {ca k kc : Nat} (hnm : nm.length <= maxLen) (hcs : aH w (.slice A cs.length ca) cs) (r : Int) (u : Bool) :
  Calls prog 149 #[.pointer (some ⟨S, 0, none⟩), .agg #[.int .i64 4, .string (str nm), .int .i64 n, .slice A cs.length ca, .slice B k kc], .agg #[.int .i64 r, .bool u]] w (aA (bK s 4 nm cs k r u) w) := by
 have HS := zH h; have HNM := zH hnm; have HCS := zH hcs; have hlc : cs.length <= 9223372036854775807 := (by obtain ⟨_, _, e, h1, h2, _⟩ := hcs; injection e with _ _ e3; unfold maxLen at h2; omega); clear h hnm hcs; obtain ⟨b, hb⟩ : ∃ b, s.vars.contains nm = b := ⟨_, rfl⟩; have HBQ := zH hb; have HQ := zH (show bK s 4 nm cs k r u = b by rw [<- hb]; simp [bK]); clear hb; go_enter func149, ntmps149
 go_wp2_with fail
 have a1 : Below w.heap.size w (w.alloc (.cells #[.int .i64 4, .string (str nm), .int .i64 n, .slice A cs.length ca, .slice B k kc] 39)) := (Below.refl _ w).alloc (Nat.le_refl _) _; have HV := zH (a1.alloc (by simp) (.cells #[.int .i64 r, .bool u] 168)); have B1 := zH (aT (o := .cells #[.int .i64 r, .bool u] 168) (heap_alloc_new w (.cells #[.int .i64 4, .string (str nm), .int .i64 n, .slice A cs.length ca, .slice B k kc] 39))); have B2 := zH (show ((w.alloc (.cells #[.int .i64 4, .string (str nm), .int .i64 n, .slice A cs.length ca, .slice B k kc] 39)).alloc (.cells #[.int .i64 r, .bool u] 168)).heap[w.heap.size + 1]? = some (.cells #[.int .i64 r, .bool u] 168 (0, 0)) from aF (by simp)); generalize (w.alloc (.cells #[.int .i64 4, .string (str nm), .int .i64 n, .slice A cs.length ca, .slice B k kc] 39)).alloc (.cells #[.int .i64 r, .bool u] 168) = V at *; clear a1; have HSV := zH (HS.o.under HV.o)
 have KEEP := zH (show ∀ W, Below V.heap.size V W -> (λ W => W.cell? ⟨S, 0, none⟩ = some (.pointer (some ⟨P, 0, none⟩)) /\ W.cell? ⟨S, 7, none⟩ = some (.map (some v1)) /\ W.cell? ⟨P, 1, none⟩ = some (.map (some c1)) /\ W.cell? ⟨w.heap.size, 1, none⟩ = some (.string (str nm)) /\ W.cell? ⟨w.heap.size, 3, none⟩ = some (.slice A cs.length ca) /\ W.cell? ⟨w.heap.size + 1, 1, none⟩ = some (.bool u)) W from
  λ W hW => by
   obtain ⟨b0, _, _, _, _, _, _, b7⟩ := gm (ab hW HSV.o.box); obtain ⟨_, d1, _, _⟩ := (HSV.o.under hW).prog.row; obtain ⟨_, g1, _, g3, _⟩ := aN (ab hW B1.o); obtain ⟨_, j1⟩ := bG (ab hW B2.o); exact ⟨b0, b7, d1, g1, g3, j1⟩)
 obtain ⟨lv, hmv, hkv, hsv⟩ := HSV.o.mv; have HMV := zH hmv; have HKV := zH hkv; have HSH := zH hsv; clear hmv hkv hsv; refine wp_region_held_drew (S := (λ W => W.cell? ⟨S, 0, none⟩ = some (.pointer (some ⟨P, 0, none⟩)) /\ W.cell? ⟨S, 7, none⟩ = some (.map (some v1)) /\ W.cell? ⟨P, 1, none⟩ = some (.map (some c1)) /\ W.cell? ⟨w.heap.size, 1, none⟩ = some (.string (str nm)) /\ W.cell? ⟨w.heap.size, 3, none⟩ = some (.slice A cs.length ca) /\ W.cell? ⟨w.heap.size + 1, 1, none⟩ = some (.bool u))) zK ?_ (λ hHeld => ?_)
 . exact KEEP.o _ (Below.refl _ _).drew
 refine aa 0 ?_; refine aa 1 ?_; refine aa 2 ?_; refine aa 3 ?_; refine aa 4 ?_; refine aa 5 ?_; refine ay 6 zK rfl (λ K hK => ?_); go_simp
 (go_at_call 144
  (with_reducible refine (eo (HMV.o.under (zB V).drew) HSH.o HNM.o).mono ?_); rintro e w7 ⟨he, hb7⟩; rw [HKV.o, HBQ.o] at he; subst he; obtain ⟨G1w, rfl⟩ := zW w7; have G1 := zH (((zB V).drew).trans (hb7.mono ((zB V).drew).size)); clear hb7)
 refine hK.out _ _ (KEEP.o _ ?_) (λ hHeld => ?_)
 . (repeat (first | exact Below.refl _ _ | exact G1.o | refine Below.drew ?_ | refine Below.alloc ?_ (by simp) _ | refine Below.setCell ?_ (by simp) _))
 clear hK K; try simp only [Act.put, aK, aI, aJ]
 refine aa 7 ?_; refine wpAnyH_done zK ?_ _; go_wp2_with fail
 go_ret; exact ⟨au HQ.o.symm, HV.o.trans (G1.o.mono HV.o.size)⟩
theorem Jf {w : World} (h : dX w S P e1 c1 n1 t1 f1 v1 nd s) {n : Int} {nm : Tx} {A B : Option Addr} {cs : List Tx} {ca k kc : Nat} (hnm : nm.length <= maxLen) (hcs : aH w (.slice A cs.length ca) cs) (r : Int) (u : Bool) :
  Calls prog 149 #[.pointer (some ⟨S, 0, none⟩), .agg #[.int .i64 3, .string (str nm), .int .i64 n, .slice A cs.length ca, .slice B k kc], .agg #[.int .i64 r, .bool u]] w (aA (bK s 3 nm cs k r u) w) := by
 have HS := zH h; have HNM := zH hnm; have HCS := zH hcs; have hlc : cs.length <= 9223372036854775807 := (by obtain ⟨_, _, e, h1, h2, _⟩ := hcs; injection e with _ _ e3; unfold maxLen at h2; omega); clear h hnm hcs; obtain ⟨b, hb⟩ : ∃ b, s.prog.conKeys.contains nm = b := ⟨_, rfl⟩; have HBQ := zH hb; have HQ := zH (show bK s 3 nm cs k r u = b by rw [<- hb]; simp [bK]); clear hb; go_enter func149, ntmps149
 go_wp2_with fail
 have a1 : Below w.heap.size w (w.alloc (.cells #[.int .i64 3, .string (str nm), .int .i64 n, .slice A cs.length ca, .slice B k kc] 39)) := (Below.refl _ w).alloc (Nat.le_refl _) _; have HV := zH (a1.alloc (by simp) (.cells #[.int .i64 r, .bool u] 168)); have B1 := zH (aT (o := .cells #[.int .i64 r, .bool u] 168) (heap_alloc_new w (.cells #[.int .i64 3, .string (str nm), .int .i64 n, .slice A cs.length ca, .slice B k kc] 39))); have B2 := zH (show ((w.alloc (.cells #[.int .i64 3, .string (str nm), .int .i64 n, .slice A cs.length ca, .slice B k kc] 39)).alloc (.cells #[.int .i64 r, .bool u] 168)).heap[w.heap.size + 1]? = some (.cells #[.int .i64 r, .bool u] 168 (0, 0)) from aF (by simp)); generalize (w.alloc (.cells #[.int .i64 3, .string (str nm), .int .i64 n, .slice A cs.length ca, .slice B k kc] 39)).alloc (.cells #[.int .i64 r, .bool u] 168) = V at *; clear a1; have HSV := zH (HS.o.under HV.o)
 have KEEP := zH (show ∀ W, Below V.heap.size V W -> (λ W => W.cell? ⟨S, 0, none⟩ = some (.pointer (some ⟨P, 0, none⟩)) /\ W.cell? ⟨S, 7, none⟩ = some (.map (some v1)) /\ W.cell? ⟨P, 1, none⟩ = some (.map (some c1)) /\ W.cell? ⟨w.heap.size, 1, none⟩ = some (.string (str nm)) /\ W.cell? ⟨w.heap.size, 3, none⟩ = some (.slice A cs.length ca) /\ W.cell? ⟨w.heap.size + 1, 1, none⟩ = some (.bool u)) W from
  λ W hW => by
   obtain ⟨b0, _, _, _, _, _, _, b7⟩ := gm (ab hW HSV.o.box); obtain ⟨_, d1, _, _⟩ := (HSV.o.under hW).prog.row; obtain ⟨_, g1, _, g3, _⟩ := aN (ab hW B1.o); obtain ⟨_, j1⟩ := bG (ab hW B2.o); exact ⟨b0, b7, d1, g1, g3, j1⟩)
 obtain ⟨lc, hmc, hrc⟩ := HSV.o.prog.mc; have HMC := zH hmc; have HRC := zH hrc; clear hmc hrc; refine wp_region_held_drew (S := (λ W => W.cell? ⟨S, 0, none⟩ = some (.pointer (some ⟨P, 0, none⟩)) /\ W.cell? ⟨S, 7, none⟩ = some (.map (some v1)) /\ W.cell? ⟨P, 1, none⟩ = some (.map (some c1)) /\ W.cell? ⟨w.heap.size, 1, none⟩ = some (.string (str nm)) /\ W.cell? ⟨w.heap.size, 3, none⟩ = some (.slice A cs.length ca) /\ W.cell? ⟨w.heap.size + 1, 1, none⟩ = some (.bool u))) zK ?_ (λ hHeld => ?_)
 . exact KEEP.o _ (Below.refl _ _).drew
 refine aa 0 ?_; refine aa 1 ?_; refine aa 2 ?_; refine aa 3 ?_; refine aa 4 ?_; refine aa 5 ?_; refine aa 6 ?_; refine aa 7 ?_; refine aa 8 ?_; refine ay 9 zK rfl (λ K hK => ?_); go_simp
 (go_at_call 100
  (with_reducible refine (jj (HMC.o.under (zB V).drew) HRC.o.sh HNM.o).mono ?_); rintro e w7 ⟨he, hb7⟩; rw [HRC.o.1, show s.prog.cons.map Prod.fst = s.prog.conKeys from rfl, HBQ.o] at he; subst he; obtain ⟨G1w, rfl⟩ := zW w7; have G1 := zH (((zB V).drew).trans (hb7.mono ((zB V).drew).size)); clear hb7)
 refine hK.out _ _ (KEEP.o _ ?_) (λ hHeld => ?_)
 . (repeat (first | exact Below.refl _ _ | exact G1.o | refine Below.drew ?_ | refine Below.alloc ?_ (by simp) _ | refine Below.setCell ?_ (by simp) _))
 clear hK K; try simp only [Act.put, aK, aI, aJ]
 refine aa 10 ?_; refine wpAnyH_done zK ?_ _; go_wp2_with fail
 go_ret; exact ⟨au HQ.o.symm, HV.o.trans (G1.o.mono HV.o.size)⟩
theorem GG {w : World} (h : dX w S P e1 c1 n1 t1 f1 v1 nd s) {n : Int} {nm : Tx} {A B : Option Addr} {cs : List Tx} {ca k kc : Nat} (hnm : nm.length <= maxLen) (hcs : aH w (.slice A cs.length ca) cs) (r : Int) (u : Bool) (hne : cs ≠ []) :
  Calls prog 149 #[.pointer (some ⟨S, 0, none⟩), .agg #[.int .i64 11, .string (str nm), .int .i64 n, .slice A cs.length ca, .slice B k kc], .agg #[.int .i64 r, .bool u]] w (aA (bK s 11 nm cs k r u) w) := by
 have HS := zH h; have HNM := zH hnm; have HCS := zH hcs; have hlc : cs.length <= 9223372036854775807 := (by obtain ⟨_, _, e, h1, h2, _⟩ := hcs; injection e with _ _ e3; unfold maxLen at h2; omega); clear h hnm hcs; have HQ := zH (show bK s 11 nm cs k r u = (!u && (s.vars.contains nm && s.prog.conKeys.contains (cs.headD []))) by simp [bK]); obtain ⟨c0, rr, hcc⟩ := List.exists_cons_of_ne_nil hne
 have HE0 := zH (show ∃ a, A = some a /\ a.block < w.heap.size /\ w.cell? a = some (.string (str c0)) /\ c0.length <= maxLen by
  obtain ⟨A', c', e', _, _, he⟩ := HCS.o; injection e' with e1 _ _; obtain ⟨L0, hE0, rfl, hcl⟩ := he 0 c0 (by rw [hcc]; rfl); obtain ⟨a, ea, hab, _, q0⟩ := et hE0; simp only [Nat.zero_mul] at q0; rw [add_zero] at q0; exact ⟨a, e1.trans ea, hab, q0, hcl⟩)
 have HHD := zH (show cs.headD [] = c0 by rw [hcc]; rfl); have hpos : 0 < cs.length := (by rw [hcc]; simp); clear hne hcc; obtain ⟨a, rfl, hab, q0, hcl⟩ := HE0.o; have HCL := zH hcl; obtain ⟨b, hb⟩ : ∃ b, s.prog.conKeys.contains c0 = b := ⟨_, rfl⟩; have HBQ := zH hb; clear hcl hb; go_enter func149, ntmps149
 go_wp2_with fail
 have a1 : Below w.heap.size w (w.alloc (.cells #[.int .i64 11, .string (str nm), .int .i64 n, .slice (some a) cs.length ca, .slice B k kc] 39)) := (Below.refl _ w).alloc (Nat.le_refl _) _; have HV := zH (a1.alloc (by simp) (.cells #[.int .i64 r, .bool u] 168)); have B1 := zH (aT (o := .cells #[.int .i64 r, .bool u] 168) (heap_alloc_new w (.cells #[.int .i64 11, .string (str nm), .int .i64 n, .slice (some a) cs.length ca, .slice B k kc] 39))); have B2 := zH (show ((w.alloc (.cells #[.int .i64 11, .string (str nm), .int .i64 n, .slice (some a) cs.length ca, .slice B k kc] 39)).alloc (.cells #[.int .i64 r, .bool u] 168)).heap[w.heap.size + 1]? = some (.cells #[.int .i64 r, .bool u] 168 (0, 0)) from aF (by simp)); generalize (w.alloc (.cells #[.int .i64 11, .string (str nm), .int .i64 n, .slice (some a) cs.length ca, .slice B k kc] 39)).alloc (.cells #[.int .i64 r, .bool u] 168) = V at *; clear a1; have HSV := zH (HS.o.under HV.o)
 have KEEP := zH (show ∀ W, Below V.heap.size V W -> (λ W => W.cell? ⟨S, 0, none⟩ = some (.pointer (some ⟨P, 0, none⟩)) /\ W.cell? ⟨S, 7, none⟩ = some (.map (some v1)) /\ W.cell? ⟨P, 1, none⟩ = some (.map (some c1)) /\ W.cell? ⟨w.heap.size, 1, none⟩ = some (.string (str nm)) /\ W.cell? ⟨w.heap.size, 3, none⟩ = some (.slice (some a) cs.length ca) /\ W.cell? ⟨w.heap.size + 1, 1, none⟩ = some (.bool u) /\ W.cell? a = some (.string (str c0))) W from
  λ W hW => by
   obtain ⟨b0, _, _, _, _, _, _, b7⟩ := gm (ab hW HSV.o.box); obtain ⟨_, d1, _, _⟩ := (HSV.o.under hW).prog.row; obtain ⟨_, g1, _, g3, _⟩ := aN (ab hW B1.o); obtain ⟨_, j1⟩ := bG (ab hW B2.o); exact ⟨b0, b7, d1, g1, g3, j1, (hW.cell (p := a) (Nat.lt_of_lt_of_le hab HV.o.size)).trans ((HV.o.cell (p := a) hab).trans q0)⟩)
 obtain ⟨lv, hmv, hkv, hsv⟩ := HSV.o.mv; have HMV := zH hmv; have HKV := zH hkv; have HSH := zH hsv; clear hmv hkv hsv; obtain ⟨lc, hmc, hrc⟩ := HSV.o.prog.mc; have HMC := zH hmc; have HRC := zH hrc; clear hmc hrc; cases u
 . cases hc : s.vars.contains nm
   . have HC := zH hc; clear hc; refine wp_region_held_drew (S := (λ W => W.cell? ⟨S, 0, none⟩ = some (.pointer (some ⟨P, 0, none⟩)) /\ W.cell? ⟨S, 7, none⟩ = some (.map (some v1)) /\ W.cell? ⟨P, 1, none⟩ = some (.map (some c1)) /\ W.cell? ⟨w.heap.size, 1, none⟩ = some (.string (str nm)) /\ W.cell? ⟨w.heap.size, 3, none⟩ = some (.slice (some a) cs.length ca) /\ W.cell? ⟨w.heap.size + 1, 1, none⟩ = some (.bool false) /\ W.cell? a = some (.string (str c0)))) zK ?_ (λ hHeld => ?_)
     . exact KEEP.o _ (Below.refl _ _).drew
     refine aa 0 ?_; refine aa 1 ?_; refine aa 2 ?_; refine aa 3 ?_; refine aa 4 ?_; refine aa 5 ?_; refine aa 6 ?_; refine aa 7 ?_; refine aa 8 ?_; refine aa 9 ?_; refine ay 10 zK rfl (λ K hK => ?_); go_simp
     (go_at_call 144
      (with_reducible refine (eo (HMV.o.under (zB V).drew) HSH.o HNM.o).mono ?_); rintro e w7 ⟨he, hb7⟩; rw [HKV.o, HC.o] at he; subst he; obtain ⟨G1w, rfl⟩ := zW w7; have G1 := zH (((zB V).drew).trans (hb7.mono ((zB V).drew).size)); clear hb7)
     refine hK.out _ _ (KEEP.o _ ?_) (λ hHeld => ?_)
     . (repeat (first | exact Below.refl _ _ | exact G1.o | refine Below.drew ?_ | refine Below.alloc ?_ (by simp) _ | refine Below.setCell ?_ (by simp) _))
     clear hK K; try simp only [Act.put, aK, aI, aJ]
     refine aa 11 ?_; refine aa 12 ?_; refine aj 13 ?_; refine aj 14 ?_; refine aj 15 ?_; refine aj 16 ?_; refine aj 17 ?_; refine aj 18 ?_; refine aj 19 ?_; refine aj 20 ?_; refine aj 21 ?_; refine aj 22 ?_; refine aj 23 ?_; refine aj 24 ?_; refine aa 25 ?_; refine aa 26 ?_; refine wpAnyH_done zK ?_ _; go_wp2_with fail
     go_ret; exact ⟨au (by rw [HQ.o, HC.o]; rfl), HV.o.trans (G1.o.mono HV.o.size)⟩
   . have HC := zH hc; clear hc; refine wp_region_held_drew (S := (λ W => W.cell? ⟨S, 0, none⟩ = some (.pointer (some ⟨P, 0, none⟩)) /\ W.cell? ⟨S, 7, none⟩ = some (.map (some v1)) /\ W.cell? ⟨P, 1, none⟩ = some (.map (some c1)) /\ W.cell? ⟨w.heap.size, 1, none⟩ = some (.string (str nm)) /\ W.cell? ⟨w.heap.size, 3, none⟩ = some (.slice (some a) cs.length ca) /\ W.cell? ⟨w.heap.size + 1, 1, none⟩ = some (.bool false) /\ W.cell? a = some (.string (str c0)))) zK ?_ (λ hHeld => ?_)
     . exact KEEP.o _ (Below.refl _ _).drew
     refine aa 0 ?_; refine aa 1 ?_; refine aa 2 ?_; refine aa 3 ?_; refine aa 4 ?_; refine aa 5 ?_; refine aa 6 ?_; refine aa 7 ?_; refine aa 8 ?_; refine aa 9 ?_; refine ay 10 zK rfl (λ K hK => ?_); go_simp
     (go_at_call 144
      (with_reducible refine (eo (HMV.o.under (zB V).drew) HSH.o HNM.o).mono ?_); rintro e w7 ⟨he, hb7⟩; rw [HKV.o, HC.o] at he; subst he; obtain ⟨G1w, rfl⟩ := zW w7; have G1 := zH (((zB V).drew).trans (hb7.mono ((zB V).drew).size)); clear hb7)
     refine hK.out _ _ (KEEP.o _ ?_) (λ hHeld => ?_)
     . (repeat (first | exact Below.refl _ _ | exact G1.o | refine Below.drew ?_ | refine Below.alloc ?_ (by simp) _ | refine Below.setCell ?_ (by simp) _))
     clear hK K; try simp only [Act.put, aK, aI, aJ]
     refine aa 11 ?_; refine aa 12 ?_; refine aa 13 ?_; refine aa 14 ?_; refine aa 15 ?_; refine aa 16 ?_; refine aa 17 ?_; refine aa 18 ?_; refine aa 19 ?_; refine aa 20 ?_; refine aa 21 ?_; refine aa 22 ?_; refine aa 23 ?_; refine ay 24 zK rfl (λ K hK => ?_); go_simp
     (go_at_call 100
      (with_reducible refine (jj (HMC.o.under G1.o) HRC.o.sh HCL.o).mono ?_); rintro e w7 ⟨he, hb7⟩; rw [HRC.o.1, show s.prog.cons.map Prod.fst = s.prog.conKeys from rfl, HBQ.o] at he; subst he; obtain ⟨G2w, rfl⟩ := zW w7; have G2 := zH ((G1.o).trans (hb7.mono (G1.o).size)); clear hb7)
     refine hK.out _ _ (KEEP.o _ ?_) (λ hHeld => ?_)
     . (repeat (first | exact Below.refl _ _ | exact G2.o | refine Below.drew ?_ | refine Below.alloc ?_ (by simp) _ | refine Below.setCell ?_ (by simp) _))
     clear hK K; try simp only [Act.put, aK, aI, aJ]
     refine aa 25 ?_; refine aa 26 ?_; refine wpAnyH_done zK ?_ _; go_wp2_with fail
     go_ret; exact ⟨au (by rw [HQ.o, HC.o, HHD.o, HBQ.o]; rfl), HV.o.trans (G2.o.mono HV.o.size)⟩
 . skip
   refine wp_region_held_drew (S := (λ W => W.cell? ⟨S, 0, none⟩ = some (.pointer (some ⟨P, 0, none⟩)) /\ W.cell? ⟨S, 7, none⟩ = some (.map (some v1)) /\ W.cell? ⟨P, 1, none⟩ = some (.map (some c1)) /\ W.cell? ⟨w.heap.size, 1, none⟩ = some (.string (str nm)) /\ W.cell? ⟨w.heap.size, 3, none⟩ = some (.slice (some a) cs.length ca) /\ W.cell? ⟨w.heap.size + 1, 1, none⟩ = some (.bool true) /\ W.cell? a = some (.string (str c0)))) zK ?_ (λ hHeld => ?_)
   . exact KEEP.o _ (Below.refl _ _).drew
   refine aa 0 ?_; refine aa 1 ?_; refine aa 2 ?_; refine aa 3 ?_; refine aj 4 ?_; refine aj 5 ?_; refine aj 6 ?_; refine aj 7 ?_; refine aj 8 ?_; refine aj 9 ?_; refine aj 10 ?_; refine aa 11 ?_; refine aa 12 ?_; refine aj 13 ?_; refine aj 14 ?_; refine aj 15 ?_; refine aj 16 ?_; refine aj 17 ?_; refine aj 18 ?_; refine aj 19 ?_; refine aj 20 ?_; refine aj 21 ?_; refine aj 22 ?_; refine aj 23 ?_; refine aj 24 ?_; refine aa 25 ?_; refine aa 26 ?_; refine wpAnyH_done zK ?_ _; go_wp2_with fail
   go_ret; exact ⟨au (by rw [HQ.o]; rfl), HV.o.drew⟩
theorem GF {w : World} (h : dX w S P e1 c1 n1 t1 f1 v1 nd s) {n : Int} {nm : Tx} {A B : Option Addr} {cs : List Tx} {ca k kc : Nat} (hnm : nm.length <= maxLen) (hcs : aH w (.slice A cs.length ca) cs) (r : Int) (u : Bool) (hne : cs ≠ []) :
  Calls prog 149 #[.pointer (some ⟨S, 0, none⟩), .agg #[.int .i64 12, .string (str nm), .int .i64 n, .slice A cs.length ca, .slice B k kc], .agg #[.int .i64 r, .bool u]] w (aA (bK s 12 nm cs k r u) w) := by
 have HS := zH h; have HNM := zH hnm; have HCS := zH hcs; have hlc : cs.length <= 9223372036854775807 := (by obtain ⟨_, _, e, h1, h2, _⟩ := hcs; injection e with _ _ e3; unfold maxLen at h2; omega); clear h hnm hcs; have HQ := zH (show bK s 12 nm cs k r u = (!u && (s.vars.contains nm && eC s cs)) by simp [bK]); have HNE := zH hne; clear hne; go_enter func149, ntmps149
 go_wp2_with fail
 have a1 : Below w.heap.size w (w.alloc (.cells #[.int .i64 12, .string (str nm), .int .i64 n, .slice A cs.length ca, .slice B k kc] 39)) := (Below.refl _ w).alloc (Nat.le_refl _) _; have HV := zH (a1.alloc (by simp) (.cells #[.int .i64 r, .bool u] 168)); have B1 := zH (aT (o := .cells #[.int .i64 r, .bool u] 168) (heap_alloc_new w (.cells #[.int .i64 12, .string (str nm), .int .i64 n, .slice A cs.length ca, .slice B k kc] 39))); have B2 := zH (show ((w.alloc (.cells #[.int .i64 12, .string (str nm), .int .i64 n, .slice A cs.length ca, .slice B k kc] 39)).alloc (.cells #[.int .i64 r, .bool u] 168)).heap[w.heap.size + 1]? = some (.cells #[.int .i64 r, .bool u] 168 (0, 0)) from aF (by simp)); generalize (w.alloc (.cells #[.int .i64 12, .string (str nm), .int .i64 n, .slice A cs.length ca, .slice B k kc] 39)).alloc (.cells #[.int .i64 r, .bool u] 168) = V at *; clear a1; have HSV := zH (HS.o.under HV.o)
 have KEEP := zH (show ∀ W, Below V.heap.size V W -> (λ W => W.cell? ⟨S, 0, none⟩ = some (.pointer (some ⟨P, 0, none⟩)) /\ W.cell? ⟨S, 7, none⟩ = some (.map (some v1)) /\ W.cell? ⟨P, 1, none⟩ = some (.map (some c1)) /\ W.cell? ⟨w.heap.size, 1, none⟩ = some (.string (str nm)) /\ W.cell? ⟨w.heap.size, 3, none⟩ = some (.slice A cs.length ca) /\ W.cell? ⟨w.heap.size + 1, 1, none⟩ = some (.bool u)) W from
  λ W hW => by
   obtain ⟨b0, _, _, _, _, _, _, b7⟩ := gm (ab hW HSV.o.box); obtain ⟨_, d1, _, _⟩ := (HSV.o.under hW).prog.row; obtain ⟨_, g1, _, g3, _⟩ := aN (ab hW B1.o); obtain ⟨_, j1⟩ := bG (ab hW B2.o); exact ⟨b0, b7, d1, g1, g3, j1⟩)
 obtain ⟨lv, hmv, hkv, hsv⟩ := HSV.o.mv; have HMV := zH hmv; have HKV := zH hkv; have HSH := zH hsv; clear hmv hkv hsv; cases u
 . cases hc : s.vars.contains nm
   . have HC := zH hc; clear hc; refine wp_region_held_drew (S := (λ W => W.cell? ⟨S, 0, none⟩ = some (.pointer (some ⟨P, 0, none⟩)) /\ W.cell? ⟨S, 7, none⟩ = some (.map (some v1)) /\ W.cell? ⟨P, 1, none⟩ = some (.map (some c1)) /\ W.cell? ⟨w.heap.size, 1, none⟩ = some (.string (str nm)) /\ W.cell? ⟨w.heap.size, 3, none⟩ = some (.slice A cs.length ca) /\ W.cell? ⟨w.heap.size + 1, 1, none⟩ = some (.bool false))) zK ?_ (λ hHeld => ?_)
     . exact KEEP.o _ (Below.refl _ _).drew
     refine aa 0 ?_; refine aa 1 ?_; refine aa 2 ?_; refine aa 3 ?_; refine aa 4 ?_; refine aa 5 ?_; refine aa 6 ?_; refine aa 7 ?_; refine aa 8 ?_; refine aa 9 ?_; refine ay 10 zK rfl (λ K hK => ?_); go_simp
     (go_at_call 144
      (with_reducible refine (eo (HMV.o.under (zB V).drew) HSH.o HNM.o).mono ?_); rintro e w7 ⟨he, hb7⟩; rw [HKV.o, HC.o] at he; subst he; obtain ⟨G1w, rfl⟩ := zW w7; have G1 := zH (((zB V).drew).trans (hb7.mono ((zB V).drew).size)); clear hb7)
     refine hK.out _ _ (KEEP.o _ ?_) (λ hHeld => ?_)
     . (repeat (first | exact Below.refl _ _ | exact G1.o | refine Below.drew ?_ | refine Below.alloc ?_ (by simp) _ | refine Below.setCell ?_ (by simp) _))
     clear hK K; try simp only [Act.put, aK, aI, aJ]
     refine aa 11 ?_; refine aa 12 ?_; refine aj 13 ?_; refine aj 14 ?_; refine aj 15 ?_; refine aj 16 ?_; refine aa 17 ?_; refine aa 18 ?_; refine wpAnyH_done zK ?_ _; go_wp2_with fail
     go_ret; exact ⟨au (by rw [HQ.o, HC.o]; rfl), HV.o.trans (G1.o.mono HV.o.size)⟩
   . have HC := zH hc; clear hc; refine wp_region_held_drew (S := (λ W => W.cell? ⟨S, 0, none⟩ = some (.pointer (some ⟨P, 0, none⟩)) /\ W.cell? ⟨S, 7, none⟩ = some (.map (some v1)) /\ W.cell? ⟨P, 1, none⟩ = some (.map (some c1)) /\ W.cell? ⟨w.heap.size, 1, none⟩ = some (.string (str nm)) /\ W.cell? ⟨w.heap.size, 3, none⟩ = some (.slice A cs.length ca) /\ W.cell? ⟨w.heap.size + 1, 1, none⟩ = some (.bool false))) zK ?_ (λ hHeld => ?_)
     . exact KEEP.o _ (Below.refl _ _).drew
     refine aa 0 ?_; refine aa 1 ?_; refine aa 2 ?_; refine aa 3 ?_; refine aa 4 ?_; refine aa 5 ?_; refine aa 6 ?_; refine aa 7 ?_; refine aa 8 ?_; refine aa 9 ?_; refine ay 10 zK rfl (λ K hK => ?_); go_simp
     (go_at_call 144
      (with_reducible refine (eo (HMV.o.under (zB V).drew) HSH.o HNM.o).mono ?_); rintro e w7 ⟨he, hb7⟩; rw [HKV.o, HC.o] at he; subst he; obtain ⟨G1w, rfl⟩ := zW w7; have G1 := zH (((zB V).drew).trans (hb7.mono ((zB V).drew).size)); clear hb7)
     refine hK.out _ _ (KEEP.o _ ?_) (λ hHeld => ?_)
     . (repeat (first | exact Below.refl _ _ | exact G1.o | refine Below.drew ?_ | refine Below.alloc ?_ (by simp) _ | refine Below.setCell ?_ (by simp) _))
     clear hK K; try simp only [Act.put, aK, aI, aJ]
     refine aa 11 ?_; refine aa 12 ?_; refine aa 13 ?_; refine aa 14 ?_; refine aa 15 ?_; refine ay 16 zK rfl (λ K hK => ?_); go_simp
     (go_at_call 180
      (with_reducible refine (mW (HSV.o.under G1.o) ((HCS.o.under HV.o).under G1.o) HNE.o).mono ?_); rintro e w7 ⟨rfl, hb7⟩; obtain ⟨G2w, rfl⟩ := zW w7; have G2 := zH (G1.o.trans (hb7.mono G1.o.size)); clear hb7)
     refine hK.out _ _ (KEEP.o _ ?_) (λ hHeld => ?_)
     . (repeat (first | exact Below.refl _ _ | exact G2.o | refine Below.drew ?_ | refine Below.alloc ?_ (by simp) _ | refine Below.setCell ?_ (by simp) _))
     clear hK K; try simp only [Act.put, aK, aI, aJ]
     refine aa 17 ?_; refine aa 18 ?_; refine wpAnyH_done zK ?_ _; go_wp2_with fail
     go_ret; exact ⟨au (by rw [HQ.o, HC.o]; rfl), HV.o.trans (G2.o.mono HV.o.size)⟩
 . skip
   refine wp_region_held_drew (S := (λ W => W.cell? ⟨S, 0, none⟩ = some (.pointer (some ⟨P, 0, none⟩)) /\ W.cell? ⟨S, 7, none⟩ = some (.map (some v1)) /\ W.cell? ⟨P, 1, none⟩ = some (.map (some c1)) /\ W.cell? ⟨w.heap.size, 1, none⟩ = some (.string (str nm)) /\ W.cell? ⟨w.heap.size, 3, none⟩ = some (.slice A cs.length ca) /\ W.cell? ⟨w.heap.size + 1, 1, none⟩ = some (.bool true))) zK ?_ (λ hHeld => ?_)
   . exact KEEP.o _ (Below.refl _ _).drew
   refine aa 0 ?_; refine aa 1 ?_; refine aa 2 ?_; refine aa 3 ?_; refine aj 4 ?_; refine aj 5 ?_; refine aj 6 ?_; refine aj 7 ?_; refine aj 8 ?_; refine aj 9 ?_; refine aj 10 ?_; refine aa 11 ?_; refine aa 12 ?_; refine aj 13 ?_; refine aj 14 ?_; refine aj 15 ?_; refine aj 16 ?_; refine aa 17 ?_; refine aa 18 ?_; refine wpAnyH_done zK ?_ _; go_wp2_with fail
   go_ret; exact ⟨au (by rw [HQ.o]; rfl), HV.o.drew⟩
theorem GD {w : World} (h : dX w S P e1 c1 n1 t1 f1 v1 nd s) {n : Int} {nm : Tx} {A B : Option Addr} {cs : List Tx} {ca k kc : Nat} (hnm : nm.length <= maxLen) (hcs : aH w (.slice A cs.length ca) cs) (r : Int) (u : Bool) (hne : cs ≠ []) :
  Calls prog 149 #[.pointer (some ⟨S, 0, none⟩), .agg #[.int .i64 13, .string (str nm), .int .i64 n, .slice A cs.length ca, .slice B k kc], .agg #[.int .i64 r, .bool u]] w (aA (bK s 13 nm cs k r u) w) := by
 have HS := zH h; have HNM := zH hnm; have HCS := zH hcs; have hlc : cs.length <= 9223372036854775807 := (by obtain ⟨_, _, e, h1, h2, _⟩ := hcs; injection e with _ _ e3; unfold maxLen at h2; omega); clear h hnm hcs; have HQ := zH (show bK s 13 nm cs k r u = (!u && (s.vars.contains nm && eC s cs)) by simp [bK]); have HNE := zH hne; clear hne; go_enter func149, ntmps149
 go_wp2_with fail
 have a1 : Below w.heap.size w (w.alloc (.cells #[.int .i64 13, .string (str nm), .int .i64 n, .slice A cs.length ca, .slice B k kc] 39)) := (Below.refl _ w).alloc (Nat.le_refl _) _; have HV := zH (a1.alloc (by simp) (.cells #[.int .i64 r, .bool u] 168)); have B1 := zH (aT (o := .cells #[.int .i64 r, .bool u] 168) (heap_alloc_new w (.cells #[.int .i64 13, .string (str nm), .int .i64 n, .slice A cs.length ca, .slice B k kc] 39))); have B2 := zH (show ((w.alloc (.cells #[.int .i64 13, .string (str nm), .int .i64 n, .slice A cs.length ca, .slice B k kc] 39)).alloc (.cells #[.int .i64 r, .bool u] 168)).heap[w.heap.size + 1]? = some (.cells #[.int .i64 r, .bool u] 168 (0, 0)) from aF (by simp)); generalize (w.alloc (.cells #[.int .i64 13, .string (str nm), .int .i64 n, .slice A cs.length ca, .slice B k kc] 39)).alloc (.cells #[.int .i64 r, .bool u] 168) = V at *; clear a1; have HSV := zH (HS.o.under HV.o)
 have KEEP := zH (show ∀ W, Below V.heap.size V W -> (λ W => W.cell? ⟨S, 0, none⟩ = some (.pointer (some ⟨P, 0, none⟩)) /\ W.cell? ⟨S, 7, none⟩ = some (.map (some v1)) /\ W.cell? ⟨P, 1, none⟩ = some (.map (some c1)) /\ W.cell? ⟨w.heap.size, 1, none⟩ = some (.string (str nm)) /\ W.cell? ⟨w.heap.size, 3, none⟩ = some (.slice A cs.length ca) /\ W.cell? ⟨w.heap.size + 1, 1, none⟩ = some (.bool u)) W from
  λ W hW => by
   obtain ⟨b0, _, _, _, _, _, _, b7⟩ := gm (ab hW HSV.o.box); obtain ⟨_, d1, _, _⟩ := (HSV.o.under hW).prog.row; obtain ⟨_, g1, _, g3, _⟩ := aN (ab hW B1.o); obtain ⟨_, j1⟩ := bG (ab hW B2.o); exact ⟨b0, b7, d1, g1, g3, j1⟩)
 obtain ⟨lv, hmv, hkv, hsv⟩ := HSV.o.mv; have HMV := zH hmv; have HKV := zH hkv; have HSH := zH hsv; clear hmv hkv hsv; cases u
 . cases hc : s.vars.contains nm
   . have HC := zH hc; clear hc; refine wp_region_held_drew (S := (λ W => W.cell? ⟨S, 0, none⟩ = some (.pointer (some ⟨P, 0, none⟩)) /\ W.cell? ⟨S, 7, none⟩ = some (.map (some v1)) /\ W.cell? ⟨P, 1, none⟩ = some (.map (some c1)) /\ W.cell? ⟨w.heap.size, 1, none⟩ = some (.string (str nm)) /\ W.cell? ⟨w.heap.size, 3, none⟩ = some (.slice A cs.length ca) /\ W.cell? ⟨w.heap.size + 1, 1, none⟩ = some (.bool false))) zK ?_ (λ hHeld => ?_)
     . exact KEEP.o _ (Below.refl _ _).drew
     refine aa 0 ?_; refine aa 1 ?_; refine aa 2 ?_; refine aa 3 ?_; refine aa 4 ?_; refine aa 5 ?_; refine aa 6 ?_; refine aa 7 ?_; refine aa 8 ?_; refine aa 9 ?_; refine ay 10 zK rfl (λ K hK => ?_); go_simp
     (go_at_call 144
      (with_reducible refine (eo (HMV.o.under (zB V).drew) HSH.o HNM.o).mono ?_); rintro e w7 ⟨he, hb7⟩; rw [HKV.o, HC.o] at he; subst he; obtain ⟨G1w, rfl⟩ := zW w7; have G1 := zH (((zB V).drew).trans (hb7.mono ((zB V).drew).size)); clear hb7)
     refine hK.out _ _ (KEEP.o _ ?_) (λ hHeld => ?_)
     . (repeat (first | exact Below.refl _ _ | exact G1.o | refine Below.drew ?_ | refine Below.alloc ?_ (by simp) _ | refine Below.setCell ?_ (by simp) _))
     clear hK K; try simp only [Act.put, aK, aI, aJ]
     refine aa 11 ?_; refine aa 12 ?_; refine aj 13 ?_; refine aj 14 ?_; refine aj 15 ?_; refine aj 16 ?_; refine aa 17 ?_; refine aa 18 ?_; refine wpAnyH_done zK ?_ _; go_wp2_with fail
     go_ret; exact ⟨au (by rw [HQ.o, HC.o]; rfl), HV.o.trans (G1.o.mono HV.o.size)⟩
   . have HC := zH hc; clear hc; refine wp_region_held_drew (S := (λ W => W.cell? ⟨S, 0, none⟩ = some (.pointer (some ⟨P, 0, none⟩)) /\ W.cell? ⟨S, 7, none⟩ = some (.map (some v1)) /\ W.cell? ⟨P, 1, none⟩ = some (.map (some c1)) /\ W.cell? ⟨w.heap.size, 1, none⟩ = some (.string (str nm)) /\ W.cell? ⟨w.heap.size, 3, none⟩ = some (.slice A cs.length ca) /\ W.cell? ⟨w.heap.size + 1, 1, none⟩ = some (.bool false))) zK ?_ (λ hHeld => ?_)
     . exact KEEP.o _ (Below.refl _ _).drew
     refine aa 0 ?_; refine aa 1 ?_; refine aa 2 ?_; refine aa 3 ?_; refine aa 4 ?_; refine aa 5 ?_; refine aa 6 ?_; refine aa 7 ?_; refine aa 8 ?_; refine aa 9 ?_; refine ay 10 zK rfl (λ K hK => ?_); go_simp
     (go_at_call 144
      (with_reducible refine (eo (HMV.o.under (zB V).drew) HSH.o HNM.o).mono ?_); rintro e w7 ⟨he, hb7⟩; rw [HKV.o, HC.o] at he; subst he; obtain ⟨G1w, rfl⟩ := zW w7; have G1 := zH (((zB V).drew).trans (hb7.mono ((zB V).drew).size)); clear hb7)
     refine hK.out _ _ (KEEP.o _ ?_) (λ hHeld => ?_)
     . (repeat (first | exact Below.refl _ _ | exact G1.o | refine Below.drew ?_ | refine Below.alloc ?_ (by simp) _ | refine Below.setCell ?_ (by simp) _))
     clear hK K; try simp only [Act.put, aK, aI, aJ]
     refine aa 11 ?_; refine aa 12 ?_; refine aa 13 ?_; refine aa 14 ?_; refine aa 15 ?_; refine ay 16 zK rfl (λ K hK => ?_); go_simp
     (go_at_call 180
      (with_reducible refine (mW (HSV.o.under G1.o) ((HCS.o.under HV.o).under G1.o) HNE.o).mono ?_); rintro e w7 ⟨rfl, hb7⟩; obtain ⟨G2w, rfl⟩ := zW w7; have G2 := zH (G1.o.trans (hb7.mono G1.o.size)); clear hb7)
     refine hK.out _ _ (KEEP.o _ ?_) (λ hHeld => ?_)
     . (repeat (first | exact Below.refl _ _ | exact G2.o | refine Below.drew ?_ | refine Below.alloc ?_ (by simp) _ | refine Below.setCell ?_ (by simp) _))
     clear hK K; try simp only [Act.put, aK, aI, aJ]
     refine aa 17 ?_; refine aa 18 ?_; refine wpAnyH_done zK ?_ _; go_wp2_with fail
     go_ret; exact ⟨au (by rw [HQ.o, HC.o]; rfl), HV.o.trans (G2.o.mono HV.o.size)⟩
 . skip
   refine wp_region_held_drew (S := (λ W => W.cell? ⟨S, 0, none⟩ = some (.pointer (some ⟨P, 0, none⟩)) /\ W.cell? ⟨S, 7, none⟩ = some (.map (some v1)) /\ W.cell? ⟨P, 1, none⟩ = some (.map (some c1)) /\ W.cell? ⟨w.heap.size, 1, none⟩ = some (.string (str nm)) /\ W.cell? ⟨w.heap.size, 3, none⟩ = some (.slice A cs.length ca) /\ W.cell? ⟨w.heap.size + 1, 1, none⟩ = some (.bool true))) zK ?_ (λ hHeld => ?_)
   . exact KEEP.o _ (Below.refl _ _).drew
   refine aa 0 ?_; refine aa 1 ?_; refine aa 2 ?_; refine aa 3 ?_; refine aj 4 ?_; refine aj 5 ?_; refine aj 6 ?_; refine aj 7 ?_; refine aj 8 ?_; refine aj 9 ?_; refine aj 10 ?_; refine aa 11 ?_; refine aa 12 ?_; refine aj 13 ?_; refine aj 14 ?_; refine aj 15 ?_; refine aj 16 ?_; refine aa 17 ?_; refine aa 18 ?_; refine wpAnyH_done zK ?_ _; go_wp2_with fail
   go_ret; exact ⟨au (by rw [HQ.o]; rfl), HV.o.drew⟩
theorem GC {w : World} (h : dX w S P e1 c1 n1 t1 f1 v1 nd s) {n : Int} {nm : Tx} {A B : Option Addr} {cs : List Tx} {ca k kc : Nat} (hnm : nm.length <= maxLen) (hcs : aH w (.slice A cs.length ca) cs) (r : Int) (u : Bool) :
  Calls prog 149 #[.pointer (some ⟨S, 0, none⟩), .agg #[.int .i64 14, .string (str nm), .int .i64 n, .slice A cs.length ca, .slice B k kc], .agg #[.int .i64 r, .bool u]] w (aA (bK s 14 nm cs k r u) w) := by
 have HS := zH h; have HNM := zH hnm; have HCS := zH hcs; have hlc : cs.length <= 9223372036854775807 := (by obtain ⟨_, _, e, h1, h2, _⟩ := hcs; injection e with _ _ e3; unfold maxLen at h2; omega); clear h hnm hcs; have HQ := zH (show bK s 14 nm cs k r u = iW s nm cs k r by simp [bK]); go_enter func149, ntmps149
 go_wp2_with (go_at_call 181
              have a1 : Below w.heap.size w ((w.alloc (.cells #[.int .i64 14, .string (str nm), .int .i64 n, .slice A cs.length ca, .slice B k kc] 39)).alloc (.cells #[.int .i64 r, .bool u] 168)) := ((Below.refl _ w).alloc (Nat.le_refl _) _).alloc (by simp) _; (with_reducible refine (CE (HS.o.under a1) HNM.o (HCS.o.under a1) r).mono ?_); rintro e w7 ⟨rfl, hb7⟩; have G1 := zH (a1.trans (hb7.mono a1.size)); clear a1 hb7)
 go_ret; exact ⟨au HQ.o.symm, G1.o⟩
theorem Jd {w : World} (h : dX w S P e1 c1 n1 t1 f1 v1 nd s) {op n : Int} {nm : Tx} {A B : Option Addr} {cs : List Tx} {ca k kc : Nat} (hnm : nm.length <= maxLen) (hcs : aH w (.slice A cs.length ca) cs) (r : Int) (u : Bool) (h4 : (op == 4) = false) (h3 : (op == 3) = false) (h11 : (op == 11) = false) (h12 : (op == 12) = false) (h13 : (op == 13) = false) (h14 : (op == 14) = false) :
  Calls prog 149 #[.pointer (some ⟨S, 0, none⟩), .agg #[.int .i64 op, .string (str nm), .int .i64 n, .slice A cs.length ca, .slice B k kc], .agg #[.int .i64 r, .bool u]] w (aA (bK s op nm cs k r u) w) := by
 have HS := zH h; have HNM := zH hnm; have HCS := zH hcs; have hlc : cs.length <= 9223372036854775807 := (by obtain ⟨_, _, e, h1, h2, _⟩ := hcs; injection e with _ _ e3; unfold maxLen at h2; omega); clear h hnm hcs; have HQ := zH (show bK s op nm cs k r u = true by simp only [beq_eq_false_iff_ne, ne_eq] at h4 h3 h11 h12 h13 h14; simp [bK, h4, h3, h11, h12, h13, h14]); go_enter func149, ntmps149
 go_wp2_with fail
 go_ret; exact ⟨au HQ.o.symm, ((Below.refl _ w).alloc (Nat.le_refl _) _).alloc (by simp) _⟩
end
end Go.Proofs.YtkfacdofkfabnaaGreatDoor
