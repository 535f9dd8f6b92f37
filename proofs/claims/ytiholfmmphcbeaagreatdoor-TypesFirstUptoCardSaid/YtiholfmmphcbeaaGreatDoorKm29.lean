import Derived.Shelf.Spec.SlicesGrow
import Derived.Test.YtiholfmmphcbeaaGreatDoorKm28
set_option maxHeartbeats 4000000
set_option maxRecDepth 100000
namespace Go.Proofs
open Go.RowKit (zH zO zD zK zW zA zB zG)
open _root_.Go.Proofs.Tryz
open Go.Shelf
def growS_ren : Go.Shelf.Ren := ⟨λ | 4 => 164 | n => n, λ | 22 => 50 | 25 => 9 | 3 => 3 | 4 => 4 | 9 => 9 | 20 => 20 | 0 => 0 | n => n, λ | n => n⟩
theorem growS : Go.Proofs.Lays8.n4 prog growS_ren := {
 mixed := by kernel_rfl
 f4 := ⟨f164.name, by decide, func164.trans (congrArg some zK)⟩
 t0 := underlying0
 a0 := isAgg0
 z0 := sizeOf0
 v0 := zeroValue0
 t3 := underlying3
 a3 := isAgg3
 z3 := sizeOf3
 v3 := zeroValue3
 t4 := underlying4
 a4 := isAgg4
 z4 := sizeOf4
 v4 := zeroValue4
 t9 := underlying9
 a9 := isAgg9
 z9 := sizeOf9
 v9 := zeroValue9
 t20 := underlying20
 a20 := isAgg20
 z20 := sizeOf20
 v20 := zeroValue20
 t22 := underlying50
 a22 := isAgg50
 z22 := sizeOf50
 v22 := zeroValue50 }
end Go.Proofs
namespace Go.Proofs.YtiholfmmphcbeaaGreatDoor
open _root_.Go.Proofs.Tryz
open Go.RowKit
def lp (l : List Tx) (w : World) (e : Ending) (w' : World) : Prop := ∃ v, e = .returned v /\ cF w.heap.size w' v l /\ Below w.heap.size w w'
theorem Bt (w : World) : Calls prog 164 #[.slice none 0 0, .int .i64 0] w (lp [] w) :=
 (Any8.slices_Grow_room growS none 0 0 0 w zO zO zO zO).mono λ e w' ⟨h1, h2⟩ => ⟨_, h1, cF.nil _ _, by rw [h2]; exact Below.refl _ _⟩
theorem Bu {n : Nat} (h0 : 0 < n) (hn : n <= 4194304) (w : World) : Calls prog 164 #[.slice none 0 0, .int .i64 n] w (lp [] w) := by
 obtain ⟨i0, hi, hz0, hz1, hz2⟩ := info_parts pG; refine (Any8.slices_Grow_grow growS i0 (.string ⟨#[]⟩) hi hz0 zO none 0 0 n [] w zO zO (by rw [hz2]; omega) zO (by simp) (by simp) (by simp)).mono λ e w' ⟨h1, h2⟩ => ⟨_, h1, ?_, ?_⟩
 . have ht : growS_ren.t 25 = 9 := rfl; rw [ht] at h2 ⊢; have hge := grownCap_ge w (0 + n) 0 9; have hcm : grownCap w (0 + n) 0 9 <= maxLen := grownCap_le_maxLen w _ _ _ (by unfold maxLen; omega); rw [h2]; refine ⟨⟨rfl, .inr ⟨w.heap.size, _, _, rfl, Nat.le_refl _, heap_alloc_new w.drew _, Nat.zero_le _, hcm, ?_, by simp⟩⟩, by simp⟩; simp [Builtin.zeroCells, Value.cells] at hge ⊢; omega
 . rw [h2]; exact (Below.refl _ w).drew.alloc (Nat.le_refl _) _
theorem DQ {n : Nat} (hn : n <= 4194304) (w : World) : Calls prog 164 #[.slice none 0 0, .int .i64 n] w (lp [] w) := by
 cases n with
 | zero => exact Bt w
 | succ n => exact Bu zO hn w
def nu (w : World) (v : Value) (ls : List (List Tx)) : Prop := ak w (λ L l => ∃ x, L = [x] /\ aF w x l) v ls
theorem gE {X : Type} {ls : List (List X)} {k : Nat} {x : List X} (h : ls[k]? = some x) : (ls.take (k + 1)).flatten = (ls.take k).flatten ++ x := by
 rw [cI h]; simp
theorem qu {X : Type} (ls : List (List X)) (k : Nat) : (ls.take k).flatten.length <= ls.flatten.length := by
 have h : ls.flatten = (ls.take k).flatten ++ (ls.drop k).flatten := (by rw [<- List.flatten_append, List.take_append_drop]); rw [h, List.length_append]; omega
theorem qK {w : World} {A : Option Addr} {c : Nat} {ls : List (List Tx)} (h : nu w (.slice A ls.length c) ls) (hlen : ls.flatten.length <= 2097152) :
  Calls prog 130 #[.slice A ls.length c] w (lp ls.flatten w) := by
 obtain ⟨A', c', e, hc, hm, he⟩ := h; injection e with e1 e2 e3; subst e1 e3; have hll : ls.length <= 9223372036854775807 := (by have h : ls.length <= c := hc; unfold maxLen at hm; omega); have HE := zH he; clear hc hm he e2; go_enter func130, ntmps130
 go_wp2_with fail
 go_loopg [3, 11] ls.length (λ g n i wr => ∃ k : Nat, k + g = ls.length /\ i = .int .i64 k /\ n = .int .i64 ((ls.take k).flatten.length : Nat) /\ wr = w)
 case atStart => exact ⟨0, by omega, rfl, rfl, rfl⟩
 case round =>
  obtain ⟨k, hkg, rfl, rfl, rfl⟩ := hrel; have HK := zH hkg; have hkl : k <= ls.length := zO; clear hkg; by_cases hlt : k < ls.length
  . obtain ⟨l, hl⟩ := zG hlt; have HT := zH (gE hl); have hlen1 : (ls.take k).flatten.length + l.length <= 2097152 := by
     have h1 := qu ls (k + 1); rw [gE hl, List.length_append] at h1; omega
    obtain ⟨L, hE, x, rfl, hx⟩ := HE.o k l hl; obtain ⟨xA, xc, rfl, _⟩ := hx; obtain ⟨a, rfl, _, _, q0⟩ := dL hE; simp only [Nat.mul_one] at q0; generalize hN : (ls.take k).flatten.length = N at *; clear hE hl; have hN0 : ¬ ((N : Int) + (l.length : Int) < 0) := zO; go_wp2_with fail
    go_roundg (ls.length - (k + 1))
    case measure => have := HK.o; omega
    case rel => exact ⟨k + 1, by omega, by go_num, by rw [HT.o, List.length_append, hN]; go_num, rfl⟩
  . have hke : k = ls.length := by omega
    subst hke; obtain ⟨V, rfl⟩ := zW wr; have HG := zH (DQ (n := ls.flatten.length) zO V); rw [List.take_length]; generalize hN : ls.flatten.length = N at *; clear hlt hkl; go_wp2_with (go_at_call 164; (with_reducible refine HG.o.mono ?_); rintro e w1 ⟨v1, rfl, ho, hb⟩; have HO := zH ho; have HB := zH hb; clear ho hb)
    have hbw := HB.o.size; go_loopg [6, 27] ls.length (λ g v i wq => ∃ k : Nat, k + g = ls.length /\ i = .int .i64 k /\ cF V.heap.size wq v (ls.take k).flatten /\ Below V.heap.size V wq)
    case atStart => exact ⟨0, by omega, rfl, by simpa using HO.o, HB.o⟩
    case round =>
     obtain ⟨wq, rfl⟩ := zW wr; obtain ⟨k, hkg, rfl, ho, hb⟩ := hrel; have HK := zH hkg; have HO2 := zH ho; have HB2 := zH hb; have hsz2 := hb.size; have hkl : k <= ls.length := zO; clear hkg ho hb; by_cases hlt : k < ls.length
     . obtain ⟨l, hl⟩ := zG hlt; have HT := zH (gE hl); have hlen1 : (ls.take k).flatten.length + l.length <= 4194304 := by
        have h1 := qu ls (k + 1); rw [gE hl, List.length_append] at h1; omega
       obtain ⟨L, hE, x, rfl, hx⟩ := HE.o k l hl; have HX := zH (hx.under HB2.o); obtain ⟨xA, xc, rfl, _⟩ := hx; obtain ⟨a, rfl, _, _, q0⟩ := dL (hE.under HB2.o); simp only [Nat.mul_one] at q0; clear hE hl; go_wp2_with (at_builtin; refine iG rfl _ _ rfl rfl rfl HO2.o HX.o hlen1 hsz2 ?_; (intro v5 w5 h5; obtain ⟨ho5, hb5, _⟩ := h5; have HO5 := zH ho5; have HB5 := zH (HB2.o.trans hb5); clear ho5 hb5))
       go_roundg (ls.length - (k + 1))
       case measure => have := HK.o; omega
       case rel => exact ⟨k + 1, by omega, by go_num, by rw [HT.o]; exact HO5.o, HB5.o⟩
     . have hke : k = ls.length := by omega
       have HOe := zH (show cF V.heap.size _ _ ls.flatten by have := HO2.o; rwa [hke, List.take_length] at this); clear hke; go_wp2_with fail
       go_ret; exact ⟨_, rfl, HOe.o, HB2.o⟩
end Go.Proofs.YtiholfmmphcbeaaGreatDoor
namespace Go.Proofs.YtiholfmmphcbeaaGreatDoor
open _root_.Go.Proofs.Tryz
open Go.RowKit
open Go.ChangeMaps Go.MapKept
open Go.Maps
theorem nu.under {w w' : World} {v : Value} {ls : List (List Tx)} (h : nu w v ls) (hb : Below w.heap.size w w') : nu w' v ls :=
 ak.mono h hb (λ _ _ ⟨x, hx, hs⟩ => ⟨x, hx, hs.under hb⟩)
theorem CM : ∀ p ∈ ([] : List (Tx × Value)), ShS p.2 := λ _ hp => absurd hp (List.not_mem_nil)
theorem mW {w : World} {A : Option Addr} {c : Nat} {ls : List (List Tx)} (h : nu w (.slice A ls.length c) ls) (hlen : ls.flatten.length <= 2097152) :
  Calls prog 94 #[.slice A ls.length c] w (ar (aV [] ls.flatten) w) := by
 have hmm := @run_makeMap prog; have HA := zH h; clear h; go_enter func94, ntmps94
 have hal := zH (zA w (.map #[] 0))
 go_wp2_with (first
  | (go_at_call 130; (with_reducible refine (qK (HA.o.under hal.o) hlen).mono ?_); rintro e w1 ⟨v1, rfl, ho, hb⟩; have hz : w.heap.size + 1 <= w1.heap.size := (by have := hb.size; simpa using this); have HM1 := zH ((ax.made w).under hb); have HS1 := zH ho.strs; have HB1 := zH (hal.o.trans (hb.mono (by simp))); clear ho hb)
  | (go_at_call 130; (with_reducible refine (qK HA.o hlen).mono ?_); rintro e w1 ⟨v1, rfl, ho, hb⟩; have hz := hb.size; have HM1 := zH (ax.made w1); have HS1 := zH (ho.strs.under ((Below.refl _ w1).alloc (Nat.le_refl _) (.map #[] 0))); have HB1 := zH (hb.trans ((Below.refl _ w1).alloc hz (.map #[] 0))); clear ho hb)
  | (go_at_call 48; (with_reducible refine (cZ (l := []) HM1.o CM HS1.o).mono ?_); rintro e w7 ⟨he, hk, _⟩; subst he; have HF := zH (HB1.o.trans (hk.below (B := w.heap.size) (by intro b hb; rw [List.mem_singleton] at hb; omega) (by first | omega | (simp; omega)))); clear hk))
 all_goals (go_ret; exact ⟨rfl, HF.o⟩)
end Go.Proofs.YtiholfmmphcbeaaGreatDoor
namespace Go.Proofs.YtiholfmmphcbeaaGreatDoor
open _root_.Go.Proofs.Tryz
open Go.RowKit
theorem BV {w : World} {va : Value} {l : List Tx} (ha : aF w va l) (hl : l.length <= 2097152) : Calls prog 56 #[va] w (lp l w) := by
 have q24 : ∀ (w : World) (a : Option Addr) (n c n' c' : Nat), (binOp .eql 50 (.slice a n c) (.slice none n' c')).run prog w = .ok (.bool a.isNone) w := λ w a n c n' c' => Lib.run_eql_slice_nil w _ _ a n c n' c' underlying50; have HA := zH ha; obtain ⟨A, c, rfl, _, _, he⟩ := ha; cases A with
 | none =>
   have hn : l = [] := by
    cases l with
    | nil => rfl
    | cons y r =>
      obtain ⟨L, ⟨a', e, _⟩, _⟩ := he 0 y rfl; cases e
   subst hn; clear he; go_enter func56, ntmps56
   go_wp2_with fail
   go_ret; exact ⟨_, rfl, cF.nil _ _, Below.refl _ _⟩
 | some a =>
   have hal := zH (zA w (.cells #[] 9)); have HO := zH (show cF w.heap.size (w.alloc (.cells #[] 9)) (.slice (some ⟨w.heap.size, 0, none⟩) 0 0) [] from ⟨World.ownsRow_made w #[] 0 (Nat.le_refl _) (Nat.zero_le _) rfl, by simp⟩); have hlen : ([] : List Tx).length + l.length <= 4194304 := (by simp; omega); clear he; go_enter func56, ntmps56
   go_wp2_with (at_builtin; refine iG rfl _ _ rfl rfl rfl HO.o (HA.o.under hal.o) hlen (by simp) ?_; (intro v5 w5 h5; obtain ⟨ho5, hb5, _⟩ := h5; have HO5 := zH ho5; have HB5 := zH (hal.o.trans hb5); clear ho5 hb5))
   go_ret; exact ⟨_, rfl, by simpa using HO5.o, HB5.o⟩
theorem rK {n : aA} (k : Nat) (h : (aG n).length <= 2097152) : (n.ins ++ (n.items.take k).flatMap aH).length <= 2097152 := by
 have h1 := mS aH n.items k; unfold aG at h; rw [List.length_append] at h ⊢; omega
theorem t8 {n : aA} {i : bf} (hi : i ∈ n.items) (h : (aG n).length <= 2097152) : (aH i).length <= 2097152 := by
 obtain ⟨k, hk⟩ := List.getElem?_of_mem hi; have h1 := mS aH n.items (k + 1); rw [fl hk, List.length_append] at h1; unfold aG at h; rw [List.length_append] at h; omega
theorem uu {w0 : World} {L : List Value} {n : aA} (hL : bS w0 L n) (hlen : (aG n).length <= 2097152) : ∀ w, Below w0.heap.size w0 w -> Calls prog 30 #[.agg L.toArray] w (lp (aG n) w) := by
 intro w hb; have HB := zH hb; have hsz := hb.size; have HPART := zH (λ k => rK (n := n) k hlen); have HDP := zH (λ i hi => t8 (n := n) (i := i) hi hlen); have hil : n.ins.length <= 2097152 := (by have := rK (n := n) 0 hlen; simpa using this); have HVQ := zH (show aG n = n.ins ++ n.items.flatMap aH from rfl); obtain ⟨fv, iv, ov, xv, rfl, hnl, hfu, hin, hou, hit⟩ := hL; have HIN := zH (hin.under hb); obtain ⟨fA, fn, fk, rfl⟩ := ak.shape hfu; obtain ⟨iA, im, ik, rfl⟩ := ak.shape hin; obtain ⟨oA, on, ok, rfl⟩ := ak.shape hou; obtain ⟨xA, xk, rfl, hxc, hxm, hxe⟩ := hit; have HXE := zH hxe; have hxl : n.items.length <= 9223372036854775807 := (by have h : n.items.length <= xk := hxc; unfold maxLen at hxm; omega); have hal := zH (zA w (.cells #[.string (str n.name), .slice fA fn fk, .slice iA im ik, .slice oA on ok, .slice xA n.items.length xk] 53)); have BN := zH (heap_alloc_new w (.cells #[.string (str n.name), .slice fA fn fk, .slice iA im ik, .slice oA on ok, .slice xA n.items.length xk] 53)); clear hb hlen hfu hin hou hxc hxm hxe hnl; go_enter func30, ntmps30
 go_wp2_with (go_at_call 56
              (with_reducible refine (BV (HIN.o.under hal.o) hil).mono ?_); rintro e w7 ⟨v7, rfl, ho7, hb7⟩; obtain ⟨V, rfl⟩ := zW w7; have HO7 := zH (ho7.mono hal.o.size); have HV := zH (hal.o.trans (hb7.mono hal.o.size)); have BN7 := zH (ao hb7 BN.o); obtain ⟨_, _, _, _, nb4⟩ := aW BN7.o; clear ho7 hb7)
 have hszV := HV.o.size; clear nb4; go_loopg [3, 12] n.items.length (λ g v i wr => ∃ k : Nat, k + g = n.items.length /\ i = .int .i64 k /\ cF w.heap.size wr v (n.ins ++ (n.items.take k).flatMap aH) /\ Below w.heap.size w wr)
 case atStart => exact ⟨0, by omega, rfl, by simpa using HO7.o, HV.o⟩
 case round =>
  obtain ⟨wq, rfl⟩ := zW wr; obtain ⟨k, hkg, rfl, ho, hbw⟩ := hrel; have HK := zH hkg; have HW := zH hbw; have HO := zH ho; have hszw := hbw.size; have hkl : k <= n.items.length := zO; clear hkg hbw ho; by_cases hlt : k < n.items.length
  . obtain ⟨q, hq⟩ := zG hlt; have HT := zH (show n.ins ++ (n.items.take (k + 1)).flatMap aH = (n.ins ++ (n.items.take k).flatMap aH) ++ aH q by rw [fl hq, List.append_assoc]); have HDQ := zH (HDP.o q (List.mem_of_getElem? hq)); have hlen1 : (n.ins ++ (n.items.take k).flatMap aH).length + (aH q).length <= 4194304 := by
     have h1 := HPART.o k; have h2 := HDQ.o; omega
    obtain ⟨Lq, hEq, hRq⟩ := HXE.o k q hq; have HITM := zH hRq; obtain ⟨A0, n0, k0, o1, s2, o3, A4, n4, k4, A5, n5, k5, A6, n6, k6, rfl⟩ := hRq.shape; have HBQ := zH (HB.o.trans (HW.o.mono hsz)); obtain ⟨a, ea, ha, haa, d0, d1, d2, d3, d4, d5, d6⟩ := ox (hEq.under HBQ.o); subst ea; have HA3 := zH (zA wq (.cells #[.slice A0 n0 k0, .int .i64 o1, .string s2, .int .i64 o3, .slice A4 n4 k4, .slice A5 n5 k5, .slice A6 n6 k6] 86)); have HDEF := zH (oB HITM.o HDQ.o _ (HBQ.o.trans (HA3.o.mono HBQ.o.size))); clear hq hEq hRq
    go_wp2_with (first
     | (go_at_call 57; (with_reducible refine HDEF.o.mono ?_); rintro e w8 ⟨v8, rfl, hs8, hb8⟩; obtain ⟨A8, n8, k8, rfl⟩ := ak.shape hs8; obtain ⟨V8, rfl⟩ := zW w8; have HS8 := zH hs8; have HB8 := zH (HW.o.trans ((HA3.o.trans (hb8.mono HA3.o.size)).mono hszw)); have HO8 := zH ((HO.o.alloc _).under hb8); have hsz8 := HB8.o.size; clear hs8 hb8)
     | (at_builtin; refine iG rfl _ _ rfl rfl rfl HO8.o HS8.o hlen1 hsz8 ?_; (intro v5 w5 h5; obtain ⟨ho5, hb5, _⟩ := h5; have HO5 := zH ho5; have HB5 := zH (HB8.o.trans hb5); clear ho5 hb5)))
    go_roundg (n.items.length - (k + 1))
    case measure => have := HK.o; omega
    case rel => exact ⟨k + 1, by omega, by go_num, by rw [HT.o]; exact HO5.o, HB5.o⟩
  . have hke : k = n.items.length := by omega
    have HOe := zH (show cF w.heap.size wq _ (aG n) by have := HO.o; rwa [hke, List.take_length, <- HVQ.o] at this); clear hke; go_wp2_with fail
    go_ret; exact ⟨_, rfl, HOe.o, HW.o⟩
def iY (k : Int) (s : Tx) : List aA -> Int × Bool
 | [] => (0, false)
 | n :: r => if n.name = s then (k, true) else iY (k + 1) s r
def Gz (r : Int × Bool) (w : World) (e : Ending) (w' : World) : Prop := e = .returned (.tuple #[.int .i64 r.1, .bool r.2]) /\ Below w.heap.size w w'
theorem Dp {w0 : World} {L : List Value} {p : cg} (hL : dS w0 L p) (s : Tx) : ∀ w, Below w0.heap.size w0 w -> Calls prog 169 #[.agg L.toArray, .string (str s)] w (Gz (iY 0 s p.nodes) w) := by
 intro w hb; have HB := zH hb; have hsz := hb.size; obtain ⟨ev, nv, rfl, he, hn⟩ := hL; obtain ⟨E, en, ek, rfl⟩ := ak.shape he; obtain ⟨C, ck, rfl, hcc, hmc, hce⟩ := hn; have hnl : p.nodes.length <= 9223372036854775807 := (by have h : p.nodes.length <= ck := hcc; unfold maxLen at hmc; omega); have HCE := zH hce; clear hb he hcc hmc hce; go_enter func169, ntmps169
 go_wp2_with fail
 have HV := zH (zA w (.cells #[.slice E en ek, .slice C p.nodes.length ck] 25)); generalize w.alloc (.cells #[.slice E en ek, .slice C p.nodes.length ck] 25) = V at *; go_loopg [11] p.nodes.length (λ g v wr => ∃ k : Nat, k + g = p.nodes.length /\ v = .int .i64 k /\ iY 0 s p.nodes = iY k s (p.nodes.drop k) /\ Below V.heap.size V wr)
 case atStart => exact ⟨0, by omega, rfl, rfl, Below.refl _ _⟩
 case round =>
  obtain ⟨wq, rfl⟩ := zW wr; obtain ⟨k, hkg, rfl, hr, hbw⟩ := hrel; have HK := zH hkg; have HR := zH hr; have HW := zH hbw; have HVW := zH (HV.o.trans (hbw.mono HV.o.size)); have HBQ := zH (HB.o.trans (HVW.o.mono hsz)); have hkl : k <= p.nodes.length := zO; clear hkg hr hbw; by_cases hlt : k < p.nodes.length
  . obtain ⟨n, hn⟩ := zG hlt; have HDR := zH (bw hn); obtain ⟨Ln, hEn, fv, iv, ov, xv, rfl, _, hfu, hin, hou, hit⟩ := HCE.o k n hn; obtain ⟨fA, fn, fk, rfl⟩ := ak.shape hfu; obtain ⟨iA, im, ik, rfl⟩ := ak.shape hin; obtain ⟨oA, on, ok, rfl⟩ := ak.shape hou; obtain ⟨xA, xn, xk, rfl⟩ := ak.shape hit; obtain ⟨a, ea, ha, haa, d0, d1, d2, d3, d4⟩ := eh (hEn.under HBQ.o); subst ea; have hal := zH (zA wq (.cells #[.string (str n.name), .slice fA fn fk, .slice iA im ik, .slice oA on ok, .slice xA xn xk] 53)); clear hn hEn hfu hin hou hit; by_cases hs : n.name = s
    . have hb : ((str n.name).toList == (str s).toList) = true := by rw [hs]; simp
      have HN := zH (show iY 0 s p.nodes = ((k : Int), true) by rw [HR.o, HDR.o, iY, if_pos hs]); clear hs; go_wp2_with fail
      go_ret2
      exact ⟨by rw [HN.o]; rfl, HVW.o.trans (hal.o.mono HVW.o.size)⟩
    . have hb : ((str n.name).toList == (str s).toList) = false := by rw [ep, ep]; simp; exact hs
      have HN := zH (show iY 0 s p.nodes = iY (k + 1 : Nat) s (p.nodes.drop (k + 1)) by rw [HR.o, HDR.o, iY, if_neg hs]; rfl); clear hs; go_wp2_with fail
      go_roundg (p.nodes.length - (k + 1))
      case measure => have := HK.o; omega
      case rel => exact ⟨k + 1, by omega, by go_num, HN.o, HW.o.trans (hal.o.mono HW.o.size)⟩
  . have hke : k = p.nodes.length := by omega
    have HN := zH (show iY 0 s p.nodes = (0, false) by rw [HR.o, hke, List.drop_length]; rfl); clear hke; go_wp2_with fail
    go_ret2
    exact ⟨by rw [HN.o]; rfl, HVW.o⟩
def mZ (k : Int) (s : Tx) : List fo -> Int × Int × Bool
 | [] => (0, 0, false)
 | e :: r => if 0 <= lx e.cons s then (k, lx e.cons s, true) else mZ (k + 1) s r
def rB (p : cg) (s : Tx) : Int × Int × Bool := if 0 <= lx eH s then (-1, lx eH s, true) else mZ 0 s p.enums
def IS (r : Int × Int × Bool) (w : World) (e : Ending) (w' : World) : Prop := e = .returned (.tuple #[.int .i64 r.1, .int .i64 r.2.1, .bool r.2.2]) /\ Below w.heap.size w w'
theorem Gd {w0 : World} {L : List Value} {p : cg} (hL : dS w0 L p) (s : Tx) : ∀ w, Below w0.heap.size w0 w -> Calls prog 172 #[.agg L.toArray, .string (str s)] w (IS (rB p s) w) := by
 intro w hb; have HB := zH hb; have hsz := hb.size; obtain ⟨ev, nv, rfl, he, hn⟩ := hL; obtain ⟨C, cn, ck, rfl⟩ := ak.shape hn; obtain ⟨E, ek, rfl, hec, hem, hee⟩ := he; have hel : p.enums.length <= 9223372036854775807 := (by have h : p.enums.length <= ek := hec; unfold maxLen at hem; omega); have HEE := zH hee; have hal := zH (zA w (.cells #[.slice E p.enums.length ek, .slice C cn ck] 25)); have BP := zH (heap_alloc_new w (.cells #[.slice E p.enums.length ek, .slice C cn ck] 25)); clear hb hec hem hee hn; have HQ := zH (show rB p s = if 0 <= lx eH s then (-1, lx eH s, true) else mZ 0 s p.enums from rfl)
 have HIB := zH (show Calls prog 100 #[.slice (some ⟨w.heap.size + 1, 0, none⟩) 2 2, .string (str s)] ((w.alloc (.cells #[.slice E p.enums.length ek, .slice C cn ck] 25)).alloc fC) (λ e w' => e = .returned (.int .i64 (lx eH s)) /\ (w.alloc (.cells #[.slice E p.enums.length ek, .slice C cn ck] 25)).alloc fC = w') from by
  have := nQ (qR (w.alloc (.cells #[.slice E p.enums.length ek, .slice C cn ck] 25))) s; rw [World.size_alloc] at this; exact this)
 generalize lx eH s = b at HQ HIB; by_cases hb0 : 0 <= b
 . have HQ1 := zH (show rB p s = (-1, b, true) by rw [HQ.o, if_pos hb0]); go_enter func172, ntmps172
   go_wp2_with (first
    | (go_at_call 47; (with_reducible refine (gI _).mono ?_); rintro e w7 ⟨rfl, rfl⟩)
    | (go_at_call 100; (with_reducible refine HIB.o.mono ?_); rintro e w7 ⟨rfl, rfl⟩))
   go_ret3
   exact ⟨by rw [HQ1.o]; rfl, hal.o.alloc hal.o.size _⟩
 . have HQ1 := zH (show rB p s = mZ 0 s p.enums by rw [HQ.o, if_neg hb0]); go_enter func172, ntmps172
   go_wp2_with (first
    | (go_at_call 47; (with_reducible refine (gI _).mono ?_); rintro e w7 ⟨rfl, rfl⟩; obtain ⟨_, _⟩ := bb (az (o := fC) BP.o))
    | (go_at_call 100; (with_reducible refine HIB.o.mono ?_); rintro e w7 ⟨rfl, rfl⟩))
   have HV := zH (hal.o.alloc hal.o.size fC); generalize (w.alloc (.cells #[.slice E p.enums.length ek, .slice C cn ck] 25)).alloc fC = V at *; go_loopg [20] p.enums.length (λ g v wr => ∃ k : Nat, k + g = p.enums.length /\ v = .int .i64 k /\ mZ 0 s p.enums = mZ k s (p.enums.drop k) /\ Below V.heap.size V wr)
   case atStart => exact ⟨0, by omega, rfl, rfl, Below.refl _ _⟩
   case round =>
    obtain ⟨wq, rfl⟩ := zW wr; obtain ⟨k, hkg, rfl, hr, hbw⟩ := hrel; have HK := zH hkg; have HR := zH hr; have HW := zH hbw; have HVW := zH (HV.o.trans (hbw.mono HV.o.size)); have HBQ := zH (HB.o.trans (HVW.o.mono hsz)); have hkl : k <= p.enums.length := zO; clear hkg hr hbw; by_cases hlt : k < p.enums.length
    . obtain ⟨q, hq⟩ := zG hlt; have HDR := zH (bw hq); obtain ⟨Lq, hEq, cv, rfl, _, hcs⟩ := HEE.o k q hq; have HCS := zH hcs; obtain ⟨cA, cm, cc, rfl⟩ := ak.shape hcs; obtain ⟨a, ea, ha, haa, d0, d1⟩ := Eb (hEq.under HBQ.o); subst ea; have hal2 := zH (zA wq (.cells #[.string (str q.name), .slice cA cm cc] 74)); have HIX := zH (nQ ((HCS.o.under HBQ.o).under hal2.o) s); have HCF := zH (show mZ 0 s p.enums = if 0 <= lx q.cons s then ((k : Int), lx q.cons s, true) else mZ (k + 1 : Nat) s (p.enums.drop (k + 1)) by rw [HR.o, HDR.o, mZ]; rfl); generalize lx q.cons s = c at HIX HCF; clear hq hEq hcs; by_cases hc : 0 <= c
      . have HN := zH (show rB p s = ((k : Int), c, true) by rw [HQ1.o, HCF.o, if_pos hc])
        go_wp2_with (go_at_call 100
                     (with_reducible refine HIX.o.mono ?_); rintro e w7 ⟨rfl, rfl⟩)
        go_ret3
        exact ⟨by rw [HN.o]; rfl, HVW.o.trans (hal2.o.mono HVW.o.size)⟩
      . have HN := zH (show mZ 0 s p.enums = mZ (k + 1 : Nat) s (p.enums.drop (k + 1)) by rw [HCF.o, if_neg hc])
        go_wp2_with (go_at_call 100
                     (with_reducible refine HIX.o.mono ?_); rintro e w7 ⟨rfl, rfl⟩)
        go_roundg (p.enums.length - (k + 1))
        case measure => have := HK.o; omega
        case rel => exact ⟨k + 1, by omega, by go_num, HN.o, HW.o.trans (hal2.o.mono HW.o.size)⟩
    . have hke : k = p.enums.length := by omega
      have HN := zH (show rB p s = (0, 0, false) by rw [HQ1.o, HR.o, hke, List.drop_length]; rfl); clear hke; go_wp2_with fail
      go_ret3
      exact ⟨by rw [HN.o]; rfl, HVW.o⟩
end Go.Proofs.YtiholfmmphcbeaaGreatDoor
