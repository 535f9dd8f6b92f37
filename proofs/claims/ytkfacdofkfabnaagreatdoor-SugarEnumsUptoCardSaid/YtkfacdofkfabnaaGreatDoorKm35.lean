import Derived.Test.YtkfacdofkfabnaaGreatDoorKm31
import Derived.Test.YtkfacdofkfabnaaGreatDoorKm34
set_option maxHeartbeats 8000000
set_option maxRecDepth 100000
namespace Go.Proofs.YtkfacdofkfabnaaGreatDoor
open _root_.Go.Proofs.Tryz
open Go.RowKit
open Go.ChangeMaps Go.MapKept
open Go.Maps
def pK (names fst : List Tx) (q : aM) : Bool := match dY q with
 | none => false
 | some own => fh own fst && lL q names
theorem rM {names fst : List Tx} {q : aM} (h : dY q = none) : pK names fst q = false := by rw [pK, h]
theorem Bm {names fst own : List Tx} {q : aM} (h : dY q = some own) : pK names fst q = (fh own fst && lL q names) := by rw [pK, h]
theorem uF (s : bc) (l : List aM) : cm s l = (!((l.map aM.name).any s.conKeys.contains) && (bg s.states (l.map aM.name) && l.all (pK (l.map aM.name) ((l.head?.bind dY).getD [])))) := rfl
theorem BR (l : List QEq) : ∀ m r, lp m l = some r -> r.length = m.length + l.length := by
 induction l with
 | nil => intro m r h; cases h; simp
 | cons q l ih =>
   intro m r h; rw [ja] at h; split at h
   . rename_i hc; have := ih _ _ h; rw [List.length_append, hc.1] at this; simp only [List.length_cons]; omega
   . cases h
theorem r9 {q : aM} {r : List Tx} (h : dY q = some r) : r.length = q.eqs.length := by
 have := BR _ _ _ h; simpa using this
theorem rL {w : World} {L : List Value} {q : aM} (h : bt w L q) : q.eqs.length <= maxLen := by
 obtain ⟨ev, wv, rfl, _, ⟨E, ce, rfl, hec, hem, _⟩, _⟩ := h; exact Nat.le_trans hec hem
theorem tt {w0 : World} {L : List Value} {q : aM} (hL : bt w0 L q) (hq : dY q = none) : ∀ w, Below w0.heap.size w0 w -> Calls prog 146 #[.agg L.toArray] w (λ e w' => e = .returned (.tuple #[.map none, .bool false]) /\ Below w.heap.size w w') :=
 λ w hb => (vu hL w hb).mono λ e w' ⟨h1, h2⟩ => ⟨by rw [hq] at h1; exact h1, h2⟩
theorem my {w0 : World} {L : List Value} {q : aM} (hL : bt w0 L q) {l : List Tx} (hq : dY q = some l) : ∀ w, Below w0.heap.size w0 w -> Calls prog 146 #[.agg L.toArray] w (λ e w' => ∃ b, e = .returned (.tuple #[.map (some b), .bool true]) /\ aP w' b (bu eZ l) /\ w.heap.size <= b /\ Below w.heap.size w w') :=
 λ w hb => (vu hL w hb).mono λ e w' ⟨h1, h2⟩ => by
  rw [hq] at h1
  obtain ⟨b, h3, h4, h5⟩ := h1
  exact ⟨b, h3, h4, h5, h2⟩
def qY (P e1 c1 n1 t1 : Nat) (s : bc) (l : List aM) (w : World) (e : Ending) (w' : World) : Prop :=
 e = .returned (.bool (cm s l)) /\ aC [t1] w w' /\ (cm s l = true -> bb w' P e1 c1 n1 t1 { s with states := s.states ++ l.map aM.name })
theorem gF {P e1 c1 n1 t1 : Nat} {s : bc} {l : List aM} {w w' : World} (h : cm s l = false) (hk : aC [t1] w w') : qY P e1 c1 n1 t1 s l w (.returned (.bool false)) w' :=
 ⟨au h.symm, hk, λ h' => by rw [h] at h'; cases h'⟩
section
variable {S P e1 c1 n1 t1 : Nat} {x1 x2 x3 x4 x5 x6 x7 : Value} {sp : bc}
theorem rx {w0 : World} {l : List aM} {A : Option Addr} {c : Nat} (hl : aw w0 (bt w0) (.slice A l.length c) l) (hne : l ≠ []) (hlen : l.length <= 2097152)
  {w : World} (hb : Below w0.heap.size w0 w) (hS : bb w P e1 c1 n1 t1 sp) (ht1 : w0.heap.size <= t1)
  (hbox : w.heap[S]? = some (.cells #[.pointer (some ⟨P, 0, none⟩), x1, x2, x3, x4, x5, x6, x7] 124 (0, 0))) :
  Calls prog 108 #[.pointer (some ⟨S, 0, none⟩), .slice A l.length c] w (qY P e1 c1 n1 t1 sp l w) := by
 have hmf : ∀ (fn : Fn) (first cap : Array Value) (w : World), (Instr.makeFunc fn first cap).run prog w = .ok (.func fn first cap) w := λ _ _ _ _ => rfl; obtain ⟨q0, hq0⟩ : ∃ q, l[0]? = some q := by
  cases l with
  | nil => exact absurd rfl hne
  | cons a b => exact ⟨a, rfl⟩
 have hpos : 0 < l.length := List.length_pos_iff.2 hne
 have HD := zH (show (l.head?.bind dY).getD [] = (dY q0).getD [] by
  cases l with
  | nil => cases hq0
  | cons a b => cases hq0; rfl)
 have HQ0 := zH hq0; have HS := zH hS; have HB := zH hb; have HBOX := zH hbox; have hsz := hb.size; obtain ⟨A', c', ee, hlc, hlm, he⟩ := hl; injection ee with e1' e2' e3'; subst e1' e3'; clear e2'; have HE := zH he; have hll : l.length <= 9223372036854775807 := zO; have HLEN := zH hlen; have HOK := zH (uF sp l); clear he hlc hlm hb hS hq0 hne; go_enter func108, ntmps108
 go_wp2_with fail
 have BN := zH (heap_alloc_new w (.cells #[.pointer (some ⟨S, 0, none⟩)] 121)); have HV := zH (zA w (.cells #[.pointer (some ⟨S, 0, none⟩)] 121)); generalize w.alloc (.cells #[.pointer (some ⟨S, 0, none⟩)] 121) = V at *; have HBV := zH (HB.o.trans (HV.o.mono hsz)); have hszV := HBV.o.size; go_loopg [5, 17] l.length (λ g v i wr => ∃ k : Nat, k + g = l.length /\ i = .int .i64 k /\ fw V.heap.size wr v ((l.take k).map aM.name) /\ Below V.heap.size V wr)
 case atStart => exact ⟨0, by omega, rfl, by simpa using fw.nil _ _, Below.refl _ _⟩
 case round =>
  obtain ⟨wq, rfl⟩ := zW wr; obtain ⟨k, hkg, rfl, ho, hbw⟩ := hrel; have HK := zH hkg; have HW := zH hbw; have HO := zH ho; have hszw := hbw.size; have HBQ := zH (HBV.o.trans (hbw.mono hszV)); have hkl : k <= l.length := zO; clear hkg hbw ho; by_cases hlt : k < l.length
  . obtain ⟨q, hq⟩ := zG hlt; have HT := zH (show (l.take (k + 1)).map aM.name = (l.take k).map aM.name ++ [q.name] by rw [bo hq]; simp); have hlen1 : ((l.take k).map aM.name).length <= 2097152 := (by have := HLEN.o; simp; omega); obtain ⟨N3, hEN3, ev, wv, rfl, hnl, hev, hwv⟩ := HE.o k q hq; obtain ⟨E1, E2, E3, rfl⟩ := aw.shape hev; obtain ⟨W1, W2, W3, rfl⟩ := aw.shape hwv; obtain ⟨a, rfl, ha, haa, d0, d1, d2⟩ := il (hEN3.under HBQ.o); have HNL := zH hnl; clear hEN3 hev hwv hq hnl; go_wp2_with (at_builtin; refine zy rfl _ _ rfl rfl rfl (aF (by simp)) ((HO.o.alloc _).alloc _) HNL.o hlen1 ?_ ?_; (first | omega | (simp; omega)); (intro v5 w5 h5; obtain ⟨ho5, hb5, _⟩ := h5; have HO5 := zH ho5; have HB5 := zH (((HW.o.alloc zO _).alloc (by simp; omega) _).trans hb5); clear ho5 hb5))
    go_roundg (l.length - (k + 1))
    case measure => have := HK.o; omega
    case rel => exact ⟨k + 1, by omega, by go_num, by rw [HT.o]; exact HO5.o, HB5.o⟩
  . have hke : k = l.length := by omega
    have HN := zH (show aH wq _ (l.map aM.name) by have := HO.o.strs; rwa [hke, List.take_length] at this); obtain ⟨A9, n9, c9, rfl, hn9⟩ := HO.o.shape; clear hke HO hn9; have HSQ := zH ((HS.o.under HV.o).under HW.o); have HBXQ := zH (ab HW.o (ab HV.o HBOX.o)); have HBNQ := zH (ab HW.o BN.o); have HKQ := zH ((aC.of_below (M := [t1]) HV.o).trans (aC.of_below HW.o)); generalize hnn : l.map aM.name = names at *; have HNN := zH hnn; clear hnn; have HCF := gT HN.o Ht (f := sp.conKeys.contains) (cap := #[.pointer (some ⟨w.heap.size, 0, none⟩)]) (λ x _ hx => yI HSQ.o HBXQ.o HBNQ.o hx); cases hc : names.any sp.conKeys.contains
    . rw [hc] at HCF; have HCF := zH HCF; have HOK1 := zH (show cm sp l = (bg sp.states names && l.all (pK names ((dY q0).getD []))) by rw [HOK.o, hc, HD.o]; rfl); clear hc; obtain ⟨N0, hEN0, hst0⟩ := HE.o 0 q0 HQ0.o; have HST0 := zH hst0; obtain ⟨s0, fA1, fn1, fk1, fA2, fn2, fk2, rfl⟩ := hst0.shape; obtain ⟨a0, rfl, _, _, _, _, _⟩ := il (hEN0.under HBQ.o); have HEN0 := zH hEN0; clear hEN0 hst0; cases hr : bg sp.states names
      . have HR := zH hr; have HNO := zH (show cm sp l = false by rw [HOK1.o, hr]; rfl); clear hr
        go_wp2_with (first
         | (go_at_call 105; (with_reducible refine (HCF.o _ (Below.refl _ _)).mono ?_); rintro e w1 ⟨rfl, hb1⟩; obtain ⟨V1, rfl⟩ := zW w1; have HB1 := zH hb1; have z0 := oL (ab hb1 HBNQ.o); obtain ⟨y0, _, _, _, _, _, _, _⟩ := gm (ab hb1 HBXQ.o); obtain ⟨_, _, _, u3⟩ := (HSQ.o.under hb1).row; have HT1 := zH (HSQ.o.under hb1).mt; have HN1 := zH (HN.o.under hb1); clear hb1)
         | (go_at_call 51; (with_reducible refine (dr HT1.o (ez _) HN1.o).mono ?_); rintro e w7 ⟨he, hk, _⟩; rw [cg, HR.o] at he; subst he; have HK7 := zH ((HKQ.o.trans (aC.of_below HB1.o)).trans hk); clear hk))
        go_ret; exact gF HNO.o HK7.o
      . have HR := zH hr; have HOK2 := zH (show cm sp l = l.all (pK names ((dY q0).getD [])) by rw [HOK1.o, hr]; rfl); clear hr; cases ho0 : dY q0 with
        | none =>
          have HO0 := zH ho0; have HNO := zH (show cm sp l = false by rw [HOK2.o]; exact eu HQ0.o (rM ho0)); clear ho0
          go_wp2_with (first
           | (go_at_call 105; (with_reducible refine (HCF.o _ (Below.refl _ _)).mono ?_); rintro e w1 ⟨rfl, hb1⟩; obtain ⟨V1, rfl⟩ := zW w1; have HB1 := zH hb1; have z0 := oL (ab hb1 HBNQ.o); obtain ⟨y0, _, _, _, _, _, _, _⟩ := gm (ab hb1 HBXQ.o); obtain ⟨_, _, _, u3⟩ := (HSQ.o.under hb1).row; have HT1 := zH (HSQ.o.under hb1).mt; have HN1 := zH (HN.o.under hb1); clear hb1)
           | (go_at_call 51; (with_reducible refine (dr HT1.o (ez _) HN1.o).mono ?_); rintro e w7 ⟨he, hk, hm⟩; rw [cg, HR.o] at he; subst he; obtain ⟨V7, rfl⟩ := zW w7; have HK7 := zH ((HKQ.o.trans (aC.of_below HB1.o)).trans hk); have HS7 := zH ((HSQ.o.under HB1.o).putT hk (l := sp.states ++ names) (by have := hm (by rw [cg]; exact HR.o); rwa [show (.agg #[] : Value) = eZ from rfl, lW] at this)); have HN7 := zH (HN1.o.kept HT1.o hk); have HB7 := zH ((HBQ.o.trans (HB1.o.mono HBQ.o.size)).trans (hk.below (B := w0.heap.size) (by simpa using ht1) (Nat.le_trans HBQ.o.size HB1.o.size))); obtain ⟨a', ea, _, _, d0, d1, d2⟩ := il (HEN0.o.under HB7.o); cases ea; simp only [Nat.zero_mul, add_zero] at d0 d1 d2; clear hk hm)
           | (go_at_call 146; (with_reducible refine (tt HST0.o HO0.o _ HB7.o).mono ?_); rintro e w8 ⟨rfl, hb8⟩; obtain ⟨V8, rfl⟩ := zW w8; have HB8 := zH (HB7.o.trans (hb8.mono HB7.o.size)); have HK8 := zH (HK7.o.trans (aC.of_below hb8)); clear hb8))
          go_loopg [53] l.length (λ g v wr => ∃ k : Nat, k + g = l.length /\ v = .int .i64 k /\ k = 0 /\ Below V8.heap.size V8 wr)
          case atStart => exact ⟨0, by omega, rfl, rfl, Below.refl _ _⟩
          case round =>
           obtain ⟨wz, rfl⟩ := zW wr; obtain ⟨k, hkg, rfl, hk0, hbw⟩ := hrel; have HQ := zH (show l[k]? = some q0 by rw [hk0]; exact HQ0.o); have hlt : k < l.length := zO; have HW8 := zH hbw; clear hkg hk0 hbw; obtain ⟨Nq, hENq, hstq⟩ := HE.o k q0 HQ.o; have HSTQ := zH hstq; obtain ⟨qs0, qA1, qn1, qk1, qA2, qn2, qk2, rfl⟩ := hstq.shape; have HBR := zH (HB8.o.trans (HW8.o.mono HB8.o.size)); obtain ⟨a', ea, _, _, g0, g1, g2⟩ := il (hENq.under HBR.o); cases ea; have hal := zH (zA wz (.cells #[.string qs0, .slice qA1 qn1 qk1, .slice qA2 qn2 qk2] 50)); have BZ := zH (heap_alloc_new wz (.cells #[.string qs0, .slice qA1 qn1 qk1, .slice qA2 qn2 qk2] 50)); have HBZ := zH (HBR.o.trans (hal.o.mono HBR.o.size)); clear hENq hstq
           go_wp2_with (go_at_call 146
                        (with_reducible refine (tt HSTQ.o HO0.o _ HBZ.o).mono ?_); rintro e w9 ⟨rfl, hb9⟩; have HK9 := zH (((HK8.o.trans (aC.of_below HW8.o)).trans (aC.of_below hal.o)).trans (aC.of_below hb9)); clear hb9)
           go_ret; exact gF HNO.o HK9.o
        | some m0 =>
          have HO0 := zH ho0; have HOK3 := zH (show cm sp l = l.all (pK names m0) by rw [HOK2.o, ho0]; rfl); have HM0 := zH (show m0.length <= maxLen by rw [r9 ho0]; exact rL HST0.o); clear ho0
          go_wp2_with (first
           | (go_at_call 105; (with_reducible refine (HCF.o _ (Below.refl _ _)).mono ?_); rintro e w1 ⟨rfl, hb1⟩; obtain ⟨V1, rfl⟩ := zW w1; have HB1 := zH hb1; have z0 := oL (ab hb1 HBNQ.o); obtain ⟨y0, _, _, _, _, _, _, _⟩ := gm (ab hb1 HBXQ.o); obtain ⟨_, _, _, u3⟩ := (HSQ.o.under hb1).row; have HT1 := zH (HSQ.o.under hb1).mt; have HN1 := zH (HN.o.under hb1); clear hb1)
           | (go_at_call 51; (with_reducible refine (dr HT1.o (ez _) HN1.o).mono ?_); rintro e w7 ⟨he, hk, hm⟩; rw [cg, HR.o] at he; subst he; obtain ⟨V7, rfl⟩ := zW w7; have HK7 := zH ((HKQ.o.trans (aC.of_below HB1.o)).trans hk); have HS7 := zH ((HSQ.o.under HB1.o).putT hk (l := sp.states ++ names) (by have := hm (by rw [cg]; exact HR.o); rwa [show (.agg #[] : Value) = eZ from rfl, lW] at this)); have HN7 := zH (HN1.o.kept HT1.o hk); have HB7 := zH ((HBQ.o.trans (HB1.o.mono HBQ.o.size)).trans (hk.below (B := w0.heap.size) (by simpa using ht1) (Nat.le_trans HBQ.o.size HB1.o.size))); obtain ⟨a', ea, _, _, d0, d1, d2⟩ := il (HEN0.o.under HB7.o); cases ea; simp only [Nat.zero_mul, add_zero] at d0 d1 d2; clear hk hm)
           | (go_at_call 146; (with_reducible refine (my HST0.o HO0.o _ HB7.o).mono ?_); rintro e w8 ⟨bm, rfl, hm0, _, hb8⟩; obtain ⟨V8, rfl⟩ := zW w8; have HM8 := zH hm0; have HB8 := zH (HB7.o.trans (hb8.mono HB7.o.size)); have HK8 := zH (HK7.o.trans (aC.of_below hb8)); have HS8 := zH (HS7.o.under hb8); have HN8 := zH (HN7.o.under hb8); clear hb8 hm0))
          go_loopg [53] l.length (λ g v wr => ∃ k : Nat, k + g = l.length /\ v = .int .i64 k /\ bY (pK names m0) l k /\ Below V8.heap.size V8 wr)
          case atStart => exact ⟨0, by omega, rfl, bY.zero, Below.refl _ _⟩
          case round =>
           obtain ⟨wz, rfl⟩ := zW wr; obtain ⟨k, hkg, rfl, hto, hbw⟩ := hrel; have HK := zH hkg; have HT := zH hto; have HW8 := zH hbw; have hkl : k <= l.length := zO; clear hkg hto hbw; by_cases hlt : k < l.length
           . obtain ⟨q, hq⟩ := zG hlt; have HQ := zH hq; clear hq; obtain ⟨Nq, hENq, hstq⟩ := HE.o k q HQ.o; have HSTQ := zH hstq; obtain ⟨qs0, qA1, qn1, qk1, qA2, qn2, qk2, rfl⟩ := hstq.shape; have HBR := zH (HB8.o.trans (HW8.o.mono HB8.o.size)); obtain ⟨a', ea, _, _, g0, g1, g2⟩ := il (hENq.under HBR.o); cases ea; have hal := zH (zA wz (.cells #[.string qs0, .slice qA1 qn1 qk1, .slice qA2 qn2 qk2] 50)); have BZ := zH (heap_alloc_new wz (.cells #[.string qs0, .slice qA1 qn1 qk1, .slice qA2 qn2 qk2] 50)); have HBZ := zH (HBR.o.trans (hal.o.mono HBR.o.size)); clear hENq hstq; cases ho : dY q with
             | none =>
               have HO := zH ho; have HNO := zH (show cm sp l = false by rw [HOK3.o]; exact eu HQ.o (rM ho)); clear ho
               go_wp2_with (go_at_call 146
                            (with_reducible refine (tt HSTQ.o HO.o _ HBZ.o).mono ?_); rintro e w9 ⟨rfl, hb9⟩; have HK9 := zH (((HK8.o.trans (aC.of_below HW8.o)).trans (aC.of_below hal.o)).trans (aC.of_below hb9)); clear hb9)
               go_ret; exact gF HNO.o HK9.o
             | some own =>
               have HO := zH ho; have HOW := zH (Bm (names := names) (fst := m0) ho); have HOL := zH (show own.length <= maxLen by rw [r9 ho]; exact rL HSTQ.o); clear ho; cases hs : fh own m0
               . have HSS := zH hs; have HNO := zH (show cm sp l = false by rw [HOK3.o]; exact eu HQ.o (by rw [HOW.o, hs]; rfl)); clear hs
                 go_wp2_with (first
                  | (go_at_call 146; (with_reducible refine (my HSTQ.o HO.o _ HBZ.o).mono ?_); rintro e w9 ⟨bq, rfl, hmq, _, hb9⟩; obtain ⟨V9, rfl⟩ := zW w9; have HMQ := zH hmq; have HM9 := zH (((HM8.o.under HW8.o).under hal.o).under hb9); have HK9 := zH (((HK8.o.trans (aC.of_below HW8.o)).trans (aC.of_below hal.o)).trans (aC.of_below hb9)); have HB9 := zH ((HW8.o.trans (hal.o.mono HW8.o.size)).trans (hb9.mono (Nat.le_trans HW8.o.size hal.o.size))); have BZ9 := zH (ab hb9 BZ.o); obtain ⟨_, _, _⟩ := eG BZ9.o; clear hb9 hmq)
                  | (go_at_call 147; (with_reducible refine (lI HMQ.o HM9.o HOL.o HM0.o).mono ?_); rintro e w10 ⟨he, hb10⟩; rw [HSS.o] at he; subst he; obtain ⟨V10, rfl⟩ := zW w10; have HK10 := zH (HK9.o.trans (aC.of_below hb10)); have HB10 := zH (HB9.o.trans (hb10.mono HB9.o.size)); obtain ⟨_, _, _⟩ := eG (ab hb10 BZ9.o); clear hb10))
                 go_ret; exact gF HNO.o HK10.o
               . have HSS := zH hs; have HOW2 := zH (show pK names m0 q = lL q names by rw [HOW.o, hs]; rfl); clear hs; cases hd : lL q names
                 . have HLD := zH hd; have HNO := zH (show cm sp l = false by rw [HOK3.o]; exact eu HQ.o (by rw [HOW2.o, hd])); clear hd
                   go_wp2_with (first
                    | (go_at_call 146; (with_reducible refine (my HSTQ.o HO.o _ HBZ.o).mono ?_); rintro e w9 ⟨bq, rfl, hmq, _, hb9⟩; obtain ⟨V9, rfl⟩ := zW w9; have HMQ := zH hmq; have HM9 := zH (((HM8.o.under HW8.o).under hal.o).under hb9); have HK9 := zH (((HK8.o.trans (aC.of_below HW8.o)).trans (aC.of_below hal.o)).trans (aC.of_below hb9)); have HB9 := zH ((HW8.o.trans (hal.o.mono HW8.o.size)).trans (hb9.mono (Nat.le_trans HW8.o.size hal.o.size))); have BZ9 := zH (ab hb9 BZ.o); obtain ⟨_, _, _⟩ := eG BZ9.o; clear hb9 hmq)
                    | (go_at_call 147; (with_reducible refine (lI HMQ.o HM9.o HOL.o HM0.o).mono ?_); rintro e w10 ⟨he, hb10⟩; rw [HSS.o] at he; subst he; obtain ⟨V10, rfl⟩ := zW w10; have HK10 := zH (HK9.o.trans (aC.of_below hb10)); have HB10 := zH (HB9.o.trans (hb10.mono HB9.o.size)); obtain ⟨_, _, _⟩ := eG (ab hb10 BZ9.o); clear hb10)
                    | (go_at_call 148; (with_reducible refine (ou HSTQ.o (HB8.o.trans (HB10.o.mono HB8.o.size)) (HN8.o.under HB10.o)).mono ?_); rintro e w11 ⟨he, hb11⟩; rw [HLD.o] at he; subst he; have HK11 := zH (HK10.o.trans (aC.of_below hb11)); have HB11 := zH (HB10.o.trans (hb11.mono HB10.o.size)); clear hb11))
                   go_ret; exact gF HNO.o HK11.o
                 . have HLD := zH hd; have HY := zH (show pK names m0 q = true by rw [HOW2.o, hd]); clear hd
                   go_wp2_with (first
                    | (go_at_call 146; (with_reducible refine (my HSTQ.o HO.o _ HBZ.o).mono ?_); rintro e w9 ⟨bq, rfl, hmq, _, hb9⟩; obtain ⟨V9, rfl⟩ := zW w9; have HMQ := zH hmq; have HM9 := zH (((HM8.o.under HW8.o).under hal.o).under hb9); have HK9 := zH (((HK8.o.trans (aC.of_below HW8.o)).trans (aC.of_below hal.o)).trans (aC.of_below hb9)); have HB9 := zH ((HW8.o.trans (hal.o.mono HW8.o.size)).trans (hb9.mono (Nat.le_trans HW8.o.size hal.o.size))); have BZ9 := zH (ab hb9 BZ.o); obtain ⟨_, _, _⟩ := eG BZ9.o; clear hb9 hmq)
                    | (go_at_call 147; (with_reducible refine (lI HMQ.o HM9.o HOL.o HM0.o).mono ?_); rintro e w10 ⟨he, hb10⟩; rw [HSS.o] at he; subst he; obtain ⟨V10, rfl⟩ := zW w10; have HK10 := zH (HK9.o.trans (aC.of_below hb10)); have HB10 := zH (HB9.o.trans (hb10.mono HB9.o.size)); obtain ⟨_, _, _⟩ := eG (ab hb10 BZ9.o); clear hb10)
                    | (go_at_call 148; (with_reducible refine (ou HSTQ.o (HB8.o.trans (HB10.o.mono HB8.o.size)) (HN8.o.under HB10.o)).mono ?_); rintro e w11 ⟨he, hb11⟩; rw [HLD.o] at he; subst he; have HK11 := zH (HK10.o.trans (aC.of_below hb11)); have HB11 := zH (HB10.o.trans (hb11.mono HB10.o.size)); clear hb11))
                   go_roundg (l.length - (k + 1))
                   case measure => have := HK.o; omega
                   case rel => exact ⟨k + 1, by omega, by go_num, HT.o.succ HQ.o HY.o, HB11.o⟩
           . have hke : k = l.length := by omega
             have HY := zH (show cm sp l = true by rw [HOK3.o]; exact HT.o.all hke); clear hke; go_wp2_with fail
             go_ret; exact ⟨au HY.o.symm, HK8.o.trans (aC.of_below HW8.o), λ _ => by rw [HNN.o]; exact HS8.o.under HW8.o⟩
    . rw [hc] at HCF; have HCF := zH HCF; have HNO := zH (show cm sp l = false by rw [HOK.o, hc]; rfl); clear hc
      go_wp2_with (go_at_call 105
                   (with_reducible refine (HCF.o _ (Below.refl _ _)).mono ?_); rintro e w1 ⟨rfl, hb1⟩; have HB1 := zH hb1; clear hb1)
      go_ret; exact gF HNO.o (HKQ.o.trans (aC.of_below HB1.o))
end
def xj (P e1 c1 n1 t1 v1 : Nat) (s : bc) (lv : List (Tx × Value)) (b : Int) (i : a8) (w : World) (e : Ending) (w' : World) : Prop :=
 e = .returned (.bool (dD s (aG lv) i)) /\ aC [t1, v1] w w' /\ (dD s (aG lv) i = true -> bb w' P e1 c1 n1 t1 (s.addItem i) /\ aP w' v1 (lv ++ bu (.int .i64 b) (bH i)))
theorem AB {P e1 c1 n1 t1 v1 : Nat} {s : bc} {lv : List (Tx × Value)} {b : Int} {i : a8} {w w' : World} (h : dD s (aG lv) i = false) (hk : aC [t1, v1] w w') : xj P e1 c1 n1 t1 v1 s lv b i w (.returned (.bool false)) w' :=
 ⟨au h.symm, hk, λ h' => by rw [h] at h'; cases h'⟩
section
variable {S P e1 c1 n1 t1 f1 v1 : Nat} {x1 x2 x3 x4 x5 x6 : Value} {sp : bc}
theorem xh {w0 : World} {L : List Value} {i : a8} (hL : bf w0 L i) (hlen : (bH i).length <= 2097152) (hst : i.states.length <= 2097152)
  {w : World} (hb : Below w0.heap.size w0 w) (hS : bb w P e1 c1 n1 t1 sp) (ht1 : w0.heap.size <= t1) (hv1 : w0.heap.size <= v1) (hnv : v1 ≠ e1 /\ v1 ≠ c1 /\ v1 ≠ n1 /\ v1 ≠ t1)
  (hbox : w.heap[S]? = some (.cells #[.pointer (some ⟨P, 0, none⟩), x1, x2, x3, x4, x5, x6, .map (some v1)] 124 (0, 0)))
  {lv : List (Tx × Value)} (hm : aP w v1 lv) (hsh : ∀ p ∈ lv, ShI p.2) (b : Int) :
  Calls prog 53 #[.pointer (some ⟨S, 0, none⟩), .int .i64 b, .agg L.toArray] w (xj P e1 c1 n1 t1 v1 sp lv b i w) := by
 have HDEF := zH (wF hL hlen); have HS := zH hS; have HB := zH hb; have HBOX := zH hbox; have HM := zH hm; have HSH := zH hsh; have hsz := hb.size; have hSl := ak hbox; have HOK := zH (show dD sp (aG lv) i = (bg (aG lv) (bH i) && (if i.states = [] then i.eq.names.length == 1 || (i.eq.e.op == 14 || i.eq.e.op == 15) else cm sp i.states)) from rfl); have HAI := zH (show sp.addItem i = { sp with states := sp.states ++ i.states.map aM.name } from rfl); obtain ⟨⟨nm, ex⟩, sts⟩ := i; obtain ⟨L', sv, rfl, ⟨nv, Le, rfl, hnv', hxe⟩, hstv⟩ := hL; replace hnv' : aH w0 nv nm := hnv'; replace hxe : a7 w0 Le ex := hxe; replace hstv : aw w0 (bt w0) sv sts := hstv; simp only at HOK HAI hst; generalize hdq : bH ⟨⟨nm, ex⟩, sts⟩ = dq at *; have HDQ := zH hdq; clear hdq; obtain ⟨nA, nk, rfl, _, hnm, _⟩ := hnv'; have hnl : nm.length <= 9223372036854775807 := (by unfold maxLen at hnm; omega); obtain ⟨op, xnm, xn, xcs, xks⟩ := ex; obtain ⟨cv, kv, rfl, _, _, _, hcs, hks⟩ := hxe.open_; obtain ⟨cA, cn, ck, rfl⟩ := aw.shape hcs; obtain ⟨kA, kn, kk, rfl⟩ := aw.shape hks; obtain ⟨sA, sc, rfl, hsc, hsm, hes⟩ := hstv; have HST := zH (show aw w0 (bt w0) (.slice sA sts.length sc) sts from ⟨sA, sc, rfl, hsc, hsm, hes⟩); have hsl : sts.length <= 9223372036854775807 := zO; simp only [List.cons_append, List.nil_append] at HDEF ⊢; simp only [Ex.op] at HOK; clear hb hS hbox hm hsh hcs hks hsc hsm hes hlen hnm hxe; go_enter func53, ntmps53
 go_wp2_with fail
 have BX := zH (heap_alloc_new w (.cells #[.slice nA nm.length nk, .int .i64 op, .string (str xnm), .int .i64 xn, .slice cA cn ck, .slice kA kn kk, .slice sA sts.length sc] 44)); have HV := zH (zA w (.cells #[.slice nA nm.length nk, .int .i64 op, .string (str xnm), .int .i64 xn, .slice cA cn ck, .slice kA kn kk, .slice sA sts.length sc] 44)); generalize w.alloc (.cells #[.slice nA nm.length nk, .int .i64 op, .string (str xnm), .int .i64 xn, .slice cA cn ck, .slice kA kn kk, .slice sA sts.length sc] 44) = V at *; have HBV := zH (HB.o.trans (HV.o.mono hsz)); have HBXV := zH (ab HV.o HBOX.o); have HMV := zH (HM.o.under HV.o); obtain ⟨_, _, _, _, _, _, _, y7⟩ := gm HBXV.o; obtain ⟨z0, z1, z2, z3, z4, z5, z6⟩ := iO BX.o; cases hr : bg (aG lv) dq
 . have HR := zH hr; have HNO := zH (show dD sp (aG lv) ⟨⟨nm, .mk op xnm xn xcs xks⟩, sts⟩ = false by rw [HOK.o, hr]; rfl); clear hr; refine wp_region_held_drew (S := (λ W => W.cell? ⟨S, 7, none⟩ = some (.map (some v1)) /\ W.cell? ⟨w.heap.size, 0, none⟩ = some (.slice nA nm.length nk) /\ W.cell? ⟨w.heap.size, 1, none⟩ = some (.int .i64 op) /\ W.cell? ⟨w.heap.size, 2, none⟩ = some (.string (str xnm)) /\ W.cell? ⟨w.heap.size, 3, none⟩ = some (.int .i64 xn) /\ W.cell? ⟨w.heap.size, 4, none⟩ = some (.slice cA cn ck) /\ W.cell? ⟨w.heap.size, 5, none⟩ = some (.slice kA kn kk) /\ W.cell? ⟨w.heap.size, 6, none⟩ = some (.slice sA sts.length sc))) zK ?_ (λ hHeld => ?_)
   . (try dsimp only); go_keep
   refine aa 0 ?_; refine aa 1 ?_; refine aa 2 ?_; refine aa 3 ?_; refine aa 4 ?_; refine aa 5 ?_; refine ay 6 zK rfl (λ K hK => ?_); go_simp
   (go_at_call 107
    (with_reducible refine (HDEF.o _ HBV.o.drew).mono ?_); rintro e w7 ⟨v7, rfl, hs7, hb7⟩; obtain ⟨V7, rfl⟩ := zW w7; have G7 := zH ((zB V).drew.trans hb7); have HS7 := zH hs7; have HM7 := zH (HMV.o.under G7.o); have HBX7 := zH (ab G7.o HBXV.o); have BX7 := zH (ab G7.o BX.o); obtain ⟨_, _, _, _, _, _, _, y7⟩ := gm HBX7.o; obtain ⟨z0, z1, z2, z3, z4, z5, z6⟩ := iO BX7.o; clear hs7 hb7)
   refine hK.out _ _ ?_ (λ hHeld => ?_)
   . (try dsimp only); go_keep
   clear hK K; try simp only [Act.put, aK, aI, aJ]
   refine ay 7 zK rfl (λ K hK => ?_); go_simp
   (go_at_call 106
    (with_reducible refine (jS HM7.o HSH.o HS7.o).mono ?_); rintro e w8 ⟨he, hk, hm⟩; rw [HR.o] at he; subst he; obtain ⟨V8, rfl⟩ := zW w8; have HK8 := zH (((aC.of_below HV.o).trans (aC.of_below G7.o)).trans (hk.mono (M' := [t1, v1]) (by simp))); have HB8 := zH ((HBV.o.trans (G7.o.mono HBV.o.size)).trans (hk.below (B := w0.heap.size) (by simpa using hv1) (Nat.le_trans HBV.o.size G7.o.size))); have HKK := zH hk; have HMM := zH hm; have HBX8 := zH (fp HM7.o hk HBX7.o); have BX8 := zH (fp HM7.o hk BX7.o); obtain ⟨_, _, _, _, _, _, _, y7⟩ := gm HBX8.o; obtain ⟨z0, z1, z2, z3, z4, z5, z6⟩ := iO BX8.o; clear hk hm)
   refine hK.out _ _ ?_ (λ hHeld => ?_)
   . (try dsimp only); go_keep
   clear hK K; try simp only [Act.put, aK, aI, aJ]
   refine aa 8 ?_; refine wpAnyH_done zK ?_ _; go_wp2_with fail
   go_ret; exact AB HNO.o HK8.o
 . have HR := zH hr; rw [hr, Bool.true_and] at HOK; clear hr; refine wp_region_held_drew (S := (λ W => W.cell? ⟨S, 7, none⟩ = some (.map (some v1)) /\ W.cell? ⟨w.heap.size, 0, none⟩ = some (.slice nA nm.length nk) /\ W.cell? ⟨w.heap.size, 1, none⟩ = some (.int .i64 op) /\ W.cell? ⟨w.heap.size, 2, none⟩ = some (.string (str xnm)) /\ W.cell? ⟨w.heap.size, 3, none⟩ = some (.int .i64 xn) /\ W.cell? ⟨w.heap.size, 4, none⟩ = some (.slice cA cn ck) /\ W.cell? ⟨w.heap.size, 5, none⟩ = some (.slice kA kn kk) /\ W.cell? ⟨w.heap.size, 6, none⟩ = some (.slice sA sts.length sc))) zK ?_ (λ hHeld => ?_)
   . (try dsimp only); go_keep
   refine aa 0 ?_; refine aa 1 ?_; refine aa 2 ?_; refine aa 3 ?_; refine aa 4 ?_; refine aa 5 ?_; refine ay 6 zK rfl (λ K hK => ?_); go_simp
   (go_at_call 107
    (with_reducible refine (HDEF.o _ HBV.o.drew).mono ?_); rintro e w7 ⟨v7, rfl, hs7, hb7⟩; obtain ⟨V7, rfl⟩ := zW w7; have G7 := zH ((zB V).drew.trans hb7); have HS7 := zH hs7; have HM7 := zH (HMV.o.under G7.o); have HBX7 := zH (ab G7.o HBXV.o); have BX7 := zH (ab G7.o BX.o); obtain ⟨_, _, _, _, _, _, _, y7⟩ := gm HBX7.o; obtain ⟨z0, z1, z2, z3, z4, z5, z6⟩ := iO BX7.o; clear hs7 hb7)
   refine hK.out _ _ ?_ (λ hHeld => ?_)
   . (try dsimp only); go_keep
   clear hK K; try simp only [Act.put, aK, aI, aJ]
   refine ay 7 zK rfl (λ K hK => ?_); go_simp
   (go_at_call 106
    (with_reducible refine (jS HM7.o HSH.o HS7.o).mono ?_); rintro e w8 ⟨he, hk, hm⟩; rw [HR.o] at he; subst he; obtain ⟨V8, rfl⟩ := zW w8; have HK8 := zH (((aC.of_below HV.o).trans (aC.of_below G7.o)).trans (hk.mono (M' := [t1, v1]) (by simp))); have HB8 := zH ((HBV.o.trans (G7.o.mono HBV.o.size)).trans (hk.below (B := w0.heap.size) (by simpa using hv1) (Nat.le_trans HBV.o.size G7.o.size))); have HKK := zH hk; have HMM := zH hm; have HBX8 := zH (fp HM7.o hk HBX7.o); have BX8 := zH (fp HM7.o hk BX7.o); obtain ⟨_, _, _, _, _, _, _, y7⟩ := gm HBX8.o; obtain ⟨z0, z1, z2, z3, z4, z5, z6⟩ := iO BX8.o; clear hk hm)
   refine hK.out _ _ ?_ (λ hHeld => ?_)
   . (try dsimp only); go_keep
   clear hK K; try simp only [Act.put, aK, aI, aJ]
   refine aa 8 ?_; refine wpAnyH_done zK ?_ _; have HS8 := zH (((HS.o.under HV.o).under G7.o).other HM7.o HKK.o hnv); have HM8 := zH (HMM.o HR.o); by_cases hs0 : sts = []
   . have HQ := zH (show dD sp (aG lv) ⟨⟨nm, .mk op xnm xn xcs xks⟩, sts⟩ = (nm.length == 1 || (op == 14 || op == 15)) by rw [HOK.o, if_pos hs0])
     have HEND := zH (show bb V8 P e1 c1 n1 t1 (sp.addItem ⟨⟨nm, .mk op xnm xn xcs xks⟩, sts⟩) by
      rw [HAI.o, hs0, List.map_nil, List.append_nil]; exact HS8.o)
     have hd0 : ¬ (0 < (sts.length : Int)) := (by rw [hs0]; simp); clear hs0; by_cases h1 : nm.length = 1
     . have hd : ((nm.length : Int) == 1) = true := by simp [h1]
       have HF := zH (show dD sp (aG lv) ⟨⟨nm, .mk op xnm xn xcs xks⟩, sts⟩ = true by rw [HQ.o]; simp [h1]); clear h1; go_wp2_with fail
       go_ret; exact ⟨au HF.o.symm, HK8.o, λ _ => ⟨HEND.o, by rw [HDQ.o]; exact HM8.o⟩⟩
     . have hd : ((nm.length : Int) == 1) = false := by simp; omega
       have HQ1 := zH (show dD sp (aG lv) ⟨⟨nm, .mk op xnm xn xcs xks⟩, sts⟩ = (op == 14 || op == 15) by rw [HQ.o]; simp [h1]); clear h1; by_cases h14 : op = 14
       . have hd2 : (op == 14) = true := by simp [h14]
         have HF := zH (show dD sp (aG lv) ⟨⟨nm, .mk op xnm xn xcs xks⟩, sts⟩ = true by rw [HQ1.o, hd2]; rfl); clear h14; go_wp2_with fail
         go_ret; exact ⟨au HF.o.symm, HK8.o, λ _ => ⟨HEND.o, by rw [HDQ.o]; exact HM8.o⟩⟩
       . have hd2 : (op == 14) = false := by simp [h14]
         have HQ2 := zH (show dD sp (aG lv) ⟨⟨nm, .mk op xnm xn xcs xks⟩, sts⟩ = (op == 15) by rw [HQ1.o, hd2]; rfl); clear h14; by_cases h15 : op = 15
         . have hd3 : (op == 15) = true := by simp [h15]
           have HF := zH (show dD sp (aG lv) ⟨⟨nm, .mk op xnm xn xcs xks⟩, sts⟩ = true by rw [HQ2.o, hd3]); clear h15; go_wp2_with fail
           go_ret; exact ⟨au HF.o.symm, HK8.o, λ _ => ⟨HEND.o, by rw [HDQ.o]; exact HM8.o⟩⟩
         . have hd3 : (op == 15) = false := by simp [h15]
           have HF := zH (show dD sp (aG lv) ⟨⟨nm, .mk op xnm xn xcs xks⟩, sts⟩ = false by rw [HQ2.o, hd3]); clear h15; go_wp2_with fail
           go_ret; exact AB HF.o HK8.o
   . have HQ := zH (show dD sp (aG lv) ⟨⟨nm, .mk op xnm xn xcs xks⟩, sts⟩ = cm sp sts by rw [HOK.o, if_neg hs0]); have HNE := zH hs0; have hd0 : 0 < (sts.length : Int) := (by have := List.length_pos_iff.2 hs0; omega); have hd1 : 0 < sts.length := zO; clear hs0
     go_wp2_with (go_at_call 108
                  (with_reducible refine (rx HST.o HNE.o hst HB8.o HS8.o ht1 HBX8.o).mono ?_); rintro e w9 ⟨rfl, hk9, hs9⟩; have HK9 := zH (HK8.o.trans (hk9.mono (M' := [t1, v1]) (by simp))); have HM9 := zH (HM8.o.keptM hk9 (by simpa using hnv.2.2.2)); have HS9 := zH hs9; clear hk9 hs9)
     go_ret; refine ⟨au HQ.o.symm, HK9.o, λ h => ⟨?_, by rw [HDQ.o]; exact HM9.o⟩⟩; rw [HAI.o]; exact HS9.o (HQ.o.symm.trans h)
end
end Go.Proofs.YtkfacdofkfabnaaGreatDoor
