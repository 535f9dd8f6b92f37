/-
  addStates: the states of an automaton.
-/
import Derived.Test.YtbpbnebcbjacdaaGreatScopeIs
import Derived.Test.YtbpbnebcbjacdaaGreatScopeMEq
namespace Go.Proofs.YtbpbnebcbjacdaaGreat
open Go.RowKit
open Go.ChangeMaps Go.MapKept
open Go.Maps

/-- a state beside the first one -/
def stOk (names fst : List Tx) (q : QState) : Bool := match onceQ q with
  | none => false
  | some own => sameSet own fst && leadsQ q names
theorem stOk_none {names fst : List Tx} {q : QState} (h : onceQ q = none) : stOk names fst q = false := by rw [stOk, h]
theorem stOk_some {names fst own : List Tx} {q : QState} (h : onceQ q = some own) : stOk names fst q = (sameSet own fst && leadsQ q names) := by rw [stOk, h]
theorem statesOk_eq (s : SProg) (l : List QState) : statesOk s l = (!((l.map QState.name).any s.conKeys.contains) && (recOk s.states (l.map QState.name) && l.all (stOk (l.map QState.name) ((l.head?.bind onceQ).getD [])))) := rfl
theorem onceF_len (l : List QEq) : ∀ m r, onceF m l = some r → r.length = m.length + l.length := by
  induction l with
  | nil => intro m r h; cases h; simp
  | cons q l ih =>
    intro m r h
    rw [onceF_cons] at h
    split at h
    · rename_i hc
      have := ih _ _ h
      rw [List.length_append, hc.1] at this
      simp only [List.length_cons]; omega
    · cases h
theorem onceQ_len {q : QState} {r : List Tx} (h : onceQ q = some r) : r.length = q.eqs.length := by
  have := onceF_len _ _ _ h
  simpa using this
theorem state_len {w : World} {L : List Value} {q : QState} (h : StateAt w L q) : q.eqs.length ≤ maxLen := by
  obtain ⟨ev, wv, rfl, _, ⟨E, ce, rfl, hec, hem, _⟩, _⟩ := h
  exact Nat.le_trans hec hem
theorem once_no {w0 : World} {L : List Value} {q : QState} (hL : StateAt w0 L q) (hq : onceQ q = none) : ∀ w, Below w0.heap.size w0 w → Calls Tryz.prog 98 #[.agg L.toArray] w (fun e w' => e = .returned (.tuple #[.map none, .bool false]) ∧ Below w.heap.size w w') :=
  fun w hb => (once_any hL w hb).mono fun e w' ⟨h1, h2⟩ => ⟨by rw [hq] at h1; exact h1, h2⟩
theorem once_yes {w0 : World} {L : List Value} {q : QState} (hL : StateAt w0 L q) {l : List Tx} (hq : onceQ q = some l) : ∀ w, Below w0.heap.size w0 w → Calls Tryz.prog 98 #[.agg L.toArray] w (fun e w' => ∃ b, e = .returned (.tuple #[.map (some b), .bool true]) ∧ MapAt w' b (withV unitV l) ∧ w.heap.size ≤ b ∧ Below w.heap.size w w') :=
  fun w hb => (once_any hL w hb).mono fun e w' ⟨h1, h2⟩ => by
    rw [hq] at h1
    obtain ⟨b, h3, h4, h5⟩ := h1
    exact ⟨b, h3, h4, h5, h2⟩
/-- what addStates leaves -/
def StatesPost (P e1 c1 n1 t1 : Nat) (s : SProg) (l : List QState) (w : World) (e : Ending) (w' : World) : Prop :=
  e = .returned (.bool (statesOk s l)) ∧ KeptM [t1] w w' ∧ (statesOk s l = true → ScopeAt w' P e1 c1 n1 t1 { s with states := s.states ++ l.map QState.name })
theorem states_no {P e1 c1 n1 t1 : Nat} {s : SProg} {l : List QState} {w w' : World} (h : statesOk s l = false) (hk : KeptM [t1] w w') : StatesPost P e1 c1 n1 t1 s l w (.returned (.bool false)) w' :=
  ⟨ret_bool h.symm, hk, fun h' => by rw [h] at h'; cases h'⟩
section
variable {S P e1 c1 n1 t1 : Nat} {x1 x2 x3 x4 x5 x6 x7 : Value} {sp : SProg}
set_option maxHeartbeats 8000000 in
set_option maxRecDepth 100000 in
theorem addStates_any {w0 : World} {l : List QState} {A : Option Addr} {c : Nat} (hl : SliceAt w0 (StateAt w0) (.slice A l.length c) l) (hne : l ≠ []) (hlen : l.length ≤ 2097152)
    {w : World} (hb : Below w0.heap.size w0 w) (hS : ScopeAt w P e1 c1 n1 t1 sp) (ht1 : w0.heap.size ≤ t1)
    (hbox : w.heap[S]? = some (.cells #[.pointer (some ⟨P, 0, none⟩), x1, x2, x3, x4, x5, x6, x7] 92 (0, 0))) :
    Calls Tryz.prog 77 #[.pointer (some ⟨S, 0, none⟩), .slice A l.length c] w (StatesPost P e1 c1 n1 t1 sp l w) := by
  have hmf : ∀ (fn : Fn) (first cap : Array Value) (w : World), (Instr.makeFunc fn first cap).run Tryz.prog w = .ok (.func fn first cap) w := fun _ _ _ _ => rfl
  obtain ⟨q0, hq0⟩ : ∃ q, l[0]? = some q := by
    cases l with
    | nil => exact absurd rfl hne
    | cons a b => exact ⟨a, rfl⟩
  have hpos : 0 < l.length := List.length_pos_iff.2 hne
  have HD := Lib.hid (show (l.head?.bind onceQ).getD [] = (onceQ q0).getD [] by
    cases l with
    | nil => cases hq0
    | cons a b => cases hq0; rfl)
  have HQ0 := Lib.hid hq0
  have HS := Lib.hid hS
  have HB := Lib.hid hb
  have HBOX := Lib.hid hbox
  have hsz := hb.size
  obtain ⟨A', c', ee, hlc, hlm, he⟩ := hl
  injection ee with e1' e2' e3'
  subst e1' e3'
  clear e2'
  have HE := Lib.hid he
  have hll : l.length ≤ 9223372036854775807 := by omega
  have HLEN := Lib.hid hlen
  have HOK := Lib.hid (statesOk_eq sp l)
  clear he hlc hlm hb hS hq0 hne
  go_enter Tryz.func77, Tryz.ntmps77
  go_wp2_with fail
  have BN := Lib.hid (heap_alloc_new w (.cells #[.pointer (some ⟨S, 0, none⟩)] 89))
  have HV := Lib.hid ((Below.refl w.heap.size w).alloc (Nat.le_refl _) (.cells #[.pointer (some ⟨S, 0, none⟩)] 89))
  generalize w.alloc (.cells #[.pointer (some ⟨S, 0, none⟩)] 89) = V at *
  have HBV := Lib.hid (HB.out.trans (HV.out.mono hsz))
  have hszV := HBV.out.size
  go_loopg [5, 17] l.length (fun g v i wr => ∃ k : Nat, k + g = l.length ∧ i = .int .i64 k ∧ OwnS V.heap.size wr v ((l.take k).map QState.name) ∧ Below V.heap.size V wr)
  case atStart => exact ⟨0, by omega, rfl, by simpa using OwnS.nil _ _, Below.refl _ _⟩
  case round =>
    obtain ⟨wq, rfl⟩ : ∃ W, W = wr := ⟨_, rfl⟩
    obtain ⟨k, hkg, rfl, ho, hbw⟩ := hrel
    have HK := Lib.hid hkg
    have HW := Lib.hid hbw
    have HO := Lib.hid ho
    have hszw := hbw.size
    have HBQ := Lib.hid (HBV.out.trans (hbw.mono hszV))
    have hkl : k ≤ l.length := by omega
    clear hkg hbw ho
    by_cases hlt : k < l.length
    · obtain ⟨q, hq⟩ : ∃ q, l[k]? = some q := ⟨_, List.getElem?_eq_getElem hlt⟩
      have HT := Lib.hid (show (l.take (k + 1)).map QState.name = (l.take k).map QState.name ++ [q.name] by rw [take_snoc hq]; simp)
      have hlen1 : ((l.take k).map QState.name).length ≤ 2097152 := by have := HLEN.out; simp; omega
      obtain ⟨N3, hEN3, ev, wv, rfl, hnl, hev, hwv⟩ := HE.out k q hq
      obtain ⟨E1, E2, E3, rfl⟩ := SliceAt.shape hev
      obtain ⟨W1, W2, W3, rfl⟩ := SliceAt.shape hwv
      obtain ⟨a, rfl, ha, haa, d0, d1, d2⟩ := elem3 (hEN3.under HBQ.out)
      have HNL := Lib.hid hnl
      clear hEN3 hev hwv hq hnl
      go_wp2_with (at_builtin; refine append_str rfl _ _ rfl rfl rfl (alloc_at (by simp)) ((HO.out.alloc _).alloc _) HNL.out hlen1 ?_ ?_; (first | omega | (simp; omega)); (intro v5 w5 h5; obtain ⟨ho5, hb5, _⟩ := h5; have HO5 := Lib.hid ho5; have HB5 := Lib.hid (((HW.out.alloc (by omega) _).alloc (by simp; omega) _).trans hb5); clear ho5 hb5))
      go_roundg (l.length - (k + 1))
      case measure => have := HK.out; omega
      case rel => exact ⟨k + 1, by omega, by go_num, by rw [HT.out]; exact HO5.out, HB5.out⟩
    · have hke : k = l.length := by omega
      have HN := Lib.hid (show StrsAt wq _ (l.map QState.name) by have := HO.out.strs; rwa [hke, List.take_length] at this)
      obtain ⟨A9, n9, c9, rfl, hn9⟩ := HO.out.shape
      clear hke HO hn9
      have HSQ := Lib.hid ((HS.out.under HV.out).under HW.out)
      have HBXQ := Lib.hid (box_next HW.out (box_next HV.out HBOX.out))
      have HBNQ := Lib.hid (box_next HW.out BN.out)
      have HKQ := Lib.hid ((KeptM.of_below (M := [t1]) HV.out).trans (KeptM.of_below HW.out))
      generalize hnn : l.map QState.name = names at *
      have HNN := Lib.hid hnn
      clear hnn
      have HCF := containsFS_any HN.out enter97 (f := sp.conKeys.contains) (cap := #[.pointer (some ⟨w.heap.size, 0, none⟩)]) (fun x _ hx => isConC_any HSQ.out HBXQ.out HBNQ.out hx)
      cases hc : names.any sp.conKeys.contains
      · rw [hc] at HCF
        have HCF := Lib.hid HCF
        have HOK1 := Lib.hid (show statesOk sp l = (recOk sp.states names && l.all (stOk names ((onceQ q0).getD []))) by rw [HOK.out, hc, HD.out]; rfl)
        clear hc
        obtain ⟨N0, hEN0, hst0⟩ := HE.out 0 q0 HQ0.out
        have HST0 := Lib.hid hst0
        obtain ⟨s0, fA1, fn1, fk1, fA2, fn2, fk2, rfl⟩ := hst0.shape
        obtain ⟨a0, rfl, _, _, _, _, _⟩ := elem3 (hEN0.under HBQ.out)
        have HEN0 := Lib.hid hEN0
        clear hEN0 hst0
        cases hr : recOk sp.states names
        · have HR := Lib.hid hr
          have HNO := Lib.hid (show statesOk sp l = false by rw [HOK1.out, hr]; rfl)
          clear hr
          go_wp2_with (first
            | (go_at_call 75
               (with_reducible refine (HCF.out _ (Below.refl _ _)).mono ?_)
               rintro e w1 ⟨rfl, hb1⟩
               obtain ⟨V1, rfl⟩ : ∃ W, W = w1 := ⟨_, rfl⟩
               have HB1 := Lib.hid hb1
               have z0 := row1 (box_next hb1 HBNQ.out)
               obtain ⟨y0, _, _, _, _, _, _, _⟩ := row8 (box_next hb1 HBXQ.out)
               obtain ⟨_, _, _, u3⟩ := (HSQ.out.under hb1).row
               have HT1 := Lib.hid (HSQ.out.under hb1).mt
               have HN1 := Lib.hid (HN.out.under hb1)
               clear hb1)
            | (go_at_call 43
               (with_reducible refine (recordS_any HT1.out (sh_unit _) HN1.out).mono ?_)
               rintro e w7 ⟨he, hk, _⟩
               rw [keys_unit, HR.out] at he
               subst he
               have HK7 := Lib.hid ((HKQ.out.trans (KeptM.of_below HB1.out)).trans hk)
               clear hk))
          go_ret
          exact states_no HNO.out HK7.out
        · have HR := Lib.hid hr
          have HOK2 := Lib.hid (show statesOk sp l = l.all (stOk names ((onceQ q0).getD [])) by rw [HOK1.out, hr]; rfl)
          clear hr
          cases ho0 : onceQ q0 with
          | none =>
            have HO0 := Lib.hid ho0
            have HNO := Lib.hid (show statesOk sp l = false by rw [HOK2.out]; exact all_no HQ0.out (stOk_none ho0))
            clear ho0
            go_wp2_with (first
              | (go_at_call 75
                 (with_reducible refine (HCF.out _ (Below.refl _ _)).mono ?_)
                 rintro e w1 ⟨rfl, hb1⟩
                 obtain ⟨V1, rfl⟩ : ∃ W, W = w1 := ⟨_, rfl⟩
                 have HB1 := Lib.hid hb1
                 have z0 := row1 (box_next hb1 HBNQ.out)
                 obtain ⟨y0, _, _, _, _, _, _, _⟩ := row8 (box_next hb1 HBXQ.out)
                 obtain ⟨_, _, _, u3⟩ := (HSQ.out.under hb1).row
                 have HT1 := Lib.hid (HSQ.out.under hb1).mt
                 have HN1 := Lib.hid (HN.out.under hb1)
                 clear hb1)
              | (go_at_call 43
                 (with_reducible refine (recordS_any HT1.out (sh_unit _) HN1.out).mono ?_)
                 rintro e w7 ⟨he, hk, hm⟩
                 rw [keys_unit, HR.out] at he
                 subst he
                 obtain ⟨V7, rfl⟩ : ∃ W, W = w7 := ⟨_, rfl⟩
                 have HK7 := Lib.hid ((HKQ.out.trans (KeptM.of_below HB1.out)).trans hk)
                 have HS7 := Lib.hid ((HSQ.out.under HB1.out).putT hk (l := sp.states ++ names) (by have := hm (by rw [keys_unit]; exact HR.out); rwa [show (.agg #[] : Value) = unitV from rfl, with_app] at this))
                 have HN7 := Lib.hid (HN1.out.kept HT1.out hk)
                 have HB7 := Lib.hid ((HBQ.out.trans (HB1.out.mono HBQ.out.size)).trans (hk.below (B := w0.heap.size) (by simpa using ht1) (Nat.le_trans HBQ.out.size HB1.out.size)))
                 obtain ⟨a', ea, _, _, d0, d1, d2⟩ := elem3 (HEN0.out.under HB7.out)
                 cases ea
                 simp only [Nat.zero_mul, add_zero] at d0 d1 d2
                 clear hk hm)
              | (go_at_call 98
                 (with_reducible refine (once_no HST0.out HO0.out _ HB7.out).mono ?_)
                 rintro e w8 ⟨rfl, hb8⟩
                 obtain ⟨V8, rfl⟩ : ∃ W, W = w8 := ⟨_, rfl⟩
                 have HB8 := Lib.hid (HB7.out.trans (hb8.mono HB7.out.size))
                 have HK8 := Lib.hid (HK7.out.trans (KeptM.of_below hb8))
                 clear hb8))
            go_loopg [53] l.length (fun g v wr => ∃ k : Nat, k + g = l.length ∧ v = .int .i64 k ∧ k = 0 ∧ Below V8.heap.size V8 wr)
            case atStart => exact ⟨0, by omega, rfl, rfl, Below.refl _ _⟩
            case round =>
              obtain ⟨wz, rfl⟩ : ∃ W, W = wr := ⟨_, rfl⟩
              obtain ⟨k, hkg, rfl, hk0, hbw⟩ := hrel
              have HQ := Lib.hid (show l[k]? = some q0 by rw [hk0]; exact HQ0.out)
              have hlt : k < l.length := by omega
              have HW8 := Lib.hid hbw
              clear hkg hk0 hbw
              obtain ⟨Nq, hENq, hstq⟩ := HE.out k q0 HQ.out
              have HSTQ := Lib.hid hstq
              obtain ⟨qs0, qA1, qn1, qk1, qA2, qn2, qk2, rfl⟩ := hstq.shape
              have HBR := Lib.hid (HB8.out.trans (HW8.out.mono HB8.out.size))
              obtain ⟨a', ea, _, _, g0, g1, g2⟩ := elem3 (hENq.under HBR.out)
              cases ea
              have hal := Lib.hid ((Below.refl wz.heap.size wz).alloc (Nat.le_refl _) (.cells #[.string qs0, .slice qA1 qn1 qk1, .slice qA2 qn2 qk2] 71))
              have BZ := Lib.hid (heap_alloc_new wz (.cells #[.string qs0, .slice qA1 qn1 qk1, .slice qA2 qn2 qk2] 71))
              have HBZ := Lib.hid (HBR.out.trans (hal.out.mono HBR.out.size))
              clear hENq hstq
              go_wp2_with (go_at_call 98
                           (with_reducible refine (once_no HSTQ.out HO0.out _ HBZ.out).mono ?_)
                           rintro e w9 ⟨rfl, hb9⟩
                           have HK9 := Lib.hid (((HK8.out.trans (KeptM.of_below HW8.out)).trans (KeptM.of_below hal.out)).trans (KeptM.of_below hb9))
                           clear hb9)
              go_ret
              exact states_no HNO.out HK9.out
          | some m0 =>
            have HO0 := Lib.hid ho0
            have HOK3 := Lib.hid (show statesOk sp l = l.all (stOk names m0) by rw [HOK2.out, ho0]; rfl)
            have HM0 := Lib.hid (show m0.length ≤ maxLen by rw [onceQ_len ho0]; exact state_len HST0.out)
            clear ho0
            go_wp2_with (first
              | (go_at_call 75
                 (with_reducible refine (HCF.out _ (Below.refl _ _)).mono ?_)
                 rintro e w1 ⟨rfl, hb1⟩
                 obtain ⟨V1, rfl⟩ : ∃ W, W = w1 := ⟨_, rfl⟩
                 have HB1 := Lib.hid hb1
                 have z0 := row1 (box_next hb1 HBNQ.out)
                 obtain ⟨y0, _, _, _, _, _, _, _⟩ := row8 (box_next hb1 HBXQ.out)
                 obtain ⟨_, _, _, u3⟩ := (HSQ.out.under hb1).row
                 have HT1 := Lib.hid (HSQ.out.under hb1).mt
                 have HN1 := Lib.hid (HN.out.under hb1)
                 clear hb1)
              | (go_at_call 43
                 (with_reducible refine (recordS_any HT1.out (sh_unit _) HN1.out).mono ?_)
                 rintro e w7 ⟨he, hk, hm⟩
                 rw [keys_unit, HR.out] at he
                 subst he
                 obtain ⟨V7, rfl⟩ : ∃ W, W = w7 := ⟨_, rfl⟩
                 have HK7 := Lib.hid ((HKQ.out.trans (KeptM.of_below HB1.out)).trans hk)
                 have HS7 := Lib.hid ((HSQ.out.under HB1.out).putT hk (l := sp.states ++ names) (by have := hm (by rw [keys_unit]; exact HR.out); rwa [show (.agg #[] : Value) = unitV from rfl, with_app] at this))
                 have HN7 := Lib.hid (HN1.out.kept HT1.out hk)
                 have HB7 := Lib.hid ((HBQ.out.trans (HB1.out.mono HBQ.out.size)).trans (hk.below (B := w0.heap.size) (by simpa using ht1) (Nat.le_trans HBQ.out.size HB1.out.size)))
                 obtain ⟨a', ea, _, _, d0, d1, d2⟩ := elem3 (HEN0.out.under HB7.out)
                 cases ea
                 simp only [Nat.zero_mul, add_zero] at d0 d1 d2
                 clear hk hm)
              | (go_at_call 98
                 (with_reducible refine (once_yes HST0.out HO0.out _ HB7.out).mono ?_)
                 rintro e w8 ⟨bm, rfl, hm0, _, hb8⟩
                 obtain ⟨V8, rfl⟩ : ∃ W, W = w8 := ⟨_, rfl⟩
                 have HM8 := Lib.hid hm0
                 have HB8 := Lib.hid (HB7.out.trans (hb8.mono HB7.out.size))
                 have HK8 := Lib.hid (HK7.out.trans (KeptM.of_below hb8))
                 have HS8 := Lib.hid (HS7.out.under hb8)
                 have HN8 := Lib.hid (HN7.out.under hb8)
                 clear hb8 hm0))
            go_loopg [53] l.length (fun g v wr => ∃ k : Nat, k + g = l.length ∧ v = .int .i64 k ∧ AllTo (stOk names m0) l k ∧ Below V8.heap.size V8 wr)
            case atStart => exact ⟨0, by omega, rfl, AllTo.zero, Below.refl _ _⟩
            case round =>
              obtain ⟨wz, rfl⟩ : ∃ W, W = wr := ⟨_, rfl⟩
              obtain ⟨k, hkg, rfl, hto, hbw⟩ := hrel
              have HK := Lib.hid hkg
              have HT := Lib.hid hto
              have HW8 := Lib.hid hbw
              have hkl : k ≤ l.length := by omega
              clear hkg hto hbw
              by_cases hlt : k < l.length
              · obtain ⟨q, hq⟩ : ∃ q, l[k]? = some q := ⟨_, List.getElem?_eq_getElem hlt⟩
                have HQ := Lib.hid hq
                clear hq
                obtain ⟨Nq, hENq, hstq⟩ := HE.out k q HQ.out
                have HSTQ := Lib.hid hstq
                obtain ⟨qs0, qA1, qn1, qk1, qA2, qn2, qk2, rfl⟩ := hstq.shape
                have HBR := Lib.hid (HB8.out.trans (HW8.out.mono HB8.out.size))
                obtain ⟨a', ea, _, _, g0, g1, g2⟩ := elem3 (hENq.under HBR.out)
                cases ea
                have hal := Lib.hid ((Below.refl wz.heap.size wz).alloc (Nat.le_refl _) (.cells #[.string qs0, .slice qA1 qn1 qk1, .slice qA2 qn2 qk2] 71))
                have BZ := Lib.hid (heap_alloc_new wz (.cells #[.string qs0, .slice qA1 qn1 qk1, .slice qA2 qn2 qk2] 71))
                have HBZ := Lib.hid (HBR.out.trans (hal.out.mono HBR.out.size))
                clear hENq hstq
                cases ho : onceQ q with
                | none =>
                  have HO := Lib.hid ho
                  have HNO := Lib.hid (show statesOk sp l = false by rw [HOK3.out]; exact all_no HQ.out (stOk_none ho))
                  clear ho
                  go_wp2_with (go_at_call 98
                               (with_reducible refine (once_no HSTQ.out HO.out _ HBZ.out).mono ?_)
                               rintro e w9 ⟨rfl, hb9⟩
                               have HK9 := Lib.hid (((HK8.out.trans (KeptM.of_below HW8.out)).trans (KeptM.of_below hal.out)).trans (KeptM.of_below hb9))
                               clear hb9)
                  go_ret
                  exact states_no HNO.out HK9.out
                | some own =>
                  have HO := Lib.hid ho
                  have HOW := Lib.hid (stOk_some (names := names) (fst := m0) ho)
                  have HOL := Lib.hid (show own.length ≤ maxLen by rw [onceQ_len ho]; exact state_len HSTQ.out)
                  clear ho
                  cases hs : sameSet own m0
                  · have HSS := Lib.hid hs
                    have HNO := Lib.hid (show statesOk sp l = false by rw [HOK3.out]; exact all_no HQ.out (by rw [HOW.out, hs]; rfl))
                    clear hs
                    go_wp2_with (first
                      | (go_at_call 98
                         (with_reducible refine (once_yes HSTQ.out HO.out _ HBZ.out).mono ?_)
                         rintro e w9 ⟨bq, rfl, hmq, _, hb9⟩
                         obtain ⟨V9, rfl⟩ : ∃ W, W = w9 := ⟨_, rfl⟩
                         have HMQ := Lib.hid hmq
                         have HM9 := Lib.hid (((HM8.out.under HW8.out).under hal.out).under hb9)
                         have HK9 := Lib.hid (((HK8.out.trans (KeptM.of_below HW8.out)).trans (KeptM.of_below hal.out)).trans (KeptM.of_below hb9))
                         have HB9 := Lib.hid ((HW8.out.trans (hal.out.mono HW8.out.size)).trans (hb9.mono (Nat.le_trans HW8.out.size hal.out.size)))
                         have BZ9 := Lib.hid (box_next hb9 BZ.out)
                         obtain ⟨_, _, _⟩ := row3 BZ9.out
                         clear hb9 hmq)
                      | (go_at_call 99
                         (with_reducible refine (mapsEq_any HMQ.out HM9.out HOL.out HM0.out).mono ?_)
                         rintro e w10 ⟨he, hb10⟩
                         rw [HSS.out] at he
                         subst he
                         obtain ⟨V10, rfl⟩ : ∃ W, W = w10 := ⟨_, rfl⟩
                         have HK10 := Lib.hid (HK9.out.trans (KeptM.of_below hb10))
                         have HB10 := Lib.hid (HB9.out.trans (hb10.mono HB9.out.size))
                         obtain ⟨_, _, _⟩ := row3 (box_next hb10 BZ9.out)
                         clear hb10))
                    go_ret
                    exact states_no HNO.out HK10.out
                  · have HSS := Lib.hid hs
                    have HOW2 := Lib.hid (show stOk names m0 q = leadsQ q names by rw [HOW.out, hs]; rfl)
                    clear hs
                    cases hd : leadsQ q names
                    · have HLD := Lib.hid hd
                      have HNO := Lib.hid (show statesOk sp l = false by rw [HOK3.out]; exact all_no HQ.out (by rw [HOW2.out, hd]))
                      clear hd
                      go_wp2_with (first
                        | (go_at_call 98
                           (with_reducible refine (once_yes HSTQ.out HO.out _ HBZ.out).mono ?_)
                           rintro e w9 ⟨bq, rfl, hmq, _, hb9⟩
                           obtain ⟨V9, rfl⟩ : ∃ W, W = w9 := ⟨_, rfl⟩
                           have HMQ := Lib.hid hmq
                           have HM9 := Lib.hid (((HM8.out.under HW8.out).under hal.out).under hb9)
                           have HK9 := Lib.hid (((HK8.out.trans (KeptM.of_below HW8.out)).trans (KeptM.of_below hal.out)).trans (KeptM.of_below hb9))
                           have HB9 := Lib.hid ((HW8.out.trans (hal.out.mono HW8.out.size)).trans (hb9.mono (Nat.le_trans HW8.out.size hal.out.size)))
                           have BZ9 := Lib.hid (box_next hb9 BZ.out)
                           obtain ⟨_, _, _⟩ := row3 BZ9.out
                           clear hb9 hmq)
                        | (go_at_call 99
                           (with_reducible refine (mapsEq_any HMQ.out HM9.out HOL.out HM0.out).mono ?_)
                           rintro e w10 ⟨he, hb10⟩
                           rw [HSS.out] at he
                           subst he
                           obtain ⟨V10, rfl⟩ : ∃ W, W = w10 := ⟨_, rfl⟩
                           have HK10 := Lib.hid (HK9.out.trans (KeptM.of_below hb10))
                           have HB10 := Lib.hid (HB9.out.trans (hb10.mono HB9.out.size))
                           obtain ⟨_, _, _⟩ := row3 (box_next hb10 BZ9.out)
                           clear hb10)
                        | (go_at_call 100
                           (with_reducible refine (leadsTo_any HSTQ.out (HB8.out.trans (HB10.out.mono HB8.out.size)) (HN8.out.under HB10.out)).mono ?_)
                           rintro e w11 ⟨he, hb11⟩
                           rw [HLD.out] at he
                           subst he
                           have HK11 := Lib.hid (HK10.out.trans (KeptM.of_below hb11))
                           have HB11 := Lib.hid (HB10.out.trans (hb11.mono HB10.out.size))
                           clear hb11))
                      go_ret
                      exact states_no HNO.out HK11.out
                    · have HLD := Lib.hid hd
                      have HY := Lib.hid (show stOk names m0 q = true by rw [HOW2.out, hd])
                      clear hd
                      go_wp2_with (first
                        | (go_at_call 98
                           (with_reducible refine (once_yes HSTQ.out HO.out _ HBZ.out).mono ?_)
                           rintro e w9 ⟨bq, rfl, hmq, _, hb9⟩
                           obtain ⟨V9, rfl⟩ : ∃ W, W = w9 := ⟨_, rfl⟩
                           have HMQ := Lib.hid hmq
                           have HM9 := Lib.hid (((HM8.out.under HW8.out).under hal.out).under hb9)
                           have HK9 := Lib.hid (((HK8.out.trans (KeptM.of_below HW8.out)).trans (KeptM.of_below hal.out)).trans (KeptM.of_below hb9))
                           have HB9 := Lib.hid ((HW8.out.trans (hal.out.mono HW8.out.size)).trans (hb9.mono (Nat.le_trans HW8.out.size hal.out.size)))
                           have BZ9 := Lib.hid (box_next hb9 BZ.out)
                           obtain ⟨_, _, _⟩ := row3 BZ9.out
                           clear hb9 hmq)
                        | (go_at_call 99
                           (with_reducible refine (mapsEq_any HMQ.out HM9.out HOL.out HM0.out).mono ?_)
                           rintro e w10 ⟨he, hb10⟩
                           rw [HSS.out] at he
                           subst he
                           obtain ⟨V10, rfl⟩ : ∃ W, W = w10 := ⟨_, rfl⟩
                           have HK10 := Lib.hid (HK9.out.trans (KeptM.of_below hb10))
                           have HB10 := Lib.hid (HB9.out.trans (hb10.mono HB9.out.size))
                           obtain ⟨_, _, _⟩ := row3 (box_next hb10 BZ9.out)
                           clear hb10)
                        | (go_at_call 100
                           (with_reducible refine (leadsTo_any HSTQ.out (HB8.out.trans (HB10.out.mono HB8.out.size)) (HN8.out.under HB10.out)).mono ?_)
                           rintro e w11 ⟨he, hb11⟩
                           rw [HLD.out] at he
                           subst he
                           have HK11 := Lib.hid (HK10.out.trans (KeptM.of_below hb11))
                           have HB11 := Lib.hid (HB10.out.trans (hb11.mono HB10.out.size))
                           clear hb11))
                      go_roundg (l.length - (k + 1))
                      case measure => have := HK.out; omega
                      case rel => exact ⟨k + 1, by omega, by go_num, HT.out.succ HQ.out HY.out, HB11.out⟩
              · have hke : k = l.length := by omega
                have HY := Lib.hid (show statesOk sp l = true by rw [HOK3.out]; exact HT.out.all hke)
                clear hke
                go_wp2_with fail
                go_ret
                exact ⟨ret_bool HY.out.symm, HK8.out.trans (KeptM.of_below HW8.out), fun _ => by rw [HNN.out]; exact HS8.out.under HW8.out⟩
      · rw [hc] at HCF
        have HCF := Lib.hid HCF
        have HNO := Lib.hid (show statesOk sp l = false by rw [HOK.out, hc]; rfl)
        clear hc
        go_wp2_with (go_at_call 75
                     (with_reducible refine (HCF.out _ (Below.refl _ _)).mono ?_)
                     rintro e w1 ⟨rfl, hb1⟩
                     have HB1 := Lib.hid hb1
                     clear hb1)
        go_ret
        exact states_no HNO.out (HKQ.out.trans (KeptM.of_below HB1.out))
end
end Go.Proofs.YtbpbnebcbjacdaaGreat
