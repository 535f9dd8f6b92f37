/-
  definesOuts: is each result defined by an item?
  leadsTo, definedOnce, defined.
-/
import Derived.Test.YtbpbnebcbjacdaaGreatScopeUses
namespace Go.Proofs.YtbpbnebcbjacdaaGreat
open Go.RowKit
open Go.ChangeMaps Go.MapKept
open Go.Maps

/-- the values of a node's variables: -1 where no item defines it -/
def ValR (l : List (Tx × Value)) (D : List Tx) : Prop := (∀ p ∈ l, ∃ n : Int, p.2 = .int .i64 n ∧ (n = -1 ↔ p.1 ∉ D)) ∧ ∀ o ∈ D, o ∈ l.map Prod.fst
section
variable {S P f1 v1 : Nat} {x1 x2 x3 x5 : Value}
set_option maxHeartbeats 4000000 in
set_option maxRecDepth 100000 in
theorem definesOuts_any {w : World} {l : List (Tx × Value)} {D outs : List Tx} {A : Option Addr} {ca : Nat}
    (hbox : w.heap[S]? = some (.cells #[.pointer (some ⟨P, 0, none⟩), x1, x2, x3, .slice A outs.length ca, x5, .map (some f1), .map (some v1)] 92 (0, 0)))
    (hm : MapAt w v1 l) (hv : ValR l D) (ha : StrsAt w (.slice A outs.length ca) outs) :
    Calls Tryz.prog 46 #[.pointer (some ⟨S, 0, none⟩)] w (BoolPost (outs.all D.contains) w) := by
  have HM := Lib.hid hm
  have HV := Lib.hid hv
  have HA := Lib.hid ha
  obtain ⟨y0, y1, y2, y3, y4, y5, y6, y7⟩ := row8 hbox
  have hll : outs.length ≤ 9223372036854775807 := by obtain ⟨_, _, e, h1, h2, _⟩ := ha; injection e with _ _ e3; unfold maxLen at h2; omega
  clear hbox hm hv ha y1 y2 y3 y5 y6
  go_enter Tryz.func46, Tryz.ntmps46
  go_wp2_with fail
  go_loop [13] (fun v => ∃ k : Nat, k ≤ outs.length ∧ v = .int .i64 k ∧ AllTo D.contains outs k) (fun v => outs.length - (intOf v).toNat)
  case atStart => exact ⟨0, Nat.zero_le _, rfl, AllTo.zero⟩
  case round =>
    obtain ⟨k, hk, rfl, hto⟩ := hrel
    have HT := Lib.hid hto
    clear hto
    by_cases hlt : k < outs.length
    · obtain ⟨o, ho⟩ : ∃ o, outs[k]? = some o := ⟨_, List.getElem?_eq_getElem hlt⟩
      have HO := Lib.hid ho
      obtain ⟨A9, c9, e9, _, _, he9⟩ := HA.out
      obtain ⟨L9, hE9, rfl, hol⟩ := he9 k o ho
      injection e9 with e9 e10 e11
      clear e10 e11
      obtain ⟨a9, ea9, _, _, q9⟩ := elem1 hE9
      rw [ea9] at e9
      subst e9
      simp only [Nat.mul_one] at q9
      clear ho he9 hE9 ea9
      by_cases hD : o ∈ D
      · have HC := Lib.hid (show D.contains o = true from List.contains_iff_mem.2 hD)
        obtain ⟨⟨o', v⟩, hp, rfl⟩ := List.mem_map.1 (HV.out.2 o hD)
        obtain ⟨n, hn, hn1⟩ := HV.out.1 _ hp
        simp only at hn
        subst hn
        have hne : (n == -1) = false := by simp; exact fun e => (hn1.1 e) hD
        have hrun := HM.out.look_yes Tryz.underlying90 hp
        clear hD hp hn1 hol
        go_wp2_with fail
        go_round
        case rel => exact ⟨k + 1, by omega, by go_num, HT.out.succ HO.out HC.out⟩
        case measure => simp [intOf]; omega
      · have HF := Lib.hid (show outs.all D.contains = false from all_no HO.out (by rw [Bool.eq_false_iff]; intro h; exact hD (List.contains_iff_mem.1 h)))
        by_cases hkey : o ∈ l.map Prod.fst
        · obtain ⟨⟨o', v⟩, hp, rfl⟩ := List.mem_map.1 hkey
          obtain ⟨n, hn, hn1⟩ := HV.out.1 _ hp
          simp only at hn
          subst hn
          have hne : n = -1 := hn1.2 hD
          subst hne
          have hrun := HM.out.look_yes Tryz.underlying90 hp
          clear hD hp hn1 hol hkey
          go_wp2_with fail
          go_ret
          exact ⟨ret_bool HF.out.symm, Below.refl _ _⟩
        · have hrun := HM.out.look_no Tryz.underlying90 (zeroI w) hol hkey
          clear hD hol hkey
          go_wp2_with fail
          go_ret
          exact ⟨ret_bool HF.out.symm, Below.refl _ _⟩
    · have hke : k = outs.length := by omega
      have HF := Lib.hid (HT.out.all hke)
      clear hke
      go_wp2_with fail
      go_ret
      exact ⟨ret_bool HF.out.symm, Below.refl _ _⟩
end
end Go.Proofs.YtbpbnebcbjacdaaGreat
namespace Go.Proofs.YtbpbnebcbjacdaaGreat
open Go.RowKit
open Go.ChangeMaps Go.MapKept
open Go.Maps

theorem enter118 : EntersP 118 := enters_of Tryz.func118 (by kernel_rfl) rfl
set_option maxHeartbeats 1000000 in
theorem leadsC_any {w0 : World} {names : List Tx} {va : Value} (ha : StrsAt w0 va names) {N : Nat} (hN : w0.heap[N]? = some (.cells #[va] 37 (0, 0))) {L : List Value} {y : QWay} (hy : WayAt w0 L y) :
    ∀ w, Below w0.heap.size w0 w → Calls Tryz.prog 118 #[.agg L.toArray, .pointer (some ⟨N, 0, none⟩)] w (BoolPost (!names.contains y.to) w) := by
  intro w hw
  have HN := Lib.hid (box_next hw hN)
  have hlt := lt_of_heap HN.out
  have HA := Lib.hid (ha.under hw)
  obtain ⟨L', rfl, hc, _⟩ := hy
  obtain ⟨u1, u2, u3, u4, u5, u6, u7, u8, u9, rfl⟩ := hc.shape
  simp only [List.cons_append, List.nil_append]
  have hal : Below w.heap.size w (w.alloc (.cells #[.int .i64 u1, .string u2, .int .i64 u3, .slice u4 u5 u6, .slice u7 u8 u9, .string (str y.to)] 102)) := (Below.refl _ w).alloc (Nat.le_refl _) _
  have HC := Lib.hid (containsL_any (HA.out.under hal) y.to)
  have x0 := row1 HN.out
  clear ha hN hw hc hal
  go_enter Tryz.func118, Tryz.ntmps118
  go_wp2_with (go_at_call 119; (with_reducible refine HC.out.mono ?_); rintro e w1 ⟨rfl, rfl⟩)
  go_ret
  exact ⟨ret_bool (by simp), (Below.refl _ w).alloc (Nat.le_refl _) _⟩
set_option maxHeartbeats 2000000 in
theorem leadsTo_any {w0 : World} {L : List Value} {q : QState} (hL : StateAt w0 L q) {w : World} (hb : Below w0.heap.size w0 w) {va : Value} {names : List Tx} (ha : StrsAt w va names) :
    Calls Tryz.prog 100 #[.agg L.toArray, va] w (BoolPost (leadsQ q names) w) := by
  have hmf : ∀ (fn : Fn) (first cap : Array Value) (w : World), (Instr.makeFunc fn first cap).run Tryz.prog w = .ok (.func fn first cap) w := fun _ _ _ _ => rfl
  obtain ⟨ev, wv, rfl, _, hev, hwv⟩ := hL
  obtain ⟨E1, E2, E3, rfl⟩ := SliceAt.shape hev
  have HWV := Lib.hid (hwv.mono hb (fun _ _ h => h.under hb))
  obtain ⟨W1, W2, W3, rfl⟩ := SliceAt.shape hwv
  have HA := Lib.hid ha
  obtain ⟨A, c, rfl, _⟩ := ha
  have a1 : Below w.heap.size w (w.alloc (.cells #[.string (str q.name), .slice E1 E2 E3, .slice W1 W2 W3] 71)) := (Below.refl _ w).alloc (Nat.le_refl _) _
  have HV := Lib.hid (a1.alloc (by simp) (.cells #[.slice A names.length c] 37))
  have BN := Lib.hid (show ((w.alloc (.cells #[.string (str q.name), .slice E1 E2 E3, .slice W1 W2 W3] 71)).alloc (.cells #[.slice A names.length c] 37)).heap[w.heap.size + 1]? = some (.cells #[.slice A names.length c] 37 (0, 0)) from alloc_at (by simp))
  have HCF := Lib.hid (containsFW_any (HWV.out.mono HV.out (fun _ _ h => h.under HV.out)) enter118 (f := fun y => !names.contains y.to) (cap := #[.pointer (some ⟨w.heap.size + 1, 0, none⟩)]) (fun y _ L' hy => leadsC_any (HA.out.under HV.out) BN.out hy))
  clear hev hwv hb a1
  go_enter Tryz.func100, Tryz.ntmps100
  go_wp2_with (go_at_call 120
               (with_reducible refine (HCF.out _ (Below.refl _ _)).mono ?_)
               rintro e w1 ⟨rfl, hb1⟩
               have HB := Lib.hid (HV.out.trans (hb1.mono HV.out.size))
               clear hb1)
  go_ret
  exact ⟨ret_bool (by rw [leadsQ]; simp [List.any_eq_not_all_not]), HB.out⟩
/-- what definedOnce gives: the map of the names, or none -/
def OncePost (q : QState) (w : World) (e : Ending) (w' : World) : Prop :=
  (match onceQ q with
   | none => e = .returned (.tuple #[.map none, .bool false])
   | some l => ∃ b, e = .returned (.tuple #[.map (some b), .bool true]) ∧ MapAt w' b (withV unitV l) ∧ w.heap.size ≤ b) ∧ Below w.heap.size w w'
theorem onceF_cons (m : List Tx) (q : QEq) (r : List QEq) : onceF m (q :: r) = if q.names.length = 1 ∧ recOk m q.names = true then onceF (m ++ q.names) r else none := rfl
set_option maxHeartbeats 4000000 in
set_option maxRecDepth 100000 in
theorem once_any {w0 : World} {L : List Value} {q : QState} (hL : StateAt w0 L q) : ∀ w, Below w0.heap.size w0 w → Calls Tryz.prog 98 #[.agg L.toArray] w (OncePost q w) := by
  intro w hb
  have hmm := @run_makeMap Tryz.prog
  have HB := Lib.hid hb
  have hsz := hb.size
  obtain ⟨ev, wv, rfl, _, ⟨E, ce, rfl, hec, hem, hee⟩, hwv⟩ := hL
  obtain ⟨W1, W2, W3, rfl⟩ := SliceAt.shape hwv
  have hel : q.eqs.length ≤ 9223372036854775807 := by unfold maxLen at hem; omega
  have HEE := Lib.hid hee
  clear hb hec hem hee hwv
  go_enter Tryz.func98, Tryz.ntmps98
  go_wp2_with fail
  clear hmm
  have a1 : Below w.heap.size w (w.alloc (.cells #[.string (str q.name), .slice E q.eqs.length ce, .slice W1 W2 W3] 71)) := (Below.refl _ w).alloc (Nat.le_refl _) _
  have HV := Lib.hid (a1.alloc (by simp) (.map #[] 0))
  have HM0 := Lib.hid (show MapAt ((w.alloc (.cells #[.string (str q.name), .slice E q.eqs.length ce, .slice W1 W2 W3] 71)).alloc (.map #[] 0)) (w.heap.size + 1) [] by have := MapAt.made (w.alloc (.cells #[.string (str q.name), .slice E q.eqs.length ce, .slice W1 W2 W3] 71)); simpa using this)
  generalize (w.alloc (.cells #[.string (str q.name), .slice E q.eqs.length ce, .slice W1 W2 W3] 71)).alloc (.map #[] 0) = V at *
  clear a1
  go_loopg [11] q.eqs.length (fun g v wr => ∃ (k : Nat) (m : List Tx), k + g = q.eqs.length ∧ v = .int .i64 k ∧ onceQ q = onceF m (q.eqs.drop k) ∧ MapAt wr (w.heap.size + 1) (withV unitV m) ∧ KeptM [w.heap.size + 1] V wr)
  case atStart => exact ⟨0, [], by omega, rfl, rfl, HM0.out, KeptM.refl _ _⟩
  case round =>
    obtain ⟨k, m, hkg, rfl, hu, hma, hkm⟩ := hrel
    obtain ⟨wq, rfl⟩ : ∃ W, W = wr := ⟨_, rfl⟩
    have HK := Lib.hid hkg
    have HU := Lib.hid hu
    have HMA := Lib.hid hma
    have HKM := Lib.hid hkm
    have HG := Lib.hid (HV.out.trans (hkm.below (B := w.heap.size) (by simp) HV.out.size))
    have HBQ := Lib.hid (HB.out.trans (HG.out.mono hsz))
    have hkl : k ≤ q.eqs.length := by omega
    clear hkg hu hma hkm
    by_cases hlt : k < q.eqs.length
    · obtain ⟨y, hy⟩ : ∃ y, q.eqs[k]? = some y := ⟨_, List.getElem?_eq_getElem hlt⟩
      have HD := Lib.hid (drop_consS hy)
      obtain ⟨U, hEU, nv2, L2, rfl, hn2, hx2⟩ := HEE.out k y hy
      have HN2 := Lib.hid hn2
      obtain ⟨u0, u2, rfl, huc, hum, _⟩ := hn2
      have hnl : y.names.length ≤ 9223372036854775807 := by unfold maxLen at hum; omega
      obtain ⟨u3, u4, u5, u6, u7, u8, u9, u10, u11, rfl⟩ := hx2.shape
      obtain ⟨b, rfl, hb, hba, e0, e1, e2, e3, e4, e5⟩ := elem6 (hEU.under HBQ.out)
      have hal := Lib.hid ((Below.refl wq.heap.size wq).alloc (Nat.le_refl _) (.cells #[.slice u0 y.names.length u2, .int .i64 u3, .string u4, .int .i64 u5, .slice u6 u7 u8, .slice u9 u10 u11] 52))
      clear hEU hx2 hy huc hum
      by_cases h1 : y.names.length = 1
      · have hn1 : ((y.names.length : Int) != 1) = false := by simp [h1]
        have H1 := Lib.hid h1
        clear h1
        cases hr : recOk m y.names
        · have HR := Lib.hid hr
          have HN := Lib.hid (show onceQ q = none by rw [HU.out, HD.out, onceF_cons, if_neg (by rw [hr]; simp)])
          clear hr
          go_wp2_with (go_at_call 43
                       (with_reducible refine (recordS_any (HMA.out.under hal.out) (sh_unit _) ((HN2.out.under HBQ.out).under hal.out)).mono ?_)
                       rintro e w7 ⟨he, hk, _⟩
                       rw [keys_unit, HR.out] at he
                       subst he
                       have HF := Lib.hid (HG.out.trans ((hal.out.mono HG.out.size).trans (hk.below (B := w.heap.size) (by simp) (by have := HG.out.size; simp; omega))))
                       clear hk)
          go_ret2
          exact ⟨by rw [HN.out]; exact rfl, HF.out⟩
        · have HR := Lib.hid hr
          have HN := Lib.hid (show onceQ q = onceF (m ++ y.names) (q.eqs.drop (k + 1)) by rw [HU.out, HD.out, onceF_cons, if_pos ⟨H1.out, hr⟩])
          clear hr
          go_wp2_with (go_at_call 43
                       (with_reducible refine (recordS_any (HMA.out.under hal.out) (sh_unit _) ((HN2.out.under HBQ.out).under hal.out)).mono ?_)
                       rintro e w7 ⟨he, hk, hmm⟩
                       rw [keys_unit, HR.out] at he
                       subst he
                       have HK7 := Lib.hid ((HKM.out.trans (KeptM.of_below hal.out)).trans hk)
                       have HM7 := Lib.hid (show MapAt w7 (w.heap.size + 1) (withV unitV (m ++ y.names)) by have := hmm (by rw [keys_unit]; exact HR.out); rwa [show (.agg #[] : Value) = unitV from rfl, with_app] at this)
                       clear hk hmm)
          go_roundg (q.eqs.length - (k + 1))
          case measure => have := HK.out; omega
          case rel => exact ⟨k + 1, _, by omega, by go_num, HN.out, HM7.out, HK7.out⟩
      · have hn1 : ((y.names.length : Int) != 1) = true := by simp; omega
        have HN := Lib.hid (show onceQ q = none by rw [HU.out, HD.out, onceF_cons, if_neg (by rintro ⟨h, _⟩; exact h1 h)])
        clear h1
        go_wp2_with fail
        go_ret2
        exact ⟨by rw [HN.out]; exact rfl, HG.out.trans (hal.out.mono HG.out.size)⟩
    · have hke : k = q.eqs.length := by omega
      have HN := Lib.hid (show onceQ q = some m by rw [HU.out, hke, List.drop_length]; rfl)
      clear hke
      go_wp2_with fail
      go_ret2
      exact ⟨by rw [HN.out]; exact ⟨_, rfl, HMA.out, by omega⟩, HG.out⟩
end Go.Proofs.YtbpbnebcbjacdaaGreat
