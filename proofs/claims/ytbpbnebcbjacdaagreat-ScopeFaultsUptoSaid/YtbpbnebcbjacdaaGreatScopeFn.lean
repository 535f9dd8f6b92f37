/-
  slices.IndexFunc, ContainsFunc with a closure, at strings and transitions; slices.Index, Contains at strings.
-/
import Derived.Test.YtbpbnebcbjacdaaGreatScopeComp
import Derived.Test.YtbpbnebcbjacdaaGreatTreeAll
import Derived.Test.YtbpbnebcbjacdaaGreatTreeRight
namespace Go.Proofs.YtbpbnebcbjacdaaGreat
open Go.RowKit

set_option maxHeartbeats 1000000 in
theorem indexFS_any {w0 : World} {va : Value} {l : List Tx} {f : Tx → Bool} (ha : SliceAt w0 StrCell va l) {g : FuncId} {cap : Array Value} (eg : ∀ (args : Array Value) (W : World), (callFunc g args).run Tryz.prog W = .ok (.enter g args) W)
    (hf : ∀ x ∈ l, x.length ≤ maxLen → ∀ w, Below w0.heap.size w0 w → Calls Tryz.prog g (#[.string (str x)] ++ cap) w (BoolPost (f x) w)) :
    ∀ w, Below w0.heap.size w0 w → Calls Tryz.prog 95 #[va, .func (.func g) #[] cap] w (fun e w' => (∃ n : Int, e = .returned (.int .i64 n) ∧ decide (0 ≤ n) = l.any f) ∧ Below w.heap.size w w') := by
  intro w hw
  obtain ⟨A, ca, rfl, hca, hma, hea⟩ := ha
  have hla : l.length ≤ 9223372036854775807 := by unfold maxLen at hma; omega
  have HW0 := Lib.hid hw
  have hsz0 := hw.size
  clear hw hca hma
  go_enter Tryz.func95, Tryz.ntmps95
  go_wp2_with fail
  go_loopg [8] l.length (fun g v wr => ∃ k : Nat, k + g = l.length ∧ v = .int .i64 k ∧ AllTo (fun y => !f y) l k ∧ Below w.heap.size w wr)
  case atStart => exact ⟨0, by omega, rfl, AllTo.zero, Below.refl _ _⟩
  case round =>
    obtain ⟨k, hkg, rfl, hto, hbw⟩ := hrel
    have HK := Lib.hid hkg
    have HW := Lib.hid hbw
    have HT := Lib.hid hto
    have hszw := hbw.size
    have hkl : k ≤ l.length := by omega
    clear hkg hbw hto
    by_cases hlt : k < l.length
    · obtain ⟨y, hy⟩ : ∃ y, l[k]? = some y := ⟨_, List.getElem?_eq_getElem hlt⟩
      obtain ⟨L, hEM, rfl, hxl⟩ := hea k y hy
      have HF := Lib.hid (hf y (List.mem_of_getElem? hy) hxl)
      have HB0 := Lib.hid (HW0.out.trans (HW.out.mono hsz0))
      have HY := Lib.hid hy
      obtain ⟨a, rfl, hab, haa, d0⟩ := elem1 (hEM.under HB0.out)
      rw [Nat.mul_one] at d0
      clear hEM hea hf hy
      cases hfx : f y
      · have HFX := Lib.hid hfx
        rw [hfx] at HF
        clear hfx
        go_wp2_with (go_at_fn g; refine (HF.out _ HB0.out).mono ?_; rintro e w1 ⟨rfl, hb1⟩)
        go_roundg (l.length - (k + 1))
        case measure => have := HK.out; omega
        case rel => exact ⟨k + 1, by omega, by go_num, HT.out.succ HY.out (by rw [HFX.out]; rfl), HW.out.trans (hb1.mono (by omega))⟩
      · have HFX := Lib.hid hfx
        rw [hfx] at HF
        clear hfx
        go_wp2_with (go_at_fn g; refine (HF.out _ HB0.out).mono ?_; rintro e w1 ⟨rfl, hb1⟩)
        go_ret
        exact ⟨⟨_, rfl, by rw [List.any_eq_true.2 ⟨y, List.mem_of_getElem? HY.out, HFX.out⟩]; simp⟩, HW.out.trans (hb1.mono (by omega))⟩
    · have hke : k = l.length := by omega
      have HKE := Lib.hid hke
      clear hke
      go_wp2_with fail
      go_ret
      exact ⟨⟨_, rfl, by rw [any_no (HT.out.all HKE.out)]; rfl⟩, HW.out⟩
theorem containsFS_any {w0 : World} {va : Value} {l : List Tx} {f : Tx → Bool} (ha : SliceAt w0 StrCell va l) {g : FuncId} {cap : Array Value} (eg : ∀ (args : Array Value) (W : World), (callFunc g args).run Tryz.prog W = .ok (.enter g args) W)
    (hf : ∀ x ∈ l, x.length ≤ maxLen → ∀ w, Below w0.heap.size w0 w → Calls Tryz.prog g (#[.string (str x)] ++ cap) w (BoolPost (f x) w)) :
    ∀ w, Below w0.heap.size w0 w → Calls Tryz.prog 75 #[va, .func (.func g) #[] cap] w (BoolPost (l.any f) w) := by
  intro w hw
  have H := Lib.hid (indexFS_any ha eg hf w hw)
  obtain ⟨A, ca, rfl, _⟩ := ha
  clear hw hf
  go_enter Tryz.func75, Tryz.ntmps75
  go_wp2_with (go_at_call 95; refine H.out.mono ?_; rintro e w1 ⟨⟨n, rfl, hn⟩, hb1⟩; have HN := Lib.hid hn; clear hn)
  go_ret
  exact ⟨ret_bool HN.out, hb1⟩
set_option maxHeartbeats 1000000 in
theorem indexFW_any {w0 : World} {va : Value} {l : List QWay} {f : QWay → Bool} (ha : SliceAt w0 (WayAt w0) va l) {g : FuncId} {cap : Array Value} (eg : ∀ (args : Array Value) (W : World), (callFunc g args).run Tryz.prog W = .ok (.enter g args) W)
    (hf : ∀ x ∈ l, ∀ L, WayAt w0 L x → ∀ w, Below w0.heap.size w0 w → Calls Tryz.prog g (#[.agg L.toArray] ++ cap) w (BoolPost (f x) w)) :
    ∀ w, Below w0.heap.size w0 w → Calls Tryz.prog 133 #[va, .func (.func g) #[] cap] w (fun e w' => (∃ n : Int, e = .returned (.int .i64 n) ∧ decide (0 ≤ n) = l.any f) ∧ Below w.heap.size w w') := by
  intro w hw
  obtain ⟨A, ca, rfl, hca, hma, hea⟩ := ha
  have hla : l.length ≤ 9223372036854775807 := by unfold maxLen at hma; omega
  have HW0 := Lib.hid hw
  have hsz0 := hw.size
  clear hw hca hma
  go_enter Tryz.func133, Tryz.ntmps133
  go_wp2_with fail
  go_loopg [8] l.length (fun g v wr => ∃ k : Nat, k + g = l.length ∧ v = .int .i64 k ∧ AllTo (fun y => !f y) l k ∧ Below w.heap.size w wr)
  case atStart => exact ⟨0, by omega, rfl, AllTo.zero, Below.refl _ _⟩
  case round =>
    obtain ⟨k, hkg, rfl, hto, hbw⟩ := hrel
    have HK := Lib.hid hkg
    have HW := Lib.hid hbw
    have HT := Lib.hid hto
    have hszw := hbw.size
    have hkl : k ≤ l.length := by omega
    clear hkg hbw hto
    by_cases hlt : k < l.length
    · obtain ⟨y, hy⟩ : ∃ y, l[k]? = some y := ⟨_, List.getElem?_eq_getElem hlt⟩
      obtain ⟨L, hEM, hRM⟩ := hea k y hy
      have HF := Lib.hid (hf y (List.mem_of_getElem? hy) L hRM)
      obtain ⟨o0, s1, o2, A3, n3, k3, A4, n4, k4, s5, rfl⟩ := hRM.shape
      have HB0 := Lib.hid (HW0.out.trans (HW.out.mono hsz0))
      have HY := Lib.hid hy
      obtain ⟨a, rfl, hab, haa, d0, d1, d2, d3, d4, d5⟩ := elem6 (hEM.under HB0.out)
      clear hEM hea hf hy hRM
      cases hfx : f y
      · have HFX := Lib.hid hfx
        rw [hfx] at HF
        clear hfx
        go_wp2_with (go_at_fn g; refine (HF.out _ HB0.out).mono ?_; rintro e w1 ⟨rfl, hb1⟩)
        go_roundg (l.length - (k + 1))
        case measure => have := HK.out; omega
        case rel => exact ⟨k + 1, by omega, by go_num, HT.out.succ HY.out (by rw [HFX.out]; rfl), HW.out.trans (hb1.mono (by omega))⟩
      · have HFX := Lib.hid hfx
        rw [hfx] at HF
        clear hfx
        go_wp2_with (go_at_fn g; refine (HF.out _ HB0.out).mono ?_; rintro e w1 ⟨rfl, hb1⟩)
        go_ret
        exact ⟨⟨_, rfl, by rw [List.any_eq_true.2 ⟨y, List.mem_of_getElem? HY.out, HFX.out⟩]; simp⟩, HW.out.trans (hb1.mono (by omega))⟩
    · have hke : k = l.length := by omega
      have HKE := Lib.hid hke
      clear hke
      go_wp2_with fail
      go_ret
      exact ⟨⟨_, rfl, by rw [any_no (HT.out.all HKE.out)]; rfl⟩, HW.out⟩
theorem containsFW_any {w0 : World} {va : Value} {l : List QWay} {f : QWay → Bool} (ha : SliceAt w0 (WayAt w0) va l) {g : FuncId} {cap : Array Value} (eg : ∀ (args : Array Value) (W : World), (callFunc g args).run Tryz.prog W = .ok (.enter g args) W)
    (hf : ∀ x ∈ l, ∀ L, WayAt w0 L x → ∀ w, Below w0.heap.size w0 w → Calls Tryz.prog g (#[.agg L.toArray] ++ cap) w (BoolPost (f x) w)) :
    ∀ w, Below w0.heap.size w0 w → Calls Tryz.prog 120 #[va, .func (.func g) #[] cap] w (BoolPost (l.any f) w) := by
  intro w hw
  have H := Lib.hid (indexFW_any ha eg hf w hw)
  obtain ⟨A, ca, rfl, _⟩ := ha
  clear hw hf
  go_enter Tryz.func120, Tryz.ntmps120
  go_wp2_with (go_at_call 133; refine H.out.mono ?_; rintro e w1 ⟨⟨n, rfl, hn⟩, hb1⟩; have HN := Lib.hid hn; clear hn)
  go_ret
  exact ⟨ret_bool HN.out, hb1⟩
/-- the first place of a string in a list, or -1 -/
def idxF (k : Int) (s : Tx) : List Tx → Int
  | [] => -1
  | x :: r => if x = s then k else idxF (k + 1) s r
def idxL (l : List Tx) (s : Tx) : Int := idxF 0 s l
theorem idxF_pos (s : Tx) (l : List Tx) : ∀ k : Int, 0 ≤ k → decide (0 ≤ idxF k s l) = l.contains s := by
  induction l with
  | nil => intro k _; simp [idxF]
  | cons x r ih =>
    intro k hk
    unfold idxF
    by_cases h : x = s
    · rw [if_pos h]; subst h; simp [hk]
    · rw [if_neg h, ih (k + 1) (by omega)]
      simp
      intro e
      exact absurd e.symm h
set_option maxHeartbeats 1000000 in
theorem index_any {va : Value} {l : List Tx} {w : World} (ha : StrsAt w va l) (s : Tx) : Calls Tryz.prog 30 #[va, .string (str s)] w fun e w' => e = .returned (.int .i64 (idxL l s)) ∧ w = w' := by
  obtain ⟨A, c, rfl, hlc, hmc, he⟩ := ha
  have hll : l.length ≤ 9223372036854775807 := by unfold maxLen at hmc; omega
  have HE := Lib.hid he
  clear he hlc hmc
  go_enter Tryz.func30, Tryz.ntmps30
  go_wp2_with fail
  go_loop [8] (fun v => ∃ k : Nat, k ≤ l.length ∧ v = .int .i64 k ∧ idxL l s = idxF k s (l.drop k)) (fun v => l.length - (intOf v).toNat)
  case atStart => exact ⟨0, Nat.zero_le _, rfl, rfl⟩
  case round =>
    obtain ⟨k, hk, rfl, hr⟩ := hrel
    have HR := Lib.hid hr
    clear hr
    by_cases hlt : k < l.length
    · obtain ⟨x, hx⟩ : ∃ x, l[k]? = some x := ⟨_, List.getElem?_eq_getElem hlt⟩
      obtain ⟨L, hEL, rfl, _⟩ := HE.out k x hx
      obtain ⟨a, rfl, _, _, c0⟩ := elem1 hEL
      rw [Nat.mul_one] at c0
      have HD := Lib.hid (drop_consS hx)
      clear hx hEL
      by_cases hxs : x = s
      · have hb : ((str s).toList == (str x).toList) = true := by rw [hxs]; simp
        have HN := Lib.hid (show idxL l s = k by rw [HR.out, HD.out, idxF, if_pos hxs])
        clear hxs
        go_wp2_with fail
        go_ret
        exact ⟨ret_int HN.out.symm, rfl⟩
      · have hb : ((str s).toList == (str x).toList) = false := by rw [str_toL, str_toL]; simp; exact fun e => hxs e.symm
        have HN := Lib.hid (show idxL l s = idxF ((k + 1 : Nat) : Int) s (l.drop (k + 1)) by rw [HR.out, HD.out, idxF, if_neg hxs]; rfl)
        clear hxs
        go_wp2_with fail
        go_round
        case rel => exact ⟨k + 1, by omega, by go_num, HN.out⟩
        case measure => simp [intOf]; omega
    · have hke : k = l.length := by omega
      have HN := Lib.hid (show idxL l s = -1 by rw [HR.out, hke, List.drop_length]; rfl)
      clear hke
      go_wp2_with fail
      go_ret
      exact ⟨ret_int HN.out.symm, rfl⟩
theorem containsL_any {va : Value} {l : List Tx} {w : World} (ha : StrsAt w va l) (s : Tx) : Calls Tryz.prog 119 #[va, .string (str s)] w fun e w' => e = .returned (.bool (l.contains s)) ∧ w = w' := by
  have H := Lib.hid (index_any ha s)
  have HP := Lib.hid (idxF_pos s l 0 (by omega))
  obtain ⟨A, c, rfl, _⟩ := ha
  go_enter Tryz.func119, Tryz.ntmps119
  go_wp2_with (go_at_call 30; refine H.out.mono ?_; rintro e w1 ⟨rfl, rfl⟩)
  go_ret
  exact ⟨ret_bool HP.out, rfl⟩
end Go.Proofs.YtbpbnebcbjacdaaGreat
