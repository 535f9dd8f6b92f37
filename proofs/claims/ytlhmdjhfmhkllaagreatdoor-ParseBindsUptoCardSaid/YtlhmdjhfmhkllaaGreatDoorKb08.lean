/-
  Texts joined.
-/
import Derived.Shelf.Abstract
import Derived.Test.YtlhmdjhfmhkllaaGreatDoorKb07
namespace Go.Proofs.YtlhmdjhfmhkllaaGreatDoor
open Go.RowKit
/-- f holds of the first k -/
def AllTo {X : Type} (f : X → Bool) (l : List X) (k : Nat) : Prop := ∀ (i : Nat) x, i < k → l[i]? = some x → f x = true
theorem AllTo.zero {X : Type} {f : X → Bool} {l : List X} : AllTo f l 0 := fun _ _ h => absurd h (by omega)
theorem AllTo.succ {X : Type} {f : X → Bool} {l : List X} {k : Nat} (h : AllTo f l k) {x : X} (hx : l[k]? = some x) (hf : f x = true) : AllTo f l (k + 1) := by
  intro i a hi ha; by_cases e : i = k
  · subst e; rw [ha] at hx; cases hx; exact hf
  · exact h i a (by omega) ha
theorem AllTo.all {X : Type} {f : X → Bool} {l : List X} {k : Nat} (h : AllTo f l k) (hk : k = l.length) : l.all f = true := by
  rw [List.all_eq_true]; intro x hx; obtain ⟨i, hi, rfl⟩ := List.getElem_of_mem hx; exact h i _ (by omega) (List.getElem?_eq_getElem hi)
theorem all_no {X : Type} {f : X → Bool} {l : List X} {k : Nat} {x : X} (hx : l[k]? = some x) (hf : f x = false) : l.all f = false := by
  rw [Bool.eq_false_iff]; intro h; rw [List.all_eq_true] at h; rw [h x (List.mem_of_getElem? hx)] at hf; cases hf
set_option maxHeartbeats 1000000 in
theorem all_string {w0 : World} {va : Value} {l : List Tx} {f : Tx → Bool} {lo hi : Int} (ha : StrsAt w0 va l) {g : FuncId} {cap : Array Value} (eg : ∀ (args : Array Value) (W : World), (callFunc g args).run Tryz.prog W = .ok (.enter g args) W)
    (hf : ∀ x ∈ l, x.length ≤ maxLen → ∀ w, Below w0.heap.size w0 w → Calls Tryz.prog g (#[.string (str x)] ++ cap) w (BoolPost (f x) w)) :
    ∀ w, Below w0.heap.size w0 w → Calls Tryz.prog 143 #[va, .int .i64 lo, .int .i64 hi, .func (.func g) #[] cap] w (BoolPost (decide (lo ≤ l.length) && decide ((l.length : Int) ≤ hi) && l.all f) w) := by
  intro w hw; obtain ⟨A, ca, rfl, hca, hma, hea⟩ := ha; have hla : l.length ≤ 9223372036854775807 := (by unfold maxLen at hma; omega); have HW0 := Lib.hid hw; have hsz0 := hw.size; clear hw hca hma; by_cases hlo : (l.length : Int) < lo
  · go_enter Tryz.func143, Tryz.ntmps143
    go_wp2_with fail
    go_ret; exact ⟨ret_bool (by simp; omega), Below.refl _ _⟩
  · by_cases hhi : hi < (l.length : Int)
    · go_enter Tryz.func143, Tryz.ntmps143
      go_wp2_with fail
      go_ret; exact ⟨ret_bool (by simp; omega), Below.refl _ _⟩
    · go_enter Tryz.func143, Tryz.ntmps143
      go_wp2_with fail
      go_loopg [23] l.length (fun g v wr => ∃ k : Nat, k + g = l.length ∧ v = .int .i64 k ∧ AllTo f l k ∧ Below w.heap.size w wr)
      case atStart => exact ⟨0, by omega, rfl, AllTo.zero, Below.refl _ _⟩
      case round =>
        obtain ⟨k, hkg, rfl, hto, hbw⟩ := hrel; have HK := Lib.hid hkg; have HW := Lib.hid hbw; have HT := Lib.hid hto; have hszw := hbw.size; have hkl : k ≤ l.length := (by omega); clear hkg hbw hto; by_cases hlt : k < l.length
        · obtain ⟨x, hx⟩ : ∃ x, l[k]? = some x := ⟨_, List.getElem?_eq_getElem hlt⟩; obtain ⟨L, hEL, rfl, hxl⟩ := hea k x hx; have HF := Lib.hid (hf x (List.mem_of_getElem? hx) hxl); have HB0 := Lib.hid (HW0.out.trans (HW.out.mono hsz0)); have HX := Lib.hid hx; obtain ⟨a, rfl, hab, haa, d0⟩ := elem1 (hEL.under HB0.out); rw [Nat.mul_one] at d0; clear hEL hea hf hx; cases hfx : f x
          · have HFX := Lib.hid hfx; rw [hfx] at HF; clear hfx; go_wp2_with (go_at_fn g; refine (HF.out _ HB0.out).mono ?_; rintro e w1 ⟨rfl, hb1⟩)
            go_ret; exact ⟨ret_bool (by rw [all_no HX.out HFX.out]), HW.out.trans (hb1.mono (by omega))⟩
          · have HFX := Lib.hid hfx; rw [hfx] at HF; clear hfx; go_wp2_with (go_at_fn g; refine (HF.out _ HB0.out).mono ?_; rintro e w1 ⟨rfl, hb1⟩)
            go_roundg (l.length - (k + 1))
            case measure => have := HK.out; omega
            case rel => exact ⟨k + 1, by omega, by go_num, HT.out.succ HX.out HFX.out, HW.out.trans (hb1.mono (by omega))⟩
        · have hke : k = l.length := by omega
          have HKE := Lib.hid hke; clear hke; go_wp2_with fail
          go_ret; exact ⟨ret_bool (by rw [HT.out.all HKE.out]; simp; omega), HW.out⟩
set_option maxHeartbeats 1000000 in
theorem all_Expr {w0 : World} {va : Value} {l : List Ex} {f : Ex → Bool} {lo hi : Int} (ha : SliceAt w0 (ExAt w0) va l) {rv : Value}
    (hf : ∀ x ∈ l, ∀ L, ExAt w0 L x → ∀ w, Below w0.heap.size w0 w → Calls Tryz.prog 187 #[rv, .agg L.toArray] w (BoolPost (f x) w)) :
    ∀ w, Below w0.heap.size w0 w → Calls Tryz.prog 204 #[va, .int .i64 lo, .int .i64 hi, .func (.func 187) #[rv] #[]] w (BoolPost (decide (lo ≤ l.length) && decide ((l.length : Int) ≤ hi) && l.all f) w) := by
  intro w hw; obtain ⟨A, ca, rfl, hca, hma, hea⟩ := ha; have hla : l.length ≤ 9223372036854775807 := (by unfold maxLen at hma; omega); have HW0 := Lib.hid hw; have hsz0 := hw.size; clear hw hca hma; by_cases hlo : (l.length : Int) < lo
  · go_enter Tryz.func204, Tryz.ntmps204
    go_wp2_with fail
    go_ret; exact ⟨ret_bool (by simp; omega), Below.refl _ _⟩
  · by_cases hhi : hi < (l.length : Int)
    · go_enter Tryz.func204, Tryz.ntmps204
      go_wp2_with fail
      go_ret; exact ⟨ret_bool (by simp; omega), Below.refl _ _⟩
    · go_enter Tryz.func204, Tryz.ntmps204
      go_wp2_with fail
      go_loopg [23] l.length (fun g v wr => ∃ k : Nat, k + g = l.length ∧ v = .int .i64 k ∧ AllTo f l k ∧ Below w.heap.size w wr)
      case atStart => exact ⟨0, by omega, rfl, AllTo.zero, Below.refl _ _⟩
      case round =>
        obtain ⟨k, hkg, rfl, hto, hbw⟩ := hrel; have HK := Lib.hid hkg; have HW := Lib.hid hbw; have HT := Lib.hid hto; have hszw := hbw.size; have hkl : k ≤ l.length := (by omega); clear hkg hbw hto; by_cases hlt : k < l.length
        · obtain ⟨x, hx⟩ : ∃ x, l[k]? = some x := ⟨_, List.getElem?_eq_getElem hlt⟩; obtain ⟨L, hEL, hRL⟩ := hea k x hx; obtain ⟨po0, ps1, po2, pA3, pn3, pk3, pA4, pn4, pk4, rfl⟩ := ExAt.shape hRL; have HF := Lib.hid (hf x (List.mem_of_getElem? hx) _ hRL); clear hRL; have HB0 := Lib.hid (HW0.out.trans (HW.out.mono hsz0)); have HX := Lib.hid hx; obtain ⟨a, rfl, hab, haa, d0, d1, d2, d3, d4⟩ := elem5 (hEL.under HB0.out); clear hEL hea hf hx; cases hfx : f x
          · have HFX := Lib.hid hfx; rw [hfx] at HF; clear hfx; go_wp2_with (go_at_call 187; refine (HF.out _ (HB0.out.alloc (by omega) _)).mono ?_; rintro e w1 ⟨rfl, hb1⟩)
            go_ret; exact ⟨ret_bool (by rw [all_no HX.out HFX.out]), (HW.out.alloc (by omega) _).trans (hb1.mono (by simp; omega))⟩
          · have HFX := Lib.hid hfx; rw [hfx] at HF; clear hfx; go_wp2_with (go_at_call 187; refine (HF.out _ (HB0.out.alloc (by omega) _)).mono ?_; rintro e w1 ⟨rfl, hb1⟩)
            go_roundg (l.length - (k + 1))
            case measure => have := HK.out; omega
            case rel => exact ⟨k + 1, by omega, by go_num, HT.out.succ HX.out HFX.out, (HW.out.alloc (by omega) _).trans (hb1.mono (by simp; omega))⟩
        · have hke : k = l.length := by omega
          have HKE := Lib.hid hke; clear hke; go_wp2_with fail
          go_ret; exact ⟨ret_bool (by rw [HT.out.all HKE.out]; simp; omega), HW.out⟩
set_option maxHeartbeats 1000000 in
theorem all_Eq {w0 : World} {va : Value} {l : List QEq} {f : QEq → Bool} {lo hi : Int} (ha : SliceAt w0 (EqAt w0) va l) {rv : Value}
    (hf : ∀ x ∈ l, ∀ L, EqAt w0 L x → ∀ w, Below w0.heap.size w0 w → Calls Tryz.prog 168 #[rv, .agg L.toArray] w (BoolPost (f x) w)) :
    ∀ w, Below w0.heap.size w0 w → Calls Tryz.prog 190 #[va, .int .i64 lo, .int .i64 hi, .func (.func 168) #[rv] #[]] w (BoolPost (decide (lo ≤ l.length) && decide ((l.length : Int) ≤ hi) && l.all f) w) := by
  intro w hw; obtain ⟨A, ca, rfl, hca, hma, hea⟩ := ha; have hla : l.length ≤ 9223372036854775807 := (by unfold maxLen at hma; omega); have HW0 := Lib.hid hw; have hsz0 := hw.size; clear hw hca hma; by_cases hlo : (l.length : Int) < lo
  · go_enter Tryz.func190, Tryz.ntmps190
    go_wp2_with fail
    go_ret; exact ⟨ret_bool (by simp; omega), Below.refl _ _⟩
  · by_cases hhi : hi < (l.length : Int)
    · go_enter Tryz.func190, Tryz.ntmps190
      go_wp2_with fail
      go_ret; exact ⟨ret_bool (by simp; omega), Below.refl _ _⟩
    · go_enter Tryz.func190, Tryz.ntmps190
      go_wp2_with fail
      go_loopg [23] l.length (fun g v wr => ∃ k : Nat, k + g = l.length ∧ v = .int .i64 k ∧ AllTo f l k ∧ Below w.heap.size w wr)
      case atStart => exact ⟨0, by omega, rfl, AllTo.zero, Below.refl _ _⟩
      case round =>
        obtain ⟨k, hkg, rfl, hto, hbw⟩ := hrel; have HK := Lib.hid hkg; have HW := Lib.hid hbw; have HT := Lib.hid hto; have hszw := hbw.size; have hkl : k ≤ l.length := (by omega); clear hkg hbw hto; by_cases hlt : k < l.length
        · obtain ⟨x, hx⟩ : ∃ x, l[k]? = some x := ⟨_, List.getElem?_eq_getElem hlt⟩; obtain ⟨L, hEL, hRL⟩ := hea k x hx; obtain ⟨pA0, pn0, pk0, po1, ps2, po3, pA4, pn4, pk4, pA5, pn5, pk5, rfl⟩ := EqAt.shape hRL; have HF := Lib.hid (hf x (List.mem_of_getElem? hx) _ hRL); clear hRL; have HB0 := Lib.hid (HW0.out.trans (HW.out.mono hsz0)); have HX := Lib.hid hx; obtain ⟨a, rfl, hab, haa, d0, d1, d2, d3, d4, d5⟩ := elem6 (hEL.under HB0.out); clear hEL hea hf hx; cases hfx : f x
          · have HFX := Lib.hid hfx; rw [hfx] at HF; clear hfx; go_wp2_with (go_at_call 168; refine (HF.out _ (HB0.out.alloc (by omega) _)).mono ?_; rintro e w1 ⟨rfl, hb1⟩)
            go_ret; exact ⟨ret_bool (by rw [all_no HX.out HFX.out]), (HW.out.alloc (by omega) _).trans (hb1.mono (by simp; omega))⟩
          · have HFX := Lib.hid hfx; rw [hfx] at HF; clear hfx; go_wp2_with (go_at_call 168; refine (HF.out _ (HB0.out.alloc (by omega) _)).mono ?_; rintro e w1 ⟨rfl, hb1⟩)
            go_roundg (l.length - (k + 1))
            case measure => have := HK.out; omega
            case rel => exact ⟨k + 1, by omega, by go_num, HT.out.succ HX.out HFX.out, (HW.out.alloc (by omega) _).trans (hb1.mono (by simp; omega))⟩
        · have hke : k = l.length := by omega
          have HKE := Lib.hid hke; clear hke; go_wp2_with fail
          go_ret; exact ⟨ret_bool (by rw [HT.out.all HKE.out]; simp; omega), HW.out⟩
set_option maxHeartbeats 1000000 in
theorem all_Way {w0 : World} {va : Value} {l : List QWay} {f : QWay → Bool} {lo hi : Int} (ha : SliceAt w0 (WayAt w0) va l) {rv : Value}
    (hf : ∀ x ∈ l, ∀ L, WayAt w0 L x → ∀ w, Below w0.heap.size w0 w → Calls Tryz.prog 192 #[rv, .agg L.toArray] w (BoolPost (f x) w)) :
    ∀ w, Below w0.heap.size w0 w → Calls Tryz.prog 191 #[va, .int .i64 lo, .int .i64 hi, .func (.func 192) #[rv] #[]] w (BoolPost (decide (lo ≤ l.length) && decide ((l.length : Int) ≤ hi) && l.all f) w) := by
  intro w hw; obtain ⟨A, ca, rfl, hca, hma, hea⟩ := ha; have hla : l.length ≤ 9223372036854775807 := (by unfold maxLen at hma; omega); have HW0 := Lib.hid hw; have hsz0 := hw.size; clear hw hca hma; by_cases hlo : (l.length : Int) < lo
  · go_enter Tryz.func191, Tryz.ntmps191
    go_wp2_with fail
    go_ret; exact ⟨ret_bool (by simp; omega), Below.refl _ _⟩
  · by_cases hhi : hi < (l.length : Int)
    · go_enter Tryz.func191, Tryz.ntmps191
      go_wp2_with fail
      go_ret; exact ⟨ret_bool (by simp; omega), Below.refl _ _⟩
    · go_enter Tryz.func191, Tryz.ntmps191
      go_wp2_with fail
      go_loopg [23] l.length (fun g v wr => ∃ k : Nat, k + g = l.length ∧ v = .int .i64 k ∧ AllTo f l k ∧ Below w.heap.size w wr)
      case atStart => exact ⟨0, by omega, rfl, AllTo.zero, Below.refl _ _⟩
      case round =>
        obtain ⟨k, hkg, rfl, hto, hbw⟩ := hrel; have HK := Lib.hid hkg; have HW := Lib.hid hbw; have HT := Lib.hid hto; have hszw := hbw.size; have hkl : k ≤ l.length := (by omega); clear hkg hbw hto; by_cases hlt : k < l.length
        · obtain ⟨x, hx⟩ : ∃ x, l[k]? = some x := ⟨_, List.getElem?_eq_getElem hlt⟩; obtain ⟨L, hEL, hRL⟩ := hea k x hx; obtain ⟨po0, ps1, po2, pA3, pn3, pk3, pA4, pn4, pk4, ps5, rfl⟩ := WayAt.shape hRL; have HF := Lib.hid (hf x (List.mem_of_getElem? hx) _ hRL); clear hRL; have HB0 := Lib.hid (HW0.out.trans (HW.out.mono hsz0)); have HX := Lib.hid hx; obtain ⟨a, rfl, hab, haa, d0, d1, d2, d3, d4, d5⟩ := elem6 (hEL.under HB0.out); clear hEL hea hf hx; cases hfx : f x
          · have HFX := Lib.hid hfx; rw [hfx] at HF; clear hfx; go_wp2_with (go_at_call 192; refine (HF.out _ (HB0.out.alloc (by omega) _)).mono ?_; rintro e w1 ⟨rfl, hb1⟩)
            go_ret; exact ⟨ret_bool (by rw [all_no HX.out HFX.out]), (HW.out.alloc (by omega) _).trans (hb1.mono (by simp; omega))⟩
          · have HFX := Lib.hid hfx; rw [hfx] at HF; clear hfx; go_wp2_with (go_at_call 192; refine (HF.out _ (HB0.out.alloc (by omega) _)).mono ?_; rintro e w1 ⟨rfl, hb1⟩)
            go_roundg (l.length - (k + 1))
            case measure => have := HK.out; omega
            case rel => exact ⟨k + 1, by omega, by go_num, HT.out.succ HX.out HFX.out, (HW.out.alloc (by omega) _).trans (hb1.mono (by simp; omega))⟩
        · have hke : k = l.length := by omega
          have HKE := Lib.hid hke; clear hke; go_wp2_with fail
          go_ret; exact ⟨ret_bool (by rw [HT.out.all HKE.out]; simp; omega), HW.out⟩
set_option maxHeartbeats 1000000 in
theorem all_State {w0 : World} {va : Value} {l : List QState} {f : QState → Bool} {lo hi : Int} (ha : SliceAt w0 (StateAt w0) va l) {rv : Value}
    (hf : ∀ x ∈ l, ∀ L, StateAt w0 L x → ∀ w, Below w0.heap.size w0 w → Calls Tryz.prog 171 #[rv, .agg L.toArray] w (BoolPost (f x) w)) :
    ∀ w, Below w0.heap.size w0 w → Calls Tryz.prog 170 #[va, .int .i64 lo, .int .i64 hi, .func (.func 171) #[rv] #[]] w (BoolPost (decide (lo ≤ l.length) && decide ((l.length : Int) ≤ hi) && l.all f) w) := by
  intro w hw; obtain ⟨A, ca, rfl, hca, hma, hea⟩ := ha; have hla : l.length ≤ 9223372036854775807 := (by unfold maxLen at hma; omega); have HW0 := Lib.hid hw; have hsz0 := hw.size; clear hw hca hma; by_cases hlo : (l.length : Int) < lo
  · go_enter Tryz.func170, Tryz.ntmps170
    go_wp2_with fail
    go_ret; exact ⟨ret_bool (by simp; omega), Below.refl _ _⟩
  · by_cases hhi : hi < (l.length : Int)
    · go_enter Tryz.func170, Tryz.ntmps170
      go_wp2_with fail
      go_ret; exact ⟨ret_bool (by simp; omega), Below.refl _ _⟩
    · go_enter Tryz.func170, Tryz.ntmps170
      go_wp2_with fail
      go_loopg [23] l.length (fun g v wr => ∃ k : Nat, k + g = l.length ∧ v = .int .i64 k ∧ AllTo f l k ∧ Below w.heap.size w wr)
      case atStart => exact ⟨0, by omega, rfl, AllTo.zero, Below.refl _ _⟩
      case round =>
        obtain ⟨k, hkg, rfl, hto, hbw⟩ := hrel; have HK := Lib.hid hkg; have HW := Lib.hid hbw; have HT := Lib.hid hto; have hszw := hbw.size; have hkl : k ≤ l.length := (by omega); clear hkg hbw hto; by_cases hlt : k < l.length
        · obtain ⟨x, hx⟩ : ∃ x, l[k]? = some x := ⟨_, List.getElem?_eq_getElem hlt⟩; obtain ⟨L, hEL, hRL⟩ := hea k x hx; obtain ⟨ps0, pA1, pn1, pk1, pA2, pn2, pk2, rfl⟩ := StateAt.shape hRL; have HF := Lib.hid (hf x (List.mem_of_getElem? hx) _ hRL); clear hRL; have HB0 := Lib.hid (HW0.out.trans (HW.out.mono hsz0)); have HX := Lib.hid hx; obtain ⟨a, rfl, hab, haa, d0, d1, d2⟩ := elem3 (hEL.under HB0.out); clear hEL hea hf hx; cases hfx : f x
          · have HFX := Lib.hid hfx; rw [hfx] at HF; clear hfx; go_wp2_with (go_at_call 171; refine (HF.out _ (HB0.out.alloc (by omega) _)).mono ?_; rintro e w1 ⟨rfl, hb1⟩)
            go_ret; exact ⟨ret_bool (by rw [all_no HX.out HFX.out]), (HW.out.alloc (by omega) _).trans (hb1.mono (by simp; omega))⟩
          · have HFX := Lib.hid hfx; rw [hfx] at HF; clear hfx; go_wp2_with (go_at_call 171; refine (HF.out _ (HB0.out.alloc (by omega) _)).mono ?_; rintro e w1 ⟨rfl, hb1⟩)
            go_roundg (l.length - (k + 1))
            case measure => have := HK.out; omega
            case rel => exact ⟨k + 1, by omega, by go_num, HT.out.succ HX.out HFX.out, (HW.out.alloc (by omega) _).trans (hb1.mono (by simp; omega))⟩
        · have hke : k = l.length := by omega
          have HKE := Lib.hid hke; clear hke; go_wp2_with fail
          go_ret; exact ⟨ret_bool (by rw [HT.out.all HKE.out]; simp; omega), HW.out⟩
set_option maxHeartbeats 1000000 in
theorem all_Item {w0 : World} {va : Value} {l : List QItem} {f : QItem → Bool} {lo hi : Int} (ha : SliceAt w0 (ItemAt w0) va l) {rv : Value}
    (hf : ∀ x ∈ l, ∀ L, ItemAt w0 L x → ∀ w, Below w0.heap.size w0 w → Calls Tryz.prog 145 #[rv, .agg L.toArray] w (BoolPost (f x) w)) :
    ∀ w, Below w0.heap.size w0 w → Calls Tryz.prog 144 #[va, .int .i64 lo, .int .i64 hi, .func (.func 145) #[rv] #[]] w (BoolPost (decide (lo ≤ l.length) && decide ((l.length : Int) ≤ hi) && l.all f) w) := by
  intro w hw; obtain ⟨A, ca, rfl, hca, hma, hea⟩ := ha; have hla : l.length ≤ 9223372036854775807 := (by unfold maxLen at hma; omega); have HW0 := Lib.hid hw; have hsz0 := hw.size; clear hw hca hma; by_cases hlo : (l.length : Int) < lo
  · go_enter Tryz.func144, Tryz.ntmps144
    go_wp2_with fail
    go_ret; exact ⟨ret_bool (by simp; omega), Below.refl _ _⟩
  · by_cases hhi : hi < (l.length : Int)
    · go_enter Tryz.func144, Tryz.ntmps144
      go_wp2_with fail
      go_ret; exact ⟨ret_bool (by simp; omega), Below.refl _ _⟩
    · go_enter Tryz.func144, Tryz.ntmps144
      go_wp2_with fail
      go_loopg [23] l.length (fun g v wr => ∃ k : Nat, k + g = l.length ∧ v = .int .i64 k ∧ AllTo f l k ∧ Below w.heap.size w wr)
      case atStart => exact ⟨0, by omega, rfl, AllTo.zero, Below.refl _ _⟩
      case round =>
        obtain ⟨k, hkg, rfl, hto, hbw⟩ := hrel; have HK := Lib.hid hkg; have HW := Lib.hid hbw; have HT := Lib.hid hto; have hszw := hbw.size; have hkl : k ≤ l.length := (by omega); clear hkg hbw hto; by_cases hlt : k < l.length
        · obtain ⟨x, hx⟩ : ∃ x, l[k]? = some x := ⟨_, List.getElem?_eq_getElem hlt⟩; obtain ⟨L, hEL, hRL⟩ := hea k x hx; obtain ⟨pA0, pn0, pk0, po1, ps2, po3, pA4, pn4, pk4, pA5, pn5, pk5, pA6, pn6, pk6, rfl⟩ := ItemAt.shape hRL; have HF := Lib.hid (hf x (List.mem_of_getElem? hx) _ hRL); clear hRL; have HB0 := Lib.hid (HW0.out.trans (HW.out.mono hsz0)); have HX := Lib.hid hx; obtain ⟨a, rfl, hab, haa, d0, d1, d2, d3, d4, d5, d6⟩ := elem7 (hEL.under HB0.out); clear hEL hea hf hx; cases hfx : f x
          · have HFX := Lib.hid hfx; rw [hfx] at HF; clear hfx; go_wp2_with (go_at_call 145; refine (HF.out _ (HB0.out.alloc (by omega) _)).mono ?_; rintro e w1 ⟨rfl, hb1⟩)
            go_ret; exact ⟨ret_bool (by rw [all_no HX.out HFX.out]), (HW.out.alloc (by omega) _).trans (hb1.mono (by simp; omega))⟩
          · have HFX := Lib.hid hfx; rw [hfx] at HF; clear hfx; go_wp2_with (go_at_call 145; refine (HF.out _ (HB0.out.alloc (by omega) _)).mono ?_; rintro e w1 ⟨rfl, hb1⟩)
            go_roundg (l.length - (k + 1))
            case measure => have := HK.out; omega
            case rel => exact ⟨k + 1, by omega, by go_num, HT.out.succ HX.out HFX.out, (HW.out.alloc (by omega) _).trans (hb1.mono (by simp; omega))⟩
        · have hke : k = l.length := by omega
          have HKE := Lib.hid hke; clear hke; go_wp2_with fail
          go_ret; exact ⟨ret_bool (by rw [HT.out.all HKE.out]; simp; omega), HW.out⟩
set_option maxHeartbeats 1000000 in
theorem all_Enum {w0 : World} {va : Value} {l : List QEnum} {f : QEnum → Bool} {lo hi : Int} (ha : SliceAt w0 (EnumAt w0) va l) {rv : Value}
    (hf : ∀ x ∈ l, ∀ L, EnumAt w0 L x → ∀ w, Below w0.heap.size w0 w → Calls Tryz.prog 98 #[rv, .agg L.toArray] w (BoolPost (f x) w)) :
    ∀ w, Below w0.heap.size w0 w → Calls Tryz.prog 97 #[va, .int .i64 lo, .int .i64 hi, .func (.func 98) #[rv] #[]] w (BoolPost (decide (lo ≤ l.length) && decide ((l.length : Int) ≤ hi) && l.all f) w) := by
  intro w hw; obtain ⟨A, ca, rfl, hca, hma, hea⟩ := ha; have hla : l.length ≤ 9223372036854775807 := (by unfold maxLen at hma; omega); have HW0 := Lib.hid hw; have hsz0 := hw.size; clear hw hca hma; by_cases hlo : (l.length : Int) < lo
  · go_enter Tryz.func97, Tryz.ntmps97
    go_wp2_with fail
    go_ret; exact ⟨ret_bool (by simp; omega), Below.refl _ _⟩
  · by_cases hhi : hi < (l.length : Int)
    · go_enter Tryz.func97, Tryz.ntmps97
      go_wp2_with fail
      go_ret; exact ⟨ret_bool (by simp; omega), Below.refl _ _⟩
    · go_enter Tryz.func97, Tryz.ntmps97
      go_wp2_with fail
      go_loopg [23] l.length (fun g v wr => ∃ k : Nat, k + g = l.length ∧ v = .int .i64 k ∧ AllTo f l k ∧ Below w.heap.size w wr)
      case atStart => exact ⟨0, by omega, rfl, AllTo.zero, Below.refl _ _⟩
      case round =>
        obtain ⟨k, hkg, rfl, hto, hbw⟩ := hrel; have HK := Lib.hid hkg; have HW := Lib.hid hbw; have HT := Lib.hid hto; have hszw := hbw.size; have hkl : k ≤ l.length := (by omega); clear hkg hbw hto; by_cases hlt : k < l.length
        · obtain ⟨x, hx⟩ : ∃ x, l[k]? = some x := ⟨_, List.getElem?_eq_getElem hlt⟩; obtain ⟨L, hEL, hRL⟩ := hea k x hx; obtain ⟨ps0, pA1, pn1, pk1, rfl⟩ := EnumAt.shape hRL; have HF := Lib.hid (hf x (List.mem_of_getElem? hx) _ hRL); clear hRL; have HB0 := Lib.hid (HW0.out.trans (HW.out.mono hsz0)); have HX := Lib.hid hx; obtain ⟨a, rfl, hab, haa, d0, d1⟩ := elem2 (hEL.under HB0.out); clear hEL hea hf hx; cases hfx : f x
          · have HFX := Lib.hid hfx; rw [hfx] at HF; clear hfx; go_wp2_with (go_at_call 98; refine (HF.out _ (HB0.out.alloc (by omega) _)).mono ?_; rintro e w1 ⟨rfl, hb1⟩)
            go_ret; exact ⟨ret_bool (by rw [all_no HX.out HFX.out]), (HW.out.alloc (by omega) _).trans (hb1.mono (by simp; omega))⟩
          · have HFX := Lib.hid hfx; rw [hfx] at HF; clear hfx; go_wp2_with (go_at_call 98; refine (HF.out _ (HB0.out.alloc (by omega) _)).mono ?_; rintro e w1 ⟨rfl, hb1⟩)
            go_roundg (l.length - (k + 1))
            case measure => have := HK.out; omega
            case rel => exact ⟨k + 1, by omega, by go_num, HT.out.succ HX.out HFX.out, (HW.out.alloc (by omega) _).trans (hb1.mono (by simp; omega))⟩
        · have hke : k = l.length := by omega
          have HKE := Lib.hid hke; clear hke; go_wp2_with fail
          go_ret; exact ⟨ret_bool (by rw [HT.out.all HKE.out]; simp; omega), HW.out⟩
set_option maxHeartbeats 1000000 in
theorem all_Node {w0 : World} {va : Value} {l : List QNode} {f : QNode → Bool} {lo hi : Int} (ha : SliceAt w0 (NodeAt w0) va l) {rv : Value}
    (hf : ∀ x ∈ l, ∀ L, NodeAt w0 L x → ∀ w, Below w0.heap.size w0 w → Calls Tryz.prog 100 #[rv, .agg L.toArray] w (BoolPost (f x) w)) :
    ∀ w, Below w0.heap.size w0 w → Calls Tryz.prog 99 #[va, .int .i64 lo, .int .i64 hi, .func (.func 100) #[rv] #[]] w (BoolPost (decide (lo ≤ l.length) && decide ((l.length : Int) ≤ hi) && l.all f) w) := by
  intro w hw; obtain ⟨A, ca, rfl, hca, hma, hea⟩ := ha; have hla : l.length ≤ 9223372036854775807 := (by unfold maxLen at hma; omega); have HW0 := Lib.hid hw; have hsz0 := hw.size; clear hw hca hma; by_cases hlo : (l.length : Int) < lo
  · go_enter Tryz.func99, Tryz.ntmps99
    go_wp2_with fail
    go_ret; exact ⟨ret_bool (by simp; omega), Below.refl _ _⟩
  · by_cases hhi : hi < (l.length : Int)
    · go_enter Tryz.func99, Tryz.ntmps99
      go_wp2_with fail
      go_ret; exact ⟨ret_bool (by simp; omega), Below.refl _ _⟩
    · go_enter Tryz.func99, Tryz.ntmps99
      go_wp2_with fail
      go_loopg [23] l.length (fun g v wr => ∃ k : Nat, k + g = l.length ∧ v = .int .i64 k ∧ AllTo f l k ∧ Below w.heap.size w wr)
      case atStart => exact ⟨0, by omega, rfl, AllTo.zero, Below.refl _ _⟩
      case round =>
        obtain ⟨k, hkg, rfl, hto, hbw⟩ := hrel; have HK := Lib.hid hkg; have HW := Lib.hid hbw; have HT := Lib.hid hto; have hszw := hbw.size; have hkl : k ≤ l.length := (by omega); clear hkg hbw hto; by_cases hlt : k < l.length
        · obtain ⟨x, hx⟩ : ∃ x, l[k]? = some x := ⟨_, List.getElem?_eq_getElem hlt⟩; obtain ⟨L, hEL, hRL⟩ := hea k x hx; obtain ⟨ps0, pA1, pn1, pk1, pA2, pn2, pk2, pA3, pn3, pk3, pA4, pn4, pk4, rfl⟩ := NodeAt.shape hRL; have HF := Lib.hid (hf x (List.mem_of_getElem? hx) _ hRL); clear hRL; have HB0 := Lib.hid (HW0.out.trans (HW.out.mono hsz0)); have HX := Lib.hid hx; obtain ⟨a, rfl, hab, haa, d0, d1, d2, d3, d4⟩ := elem5 (hEL.under HB0.out); clear hEL hea hf hx; cases hfx : f x
          · have HFX := Lib.hid hfx; rw [hfx] at HF; clear hfx; go_wp2_with (go_at_call 100; refine (HF.out _ (HB0.out.alloc (by omega) _)).mono ?_; rintro e w1 ⟨rfl, hb1⟩)
            go_ret; exact ⟨ret_bool (by rw [all_no HX.out HFX.out]), (HW.out.alloc (by omega) _).trans (hb1.mono (by simp; omega))⟩
          · have HFX := Lib.hid hfx; rw [hfx] at HF; clear hfx; go_wp2_with (go_at_call 100; refine (HF.out _ (HB0.out.alloc (by omega) _)).mono ?_; rintro e w1 ⟨rfl, hb1⟩)
            go_roundg (l.length - (k + 1))
            case measure => have := HK.out; omega
            case rel => exact ⟨k + 1, by omega, by go_num, HT.out.succ HX.out HFX.out, (HW.out.alloc (by omega) _).trans (hb1.mono (by simp; omega))⟩
        · have hke : k = l.length := by omega
          have HKE := Lib.hid hke; clear hke; go_wp2_with fail
          go_ret; exact ⟨ret_bool (by rw [HT.out.all HKE.out]; simp; omega), HW.out⟩
end Go.Proofs.YtlhmdjhfmhkllaaGreatDoor
