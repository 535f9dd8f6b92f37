/-
  Contracts of slices.EqualFunc at the seven types of a tree, with the program's own comparisons.
-/
import Derived.Test.YtjelhdjckdcbaaaGreatDoorTreeMem
namespace Go.Proofs.YtjelhdjckdcbaaaGreatDoor
open Go.RowKit

set_option maxHeartbeats 1000000 in
theorem eqF_Expr {w0 : World} {va vb : Value} {la lb : List Ex} (ha : SliceAt w0 (ExAt w0) va la) (hb : SliceAt w0 (ExAt w0) vb lb)
    (hf : ∀ x ∈ la, ∀ y ∈ lb, ∀ L M, ExAt w0 L x → ExAt w0 M y → ∀ w, Below w0.heap.size w0 w → Calls Tryz.prog 13 #[.agg L.toArray, .agg M.toArray] w (BoolPost (sameX x y) w)) :
    ∀ w, Below w0.heap.size w0 w → Calls Tryz.prog 27 #[va, vb, .func (.func 13) #[] #[]] w (BoolPost (sameBy sameX la lb) w) := by
  intro w hw
  obtain ⟨A, ca, rfl, hca, hma, hea⟩ := ha
  obtain ⟨B, cb, rfl, hcb, hmb, heb⟩ := hb
  have hla : la.length ≤ 9223372036854775807 := by unfold maxLen at hma; omega
  have HW0 := Lib.hid hw
  have hsz0 := hw.size
  clear hw hca hma hcb hmb
  by_cases hlen : la.length = lb.length
  · have hd : ((la.length : Int) != (lb.length : Int)) = false := by simp [hlen]
    have HL := Lib.hid hlen
    clear hlen
    go_enter Tryz.func27, Tryz.ntmps27
    go_wp2_with fail
    go_loopg [17] la.length (fun g v wr => ∃ k : Nat, k + g = la.length ∧ v = .int .i64 k ∧ SameTo sameX la lb k ∧ Below w.heap.size w wr)
    case atStart => exact ⟨0, by omega, rfl, SameTo.zero, Below.refl _ _⟩
    case round =>
      obtain ⟨k, hkg, rfl, hto, hbw⟩ := hrel
      have HK := Lib.hid hkg
      have HW := Lib.hid hbw
      have HT := Lib.hid hto
      have hszw := hbw.size
      have hkl : k ≤ la.length := by omega
      clear hkg hbw hto
      by_cases hlt : k < la.length
      · obtain ⟨x, hx⟩ : ∃ x, la[k]? = some x := ⟨_, List.getElem?_eq_getElem hlt⟩
        have hltb : k < lb.length := by rw [← HL.out]; exact hlt
        obtain ⟨y, hy⟩ : ∃ y, lb[k]? = some y := ⟨_, List.getElem?_eq_getElem hltb⟩
        obtain ⟨L, hEL, hRL⟩ := hea k x hx
        obtain ⟨M, hEM, hRM⟩ := heb k y hy
        obtain ⟨po0, ps1, po2, pA3, pn3, pk3, pA4, pn4, pk4, rfl⟩ := ExAt.shape hRL
        obtain ⟨qo0, qs1, qo2, qA3, qn3, qk3, qA4, qn4, qk4, rfl⟩ := ExAt.shape hRM
        have HF := Lib.hid (hf x (List.mem_of_getElem? hx) y (List.mem_of_getElem? hy) _ _ hRL hRM)
        have HB0 := Lib.hid (HW0.out.trans (HW.out.mono hsz0))
        have HX := Lib.hid hx
        have HY := Lib.hid hy
        obtain ⟨a, rfl, hab, haa, d0, d1, d2, d3, d4⟩ := elem5 (hEL.under HB0.out)
        obtain ⟨b, rfl, hbb, hbc, e0, e1, e2, e3, e4⟩ := elem5 (hEM.under HB0.out)
        clear hRL hRM hEL hEM hea heb hf hx hy
        cases hfx : sameX x y
        · have HFX := Lib.hid hfx
          rw [hfx] at HF
          clear hfx
          go_wp2_with (go_at_call 13; refine (HF.out _ ((HB0.out.alloc (by omega) _).alloc (by simp; omega) _)).mono ?_; rintro e w1 ⟨rfl, hb1⟩)
          go_ret
          exact ⟨ret_bool (sameBy_no HX.out HY.out HFX.out).symm, ((HW.out.alloc (by omega) _).alloc (by simp; omega) _).trans (hb1.mono (by simp; omega))⟩
        · have HFX := Lib.hid hfx
          rw [hfx] at HF
          clear hfx
          go_wp2_with (go_at_call 13; refine (HF.out _ ((HB0.out.alloc (by omega) _).alloc (by simp; omega) _)).mono ?_; rintro e w1 ⟨rfl, hb1⟩)
          go_roundg (la.length - (k + 1))
          case measure => have := HK.out; omega
          case rel => exact ⟨k + 1, by omega, by go_num, HT.out.succ HX.out HY.out HFX.out, ((HW.out.alloc (by omega) _).alloc (by simp; omega) _).trans (hb1.mono (by simp; omega))⟩
      · have hke : k = la.length := by omega
        have HKE := Lib.hid hke
        clear hke
        go_wp2_with fail
        go_ret
        exact ⟨ret_bool (HT.out.all HL.out HKE.out).symm, HW.out⟩
  · have hd : ((la.length : Int) != (lb.length : Int)) = true := by simp; omega
    have HL := Lib.hid hlen
    clear hlen
    go_enter Tryz.func27, Tryz.ntmps27
    go_wp2_with fail
    go_ret
    exact ⟨ret_bool (sameBy_len HL.out).symm, Below.refl _ _⟩

set_option maxHeartbeats 1000000 in
theorem eqF_Eq {w0 : World} {va vb : Value} {la lb : List QEq} (ha : SliceAt w0 (EqAt w0) va la) (hb : SliceAt w0 (EqAt w0) vb lb)
    (hf : ∀ x ∈ la, ∀ y ∈ lb, ∀ L M, EqAt w0 L x → EqAt w0 M y → ∀ w, Below w0.heap.size w0 w → Calls Tryz.prog 96 #[.agg L.toArray, .agg M.toArray] w (BoolPost (sameQEq x y) w)) :
    ∀ w, Below w0.heap.size w0 w → Calls Tryz.prog 116 #[va, vb, .func (.func 96) #[] #[]] w (BoolPost (sameBy sameQEq la lb) w) := by
  intro w hw
  obtain ⟨A, ca, rfl, hca, hma, hea⟩ := ha
  obtain ⟨B, cb, rfl, hcb, hmb, heb⟩ := hb
  have hla : la.length ≤ 9223372036854775807 := by unfold maxLen at hma; omega
  have HW0 := Lib.hid hw
  have hsz0 := hw.size
  clear hw hca hma hcb hmb
  by_cases hlen : la.length = lb.length
  · have hd : ((la.length : Int) != (lb.length : Int)) = false := by simp [hlen]
    have HL := Lib.hid hlen
    clear hlen
    go_enter Tryz.func116, Tryz.ntmps116
    go_wp2_with fail
    go_loopg [17] la.length (fun g v wr => ∃ k : Nat, k + g = la.length ∧ v = .int .i64 k ∧ SameTo sameQEq la lb k ∧ Below w.heap.size w wr)
    case atStart => exact ⟨0, by omega, rfl, SameTo.zero, Below.refl _ _⟩
    case round =>
      obtain ⟨k, hkg, rfl, hto, hbw⟩ := hrel
      have HK := Lib.hid hkg
      have HW := Lib.hid hbw
      have HT := Lib.hid hto
      have hszw := hbw.size
      have hkl : k ≤ la.length := by omega
      clear hkg hbw hto
      by_cases hlt : k < la.length
      · obtain ⟨x, hx⟩ : ∃ x, la[k]? = some x := ⟨_, List.getElem?_eq_getElem hlt⟩
        have hltb : k < lb.length := by rw [← HL.out]; exact hlt
        obtain ⟨y, hy⟩ : ∃ y, lb[k]? = some y := ⟨_, List.getElem?_eq_getElem hltb⟩
        obtain ⟨L, hEL, hRL⟩ := hea k x hx
        obtain ⟨M, hEM, hRM⟩ := heb k y hy
        obtain ⟨pA0, pn0, pk0, po1, ps2, po3, pA4, pn4, pk4, pA5, pn5, pk5, rfl⟩ := EqAt.shape hRL
        obtain ⟨qA0, qn0, qk0, qo1, qs2, qo3, qA4, qn4, qk4, qA5, qn5, qk5, rfl⟩ := EqAt.shape hRM
        have HF := Lib.hid (hf x (List.mem_of_getElem? hx) y (List.mem_of_getElem? hy) _ _ hRL hRM)
        have HB0 := Lib.hid (HW0.out.trans (HW.out.mono hsz0))
        have HX := Lib.hid hx
        have HY := Lib.hid hy
        obtain ⟨a, rfl, hab, haa, d0, d1, d2, d3, d4, d5⟩ := elem6 (hEL.under HB0.out)
        obtain ⟨b, rfl, hbb, hbc, e0, e1, e2, e3, e4, e5⟩ := elem6 (hEM.under HB0.out)
        clear hRL hRM hEL hEM hea heb hf hx hy
        cases hfx : sameQEq x y
        · have HFX := Lib.hid hfx
          rw [hfx] at HF
          clear hfx
          go_wp2_with (go_at_call 96; refine (HF.out _ ((HB0.out.alloc (by omega) _).alloc (by simp; omega) _)).mono ?_; rintro e w1 ⟨rfl, hb1⟩)
          go_ret
          exact ⟨ret_bool (sameBy_no HX.out HY.out HFX.out).symm, ((HW.out.alloc (by omega) _).alloc (by simp; omega) _).trans (hb1.mono (by simp; omega))⟩
        · have HFX := Lib.hid hfx
          rw [hfx] at HF
          clear hfx
          go_wp2_with (go_at_call 96; refine (HF.out _ ((HB0.out.alloc (by omega) _).alloc (by simp; omega) _)).mono ?_; rintro e w1 ⟨rfl, hb1⟩)
          go_roundg (la.length - (k + 1))
          case measure => have := HK.out; omega
          case rel => exact ⟨k + 1, by omega, by go_num, HT.out.succ HX.out HY.out HFX.out, ((HW.out.alloc (by omega) _).alloc (by simp; omega) _).trans (hb1.mono (by simp; omega))⟩
      · have hke : k = la.length := by omega
        have HKE := Lib.hid hke
        clear hke
        go_wp2_with fail
        go_ret
        exact ⟨ret_bool (HT.out.all HL.out HKE.out).symm, HW.out⟩
  · have hd : ((la.length : Int) != (lb.length : Int)) = true := by simp; omega
    have HL := Lib.hid hlen
    clear hlen
    go_enter Tryz.func116, Tryz.ntmps116
    go_wp2_with fail
    go_ret
    exact ⟨ret_bool (sameBy_len HL.out).symm, Below.refl _ _⟩

set_option maxHeartbeats 1000000 in
theorem eqF_Way {w0 : World} {va vb : Value} {la lb : List QWay} (ha : SliceAt w0 (WayAt w0) va la) (hb : SliceAt w0 (WayAt w0) vb lb)
    (hf : ∀ x ∈ la, ∀ y ∈ lb, ∀ L M, WayAt w0 L x → WayAt w0 M y → ∀ w, Below w0.heap.size w0 w → Calls Tryz.prog 118 #[.agg L.toArray, .agg M.toArray] w (BoolPost (sameQWay x y) w)) :
    ∀ w, Below w0.heap.size w0 w → Calls Tryz.prog 117 #[va, vb, .func (.func 118) #[] #[]] w (BoolPost (sameBy sameQWay la lb) w) := by
  intro w hw
  obtain ⟨A, ca, rfl, hca, hma, hea⟩ := ha
  obtain ⟨B, cb, rfl, hcb, hmb, heb⟩ := hb
  have hla : la.length ≤ 9223372036854775807 := by unfold maxLen at hma; omega
  have HW0 := Lib.hid hw
  have hsz0 := hw.size
  clear hw hca hma hcb hmb
  by_cases hlen : la.length = lb.length
  · have hd : ((la.length : Int) != (lb.length : Int)) = false := by simp [hlen]
    have HL := Lib.hid hlen
    clear hlen
    go_enter Tryz.func117, Tryz.ntmps117
    go_wp2_with fail
    go_loopg [17] la.length (fun g v wr => ∃ k : Nat, k + g = la.length ∧ v = .int .i64 k ∧ SameTo sameQWay la lb k ∧ Below w.heap.size w wr)
    case atStart => exact ⟨0, by omega, rfl, SameTo.zero, Below.refl _ _⟩
    case round =>
      obtain ⟨k, hkg, rfl, hto, hbw⟩ := hrel
      have HK := Lib.hid hkg
      have HW := Lib.hid hbw
      have HT := Lib.hid hto
      have hszw := hbw.size
      have hkl : k ≤ la.length := by omega
      clear hkg hbw hto
      by_cases hlt : k < la.length
      · obtain ⟨x, hx⟩ : ∃ x, la[k]? = some x := ⟨_, List.getElem?_eq_getElem hlt⟩
        have hltb : k < lb.length := by rw [← HL.out]; exact hlt
        obtain ⟨y, hy⟩ : ∃ y, lb[k]? = some y := ⟨_, List.getElem?_eq_getElem hltb⟩
        obtain ⟨L, hEL, hRL⟩ := hea k x hx
        obtain ⟨M, hEM, hRM⟩ := heb k y hy
        obtain ⟨po0, ps1, po2, pA3, pn3, pk3, pA4, pn4, pk4, ps5, rfl⟩ := WayAt.shape hRL
        obtain ⟨qo0, qs1, qo2, qA3, qn3, qk3, qA4, qn4, qk4, qs5, rfl⟩ := WayAt.shape hRM
        have HF := Lib.hid (hf x (List.mem_of_getElem? hx) y (List.mem_of_getElem? hy) _ _ hRL hRM)
        have HB0 := Lib.hid (HW0.out.trans (HW.out.mono hsz0))
        have HX := Lib.hid hx
        have HY := Lib.hid hy
        obtain ⟨a, rfl, hab, haa, d0, d1, d2, d3, d4, d5⟩ := elem6 (hEL.under HB0.out)
        obtain ⟨b, rfl, hbb, hbc, e0, e1, e2, e3, e4, e5⟩ := elem6 (hEM.under HB0.out)
        clear hRL hRM hEL hEM hea heb hf hx hy
        cases hfx : sameQWay x y
        · have HFX := Lib.hid hfx
          rw [hfx] at HF
          clear hfx
          go_wp2_with (go_at_call 118; refine (HF.out _ ((HB0.out.alloc (by omega) _).alloc (by simp; omega) _)).mono ?_; rintro e w1 ⟨rfl, hb1⟩)
          go_ret
          exact ⟨ret_bool (sameBy_no HX.out HY.out HFX.out).symm, ((HW.out.alloc (by omega) _).alloc (by simp; omega) _).trans (hb1.mono (by simp; omega))⟩
        · have HFX := Lib.hid hfx
          rw [hfx] at HF
          clear hfx
          go_wp2_with (go_at_call 118; refine (HF.out _ ((HB0.out.alloc (by omega) _).alloc (by simp; omega) _)).mono ?_; rintro e w1 ⟨rfl, hb1⟩)
          go_roundg (la.length - (k + 1))
          case measure => have := HK.out; omega
          case rel => exact ⟨k + 1, by omega, by go_num, HT.out.succ HX.out HY.out HFX.out, ((HW.out.alloc (by omega) _).alloc (by simp; omega) _).trans (hb1.mono (by simp; omega))⟩
      · have hke : k = la.length := by omega
        have HKE := Lib.hid hke
        clear hke
        go_wp2_with fail
        go_ret
        exact ⟨ret_bool (HT.out.all HL.out HKE.out).symm, HW.out⟩
  · have hd : ((la.length : Int) != (lb.length : Int)) = true := by simp; omega
    have HL := Lib.hid hlen
    clear hlen
    go_enter Tryz.func117, Tryz.ntmps117
    go_wp2_with fail
    go_ret
    exact ⟨ret_bool (sameBy_len HL.out).symm, Below.refl _ _⟩

set_option maxHeartbeats 1000000 in
theorem eqF_State {w0 : World} {va vb : Value} {la lb : List QState} (ha : SliceAt w0 (StateAt w0) va la) (hb : SliceAt w0 (StateAt w0) vb lb)
    (hf : ∀ x ∈ la, ∀ y ∈ lb, ∀ L M, StateAt w0 L x → StateAt w0 M y → ∀ w, Below w0.heap.size w0 w → Calls Tryz.prog 98 #[.agg L.toArray, .agg M.toArray] w (BoolPost (sameQState x y) w)) :
    ∀ w, Below w0.heap.size w0 w → Calls Tryz.prog 97 #[va, vb, .func (.func 98) #[] #[]] w (BoolPost (sameBy sameQState la lb) w) := by
  intro w hw
  obtain ⟨A, ca, rfl, hca, hma, hea⟩ := ha
  obtain ⟨B, cb, rfl, hcb, hmb, heb⟩ := hb
  have hla : la.length ≤ 9223372036854775807 := by unfold maxLen at hma; omega
  have HW0 := Lib.hid hw
  have hsz0 := hw.size
  clear hw hca hma hcb hmb
  by_cases hlen : la.length = lb.length
  · have hd : ((la.length : Int) != (lb.length : Int)) = false := by simp [hlen]
    have HL := Lib.hid hlen
    clear hlen
    go_enter Tryz.func97, Tryz.ntmps97
    go_wp2_with fail
    go_loopg [17] la.length (fun g v wr => ∃ k : Nat, k + g = la.length ∧ v = .int .i64 k ∧ SameTo sameQState la lb k ∧ Below w.heap.size w wr)
    case atStart => exact ⟨0, by omega, rfl, SameTo.zero, Below.refl _ _⟩
    case round =>
      obtain ⟨k, hkg, rfl, hto, hbw⟩ := hrel
      have HK := Lib.hid hkg
      have HW := Lib.hid hbw
      have HT := Lib.hid hto
      have hszw := hbw.size
      have hkl : k ≤ la.length := by omega
      clear hkg hbw hto
      by_cases hlt : k < la.length
      · obtain ⟨x, hx⟩ : ∃ x, la[k]? = some x := ⟨_, List.getElem?_eq_getElem hlt⟩
        have hltb : k < lb.length := by rw [← HL.out]; exact hlt
        obtain ⟨y, hy⟩ : ∃ y, lb[k]? = some y := ⟨_, List.getElem?_eq_getElem hltb⟩
        obtain ⟨L, hEL, hRL⟩ := hea k x hx
        obtain ⟨M, hEM, hRM⟩ := heb k y hy
        obtain ⟨ps0, pA1, pn1, pk1, pA2, pn2, pk2, rfl⟩ := StateAt.shape hRL
        obtain ⟨qs0, qA1, qn1, qk1, qA2, qn2, qk2, rfl⟩ := StateAt.shape hRM
        have HF := Lib.hid (hf x (List.mem_of_getElem? hx) y (List.mem_of_getElem? hy) _ _ hRL hRM)
        have HB0 := Lib.hid (HW0.out.trans (HW.out.mono hsz0))
        have HX := Lib.hid hx
        have HY := Lib.hid hy
        obtain ⟨a, rfl, hab, haa, d0, d1, d2⟩ := elem3 (hEL.under HB0.out)
        obtain ⟨b, rfl, hbb, hbc, e0, e1, e2⟩ := elem3 (hEM.under HB0.out)
        clear hRL hRM hEL hEM hea heb hf hx hy
        cases hfx : sameQState x y
        · have HFX := Lib.hid hfx
          rw [hfx] at HF
          clear hfx
          go_wp2_with (go_at_call 98; refine (HF.out _ ((HB0.out.alloc (by omega) _).alloc (by simp; omega) _)).mono ?_; rintro e w1 ⟨rfl, hb1⟩)
          go_ret
          exact ⟨ret_bool (sameBy_no HX.out HY.out HFX.out).symm, ((HW.out.alloc (by omega) _).alloc (by simp; omega) _).trans (hb1.mono (by simp; omega))⟩
        · have HFX := Lib.hid hfx
          rw [hfx] at HF
          clear hfx
          go_wp2_with (go_at_call 98; refine (HF.out _ ((HB0.out.alloc (by omega) _).alloc (by simp; omega) _)).mono ?_; rintro e w1 ⟨rfl, hb1⟩)
          go_roundg (la.length - (k + 1))
          case measure => have := HK.out; omega
          case rel => exact ⟨k + 1, by omega, by go_num, HT.out.succ HX.out HY.out HFX.out, ((HW.out.alloc (by omega) _).alloc (by simp; omega) _).trans (hb1.mono (by simp; omega))⟩
      · have hke : k = la.length := by omega
        have HKE := Lib.hid hke
        clear hke
        go_wp2_with fail
        go_ret
        exact ⟨ret_bool (HT.out.all HL.out HKE.out).symm, HW.out⟩
  · have hd : ((la.length : Int) != (lb.length : Int)) = true := by simp; omega
    have HL := Lib.hid hlen
    clear hlen
    go_enter Tryz.func97, Tryz.ntmps97
    go_wp2_with fail
    go_ret
    exact ⟨ret_bool (sameBy_len HL.out).symm, Below.refl _ _⟩

set_option maxHeartbeats 1000000 in
theorem eqF_Item {w0 : World} {va vb : Value} {la lb : List QItem} (ha : SliceAt w0 (ItemAt w0) va la) (hb : SliceAt w0 (ItemAt w0) vb lb)
    (hf : ∀ x ∈ la, ∀ y ∈ lb, ∀ L M, ItemAt w0 L x → ItemAt w0 M y → ∀ w, Below w0.heap.size w0 w → Calls Tryz.prog 72 #[.agg L.toArray, .agg M.toArray] w (BoolPost (sameQItem x y) w)) :
    ∀ w, Below w0.heap.size w0 w → Calls Tryz.prog 71 #[va, vb, .func (.func 72) #[] #[]] w (BoolPost (sameBy sameQItem la lb) w) := by
  intro w hw
  obtain ⟨A, ca, rfl, hca, hma, hea⟩ := ha
  obtain ⟨B, cb, rfl, hcb, hmb, heb⟩ := hb
  have hla : la.length ≤ 9223372036854775807 := by unfold maxLen at hma; omega
  have HW0 := Lib.hid hw
  have hsz0 := hw.size
  clear hw hca hma hcb hmb
  by_cases hlen : la.length = lb.length
  · have hd : ((la.length : Int) != (lb.length : Int)) = false := by simp [hlen]
    have HL := Lib.hid hlen
    clear hlen
    go_enter Tryz.func71, Tryz.ntmps71
    go_wp2_with fail
    go_loopg [17] la.length (fun g v wr => ∃ k : Nat, k + g = la.length ∧ v = .int .i64 k ∧ SameTo sameQItem la lb k ∧ Below w.heap.size w wr)
    case atStart => exact ⟨0, by omega, rfl, SameTo.zero, Below.refl _ _⟩
    case round =>
      obtain ⟨k, hkg, rfl, hto, hbw⟩ := hrel
      have HK := Lib.hid hkg
      have HW := Lib.hid hbw
      have HT := Lib.hid hto
      have hszw := hbw.size
      have hkl : k ≤ la.length := by omega
      clear hkg hbw hto
      by_cases hlt : k < la.length
      · obtain ⟨x, hx⟩ : ∃ x, la[k]? = some x := ⟨_, List.getElem?_eq_getElem hlt⟩
        have hltb : k < lb.length := by rw [← HL.out]; exact hlt
        obtain ⟨y, hy⟩ : ∃ y, lb[k]? = some y := ⟨_, List.getElem?_eq_getElem hltb⟩
        obtain ⟨L, hEL, hRL⟩ := hea k x hx
        obtain ⟨M, hEM, hRM⟩ := heb k y hy
        obtain ⟨pA0, pn0, pk0, po1, ps2, po3, pA4, pn4, pk4, pA5, pn5, pk5, pA6, pn6, pk6, rfl⟩ := ItemAt.shape hRL
        obtain ⟨qA0, qn0, qk0, qo1, qs2, qo3, qA4, qn4, qk4, qA5, qn5, qk5, qA6, qn6, qk6, rfl⟩ := ItemAt.shape hRM
        have HF := Lib.hid (hf x (List.mem_of_getElem? hx) y (List.mem_of_getElem? hy) _ _ hRL hRM)
        have HB0 := Lib.hid (HW0.out.trans (HW.out.mono hsz0))
        have HX := Lib.hid hx
        have HY := Lib.hid hy
        obtain ⟨a, rfl, hab, haa, d0, d1, d2, d3, d4, d5, d6⟩ := elem7 (hEL.under HB0.out)
        obtain ⟨b, rfl, hbb, hbc, e0, e1, e2, e3, e4, e5, e6⟩ := elem7 (hEM.under HB0.out)
        clear hRL hRM hEL hEM hea heb hf hx hy
        cases hfx : sameQItem x y
        · have HFX := Lib.hid hfx
          rw [hfx] at HF
          clear hfx
          go_wp2_with (go_at_call 72; refine (HF.out _ ((HB0.out.alloc (by omega) _).alloc (by simp; omega) _)).mono ?_; rintro e w1 ⟨rfl, hb1⟩)
          go_ret
          exact ⟨ret_bool (sameBy_no HX.out HY.out HFX.out).symm, ((HW.out.alloc (by omega) _).alloc (by simp; omega) _).trans (hb1.mono (by simp; omega))⟩
        · have HFX := Lib.hid hfx
          rw [hfx] at HF
          clear hfx
          go_wp2_with (go_at_call 72; refine (HF.out _ ((HB0.out.alloc (by omega) _).alloc (by simp; omega) _)).mono ?_; rintro e w1 ⟨rfl, hb1⟩)
          go_roundg (la.length - (k + 1))
          case measure => have := HK.out; omega
          case rel => exact ⟨k + 1, by omega, by go_num, HT.out.succ HX.out HY.out HFX.out, ((HW.out.alloc (by omega) _).alloc (by simp; omega) _).trans (hb1.mono (by simp; omega))⟩
      · have hke : k = la.length := by omega
        have HKE := Lib.hid hke
        clear hke
        go_wp2_with fail
        go_ret
        exact ⟨ret_bool (HT.out.all HL.out HKE.out).symm, HW.out⟩
  · have hd : ((la.length : Int) != (lb.length : Int)) = true := by simp; omega
    have HL := Lib.hid hlen
    clear hlen
    go_enter Tryz.func71, Tryz.ntmps71
    go_wp2_with fail
    go_ret
    exact ⟨ret_bool (sameBy_len HL.out).symm, Below.refl _ _⟩

set_option maxHeartbeats 1000000 in
theorem eqF_Enum {w0 : World} {va vb : Value} {la lb : List QEnum} (ha : SliceAt w0 (EnumAt w0) va la) (hb : SliceAt w0 (EnumAt w0) vb lb)
    (hf : ∀ x ∈ la, ∀ y ∈ lb, ∀ L M, EnumAt w0 L x → EnumAt w0 M y → ∀ w, Below w0.heap.size w0 w → Calls Tryz.prog 39 #[.agg L.toArray, .agg M.toArray] w (BoolPost (sameQEnum x y) w)) :
    ∀ w, Below w0.heap.size w0 w → Calls Tryz.prog 38 #[va, vb, .func (.func 39) #[] #[]] w (BoolPost (sameBy sameQEnum la lb) w) := by
  intro w hw
  obtain ⟨A, ca, rfl, hca, hma, hea⟩ := ha
  obtain ⟨B, cb, rfl, hcb, hmb, heb⟩ := hb
  have hla : la.length ≤ 9223372036854775807 := by unfold maxLen at hma; omega
  have HW0 := Lib.hid hw
  have hsz0 := hw.size
  clear hw hca hma hcb hmb
  by_cases hlen : la.length = lb.length
  · have hd : ((la.length : Int) != (lb.length : Int)) = false := by simp [hlen]
    have HL := Lib.hid hlen
    clear hlen
    go_enter Tryz.func38, Tryz.ntmps38
    go_wp2_with fail
    go_loopg [17] la.length (fun g v wr => ∃ k : Nat, k + g = la.length ∧ v = .int .i64 k ∧ SameTo sameQEnum la lb k ∧ Below w.heap.size w wr)
    case atStart => exact ⟨0, by omega, rfl, SameTo.zero, Below.refl _ _⟩
    case round =>
      obtain ⟨k, hkg, rfl, hto, hbw⟩ := hrel
      have HK := Lib.hid hkg
      have HW := Lib.hid hbw
      have HT := Lib.hid hto
      have hszw := hbw.size
      have hkl : k ≤ la.length := by omega
      clear hkg hbw hto
      by_cases hlt : k < la.length
      · obtain ⟨x, hx⟩ : ∃ x, la[k]? = some x := ⟨_, List.getElem?_eq_getElem hlt⟩
        have hltb : k < lb.length := by rw [← HL.out]; exact hlt
        obtain ⟨y, hy⟩ : ∃ y, lb[k]? = some y := ⟨_, List.getElem?_eq_getElem hltb⟩
        obtain ⟨L, hEL, hRL⟩ := hea k x hx
        obtain ⟨M, hEM, hRM⟩ := heb k y hy
        obtain ⟨ps0, pA1, pn1, pk1, rfl⟩ := EnumAt.shape hRL
        obtain ⟨qs0, qA1, qn1, qk1, rfl⟩ := EnumAt.shape hRM
        have HF := Lib.hid (hf x (List.mem_of_getElem? hx) y (List.mem_of_getElem? hy) _ _ hRL hRM)
        have HB0 := Lib.hid (HW0.out.trans (HW.out.mono hsz0))
        have HX := Lib.hid hx
        have HY := Lib.hid hy
        obtain ⟨a, rfl, hab, haa, d0, d1⟩ := elem2 (hEL.under HB0.out)
        obtain ⟨b, rfl, hbb, hbc, e0, e1⟩ := elem2 (hEM.under HB0.out)
        clear hRL hRM hEL hEM hea heb hf hx hy
        cases hfx : sameQEnum x y
        · have HFX := Lib.hid hfx
          rw [hfx] at HF
          clear hfx
          go_wp2_with (go_at_call 39; refine (HF.out _ ((HB0.out.alloc (by omega) _).alloc (by simp; omega) _)).mono ?_; rintro e w1 ⟨rfl, hb1⟩)
          go_ret
          exact ⟨ret_bool (sameBy_no HX.out HY.out HFX.out).symm, ((HW.out.alloc (by omega) _).alloc (by simp; omega) _).trans (hb1.mono (by simp; omega))⟩
        · have HFX := Lib.hid hfx
          rw [hfx] at HF
          clear hfx
          go_wp2_with (go_at_call 39; refine (HF.out _ ((HB0.out.alloc (by omega) _).alloc (by simp; omega) _)).mono ?_; rintro e w1 ⟨rfl, hb1⟩)
          go_roundg (la.length - (k + 1))
          case measure => have := HK.out; omega
          case rel => exact ⟨k + 1, by omega, by go_num, HT.out.succ HX.out HY.out HFX.out, ((HW.out.alloc (by omega) _).alloc (by simp; omega) _).trans (hb1.mono (by simp; omega))⟩
      · have hke : k = la.length := by omega
        have HKE := Lib.hid hke
        clear hke
        go_wp2_with fail
        go_ret
        exact ⟨ret_bool (HT.out.all HL.out HKE.out).symm, HW.out⟩
  · have hd : ((la.length : Int) != (lb.length : Int)) = true := by simp; omega
    have HL := Lib.hid hlen
    clear hlen
    go_enter Tryz.func38, Tryz.ntmps38
    go_wp2_with fail
    go_ret
    exact ⟨ret_bool (sameBy_len HL.out).symm, Below.refl _ _⟩

set_option maxHeartbeats 1000000 in
theorem eqF_Node {w0 : World} {va vb : Value} {la lb : List QNode} (ha : SliceAt w0 (NodeAt w0) va la) (hb : SliceAt w0 (NodeAt w0) vb lb)
    (hf : ∀ x ∈ la, ∀ y ∈ lb, ∀ L M, NodeAt w0 L x → NodeAt w0 M y → ∀ w, Below w0.heap.size w0 w → Calls Tryz.prog 41 #[.agg L.toArray, .agg M.toArray] w (BoolPost (sameQNode x y) w)) :
    ∀ w, Below w0.heap.size w0 w → Calls Tryz.prog 40 #[va, vb, .func (.func 41) #[] #[]] w (BoolPost (sameBy sameQNode la lb) w) := by
  intro w hw
  obtain ⟨A, ca, rfl, hca, hma, hea⟩ := ha
  obtain ⟨B, cb, rfl, hcb, hmb, heb⟩ := hb
  have hla : la.length ≤ 9223372036854775807 := by unfold maxLen at hma; omega
  have HW0 := Lib.hid hw
  have hsz0 := hw.size
  clear hw hca hma hcb hmb
  by_cases hlen : la.length = lb.length
  · have hd : ((la.length : Int) != (lb.length : Int)) = false := by simp [hlen]
    have HL := Lib.hid hlen
    clear hlen
    go_enter Tryz.func40, Tryz.ntmps40
    go_wp2_with fail
    go_loopg [17] la.length (fun g v wr => ∃ k : Nat, k + g = la.length ∧ v = .int .i64 k ∧ SameTo sameQNode la lb k ∧ Below w.heap.size w wr)
    case atStart => exact ⟨0, by omega, rfl, SameTo.zero, Below.refl _ _⟩
    case round =>
      obtain ⟨k, hkg, rfl, hto, hbw⟩ := hrel
      have HK := Lib.hid hkg
      have HW := Lib.hid hbw
      have HT := Lib.hid hto
      have hszw := hbw.size
      have hkl : k ≤ la.length := by omega
      clear hkg hbw hto
      by_cases hlt : k < la.length
      · obtain ⟨x, hx⟩ : ∃ x, la[k]? = some x := ⟨_, List.getElem?_eq_getElem hlt⟩
        have hltb : k < lb.length := by rw [← HL.out]; exact hlt
        obtain ⟨y, hy⟩ : ∃ y, lb[k]? = some y := ⟨_, List.getElem?_eq_getElem hltb⟩
        obtain ⟨L, hEL, hRL⟩ := hea k x hx
        obtain ⟨M, hEM, hRM⟩ := heb k y hy
        obtain ⟨ps0, pA1, pn1, pk1, pA2, pn2, pk2, pA3, pn3, pk3, pA4, pn4, pk4, rfl⟩ := NodeAt.shape hRL
        obtain ⟨qs0, qA1, qn1, qk1, qA2, qn2, qk2, qA3, qn3, qk3, qA4, qn4, qk4, rfl⟩ := NodeAt.shape hRM
        have HF := Lib.hid (hf x (List.mem_of_getElem? hx) y (List.mem_of_getElem? hy) _ _ hRL hRM)
        have HB0 := Lib.hid (HW0.out.trans (HW.out.mono hsz0))
        have HX := Lib.hid hx
        have HY := Lib.hid hy
        obtain ⟨a, rfl, hab, haa, d0, d1, d2, d3, d4⟩ := elem5 (hEL.under HB0.out)
        obtain ⟨b, rfl, hbb, hbc, e0, e1, e2, e3, e4⟩ := elem5 (hEM.under HB0.out)
        clear hRL hRM hEL hEM hea heb hf hx hy
        cases hfx : sameQNode x y
        · have HFX := Lib.hid hfx
          rw [hfx] at HF
          clear hfx
          go_wp2_with (go_at_call 41; refine (HF.out _ ((HB0.out.alloc (by omega) _).alloc (by simp; omega) _)).mono ?_; rintro e w1 ⟨rfl, hb1⟩)
          go_ret
          exact ⟨ret_bool (sameBy_no HX.out HY.out HFX.out).symm, ((HW.out.alloc (by omega) _).alloc (by simp; omega) _).trans (hb1.mono (by simp; omega))⟩
        · have HFX := Lib.hid hfx
          rw [hfx] at HF
          clear hfx
          go_wp2_with (go_at_call 41; refine (HF.out _ ((HB0.out.alloc (by omega) _).alloc (by simp; omega) _)).mono ?_; rintro e w1 ⟨rfl, hb1⟩)
          go_roundg (la.length - (k + 1))
          case measure => have := HK.out; omega
          case rel => exact ⟨k + 1, by omega, by go_num, HT.out.succ HX.out HY.out HFX.out, ((HW.out.alloc (by omega) _).alloc (by simp; omega) _).trans (hb1.mono (by simp; omega))⟩
      · have hke : k = la.length := by omega
        have HKE := Lib.hid hke
        clear hke
        go_wp2_with fail
        go_ret
        exact ⟨ret_bool (HT.out.all HL.out HKE.out).symm, HW.out⟩
  · have hd : ((la.length : Int) != (lb.length : Int)) = true := by simp; omega
    have HL := Lib.hid hlen
    clear hlen
    go_enter Tryz.func40, Tryz.ntmps40
    go_wp2_with fail
    go_ret
    exact ⟨ret_bool (sameBy_len HL.out).symm, Below.refl _ _⟩
end Go.Proofs.YtjelhdjckdcbaaaGreatDoor
