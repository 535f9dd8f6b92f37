import Derived.Shelf.Abstract
import Derived.Test.YtdcjlihaldhhjaaGreatDoorKm07
set_option maxHeartbeats 1000000
namespace Go.Proofs.YtdcjlihaldhhjaaGreatDoor
open _root_.Go.Proofs.Tryz
open Go.RowKit
def bL {X : Type} (f : X -> Bool) (l : List X) (k : Nat) : Prop := ∀ (i : Nat) x, i < k -> l[i]? = some x -> f x = true
theorem bL.zero {X : Type} {f : X -> Bool} {l : List X} : bL f l 0 := λ _ _ h => absurd h zO
theorem bL.succ {X : Type} {f : X -> Bool} {l : List X} {k : Nat} (h : bL f l k) {x : X} (hx : l[k]? = some x) (hf : f x = true) : bL f l (k + 1) := by
 intro i a hi ha; by_cases e : i = k
 . subst e; rw [ha] at hx; cases hx; exact hf
 . exact h i a zO ha
theorem bL.all {X : Type} {f : X -> Bool} {l : List X} {k : Nat} (h : bL f l k) (hk : k = l.length) : l.all f = true := by
 rw [List.all_eq_true]; intro x hx; obtain ⟨i, hi, rfl⟩ := List.getElem_of_mem hx; exact h i _ zO (List.getElem?_eq_getElem hi)
theorem dG {X : Type} {f : X -> Bool} {l : List X} {k : Nat} {x : X} (hx : l[k]? = some x) (hf : f x = false) : l.all f = false := by
 rw [Bool.eq_false_iff]; intro h; rw [List.all_eq_true] at h; rw [h x (List.mem_of_getElem? hx)] at hf; cases hf
theorem eY {w0 : World} {va : Value} {l : List Tx} {f : Tx -> Bool} {lo hi : Int} (ha : aG w0 va l) {g : FuncId} {cap : Array Value} (eg : ∀ (args : Array Value) (W : World), (callFunc g args).run prog W = .ok (.enter g args) W)
  (hf : ∀ x ∈ l, x.length <= maxLen -> ∀ w, Below w0.heap.size w0 w -> Calls prog g (#[.string (str x)] ++ cap) w (ax (f x) w)) :
  ∀ w, Below w0.heap.size w0 w -> Calls prog 121 #[va, .int .i64 lo, .int .i64 hi, .func (.func g) #[] cap] w (ax (decide (lo <= l.length) && decide ((l.length : Int) <= hi) && l.all f) w) := by
 intro w hw; obtain ⟨A, ca, rfl, hca, hma, hea⟩ := ha; have hla : l.length <= 9223372036854775807 := (by unfold maxLen at hma; omega); have HW0 := zH hw; have hsz0 := hw.size; clear hw hca hma; by_cases hlo : (l.length : Int) < lo
 . go_enter func121, ntmps121
   go_wp2_with fail
   go_ret; exact ⟨aj (by simp; omega), Below.refl _ _⟩
 . by_cases hhi : hi < (l.length : Int)
   . go_enter func121, ntmps121
     go_wp2_with fail
     go_ret; exact ⟨aj (by simp; omega), Below.refl _ _⟩
   . go_enter func121, ntmps121
     go_wp2_with fail
     go_loopg [23] l.length (λ g v wr => ∃ k : Nat, k + g = l.length /\ v = .int .i64 k /\ bL f l k /\ Below w.heap.size w wr)
     case atStart => exact ⟨0, by omega, rfl, bL.zero, Below.refl _ _⟩
     case round =>
      obtain ⟨k, hkg, rfl, hto, hbw⟩ := hrel; have HK := zH hkg; have HW := zH hbw; have HT := zH hto; have hszw := hbw.size; have hkl : k <= l.length := zO; clear hkg hbw hto; by_cases hlt : k < l.length
      . obtain ⟨x, hx⟩ := zG hlt; obtain ⟨L, hEL, rfl, hxl⟩ := hea k x hx; have HF := zH (hf x (List.mem_of_getElem? hx) hxl); have HB0 := zH (HW0.o.trans (HW.o.mono hsz0)); have HX := zH hx; obtain ⟨a, rfl, hab, haa, d0⟩ := ez (hEL.under HB0.o); rw [Nat.mul_one] at d0; clear hEL hea hf hx; cases hfx : f x
        . have HFX := zH hfx; rw [hfx] at HF; clear hfx; go_wp2_with (go_at_fn g; refine (HF.o _ HB0.o).mono ?_; rintro e w1 ⟨rfl, hb1⟩)
          go_ret; exact ⟨aj (by rw [dG HX.o HFX.o]), HW.o.trans (hb1.mono zO)⟩
        . have HFX := zH hfx; rw [hfx] at HF; clear hfx; go_wp2_with (go_at_fn g; refine (HF.o _ HB0.o).mono ?_; rintro e w1 ⟨rfl, hb1⟩)
          go_roundg (l.length - (k + 1))
          case measure => have := HK.o; omega
          case rel => exact ⟨k + 1, by omega, by go_num, HT.o.succ HX.o HFX.o, HW.o.trans (hb1.mono zO)⟩
      . have hke : k = l.length := by omega
        have HKE := zH hke; clear hke; go_wp2_with fail
        go_ret; exact ⟨aj (by rw [HT.o.all HKE.o]; simp; omega), HW.o⟩
theorem Ch {w0 : World} {va : Value} {l : List Ex} {f : Ex -> Bool} {lo hi : Int} (ha : aw w0 (aT w0) va l) {rv : Value}
  (hf : ∀ x ∈ l, ∀ L, aT w0 L x -> ∀ w, Below w0.heap.size w0 w -> Calls prog 180 #[rv, .agg L.toArray] w (ax (f x) w)) :
  ∀ w, Below w0.heap.size w0 w -> Calls prog 201 #[va, .int .i64 lo, .int .i64 hi, .func (.func 180) #[rv] #[]] w (ax (decide (lo <= l.length) && decide ((l.length : Int) <= hi) && l.all f) w) := by
 intro w hw; obtain ⟨A, ca, rfl, hca, hma, hea⟩ := ha; have hla : l.length <= 9223372036854775807 := (by unfold maxLen at hma; omega); have HW0 := zH hw; have hsz0 := hw.size; clear hw hca hma; by_cases hlo : (l.length : Int) < lo
 . go_enter func201, ntmps201
   go_wp2_with fail
   go_ret; exact ⟨aj (by simp; omega), Below.refl _ _⟩
 . by_cases hhi : hi < (l.length : Int)
   . go_enter func201, ntmps201
     go_wp2_with fail
     go_ret; exact ⟨aj (by simp; omega), Below.refl _ _⟩
   . go_enter func201, ntmps201
     go_wp2_with fail
     go_loopg [23] l.length (λ g v wr => ∃ k : Nat, k + g = l.length /\ v = .int .i64 k /\ bL f l k /\ Below w.heap.size w wr)
     case atStart => exact ⟨0, by omega, rfl, bL.zero, Below.refl _ _⟩
     case round =>
      obtain ⟨k, hkg, rfl, hto, hbw⟩ := hrel; have HK := zH hkg; have HW := zH hbw; have HT := zH hto; have hszw := hbw.size; have hkl : k <= l.length := zO; clear hkg hbw hto; by_cases hlt : k < l.length
      . obtain ⟨x, hx⟩ := zG hlt; obtain ⟨L, hEL, hRL⟩ := hea k x hx; obtain ⟨po0, ps1, po2, pA3, pn3, pk3, pA4, pn4, pk4, rfl⟩ := aT.shape hRL; have HF := zH (hf x (List.mem_of_getElem? hx) _ hRL); clear hRL; have HB0 := zH (HW0.o.trans (HW.o.mono hsz0)); have HX := zH hx; obtain ⟨a, rfl, hab, haa, d0, d1, d2, d3, d4⟩ := dR (hEL.under HB0.o); clear hEL hea hf hx; cases hfx : f x
        . have HFX := zH hfx; rw [hfx] at HF; clear hfx; go_wp2_with (go_at_call 180; refine (HF.o _ (HB0.o.alloc zO _)).mono ?_; rintro e w1 ⟨rfl, hb1⟩)
          go_ret; exact ⟨aj (by rw [dG HX.o HFX.o]), (HW.o.alloc zO _).trans (hb1.mono (by simp; omega))⟩
        . have HFX := zH hfx; rw [hfx] at HF; clear hfx; go_wp2_with (go_at_call 180; refine (HF.o _ (HB0.o.alloc zO _)).mono ?_; rintro e w1 ⟨rfl, hb1⟩)
          go_roundg (l.length - (k + 1))
          case measure => have := HK.o; omega
          case rel => exact ⟨k + 1, by omega, by go_num, HT.o.succ HX.o HFX.o, (HW.o.alloc zO _).trans (hb1.mono (by simp; omega))⟩
      . have hke : k = l.length := by omega
        have HKE := zH hke; clear hke; go_wp2_with fail
        go_ret; exact ⟨aj (by rw [HT.o.all HKE.o]; simp; omega), HW.o⟩
theorem Fj {w0 : World} {va : Value} {l : List QEq} {f : QEq -> Bool} {lo hi : Int} (ha : aw w0 (lE w0) va l) {rv : Value}
  (hf : ∀ x ∈ l, ∀ L, lE w0 L x -> ∀ w, Below w0.heap.size w0 w -> Calls prog 153 #[rv, .agg L.toArray] w (ax (f x) w)) :
  ∀ w, Below w0.heap.size w0 w -> Calls prog 183 #[va, .int .i64 lo, .int .i64 hi, .func (.func 153) #[rv] #[]] w (ax (decide (lo <= l.length) && decide ((l.length : Int) <= hi) && l.all f) w) := by
 intro w hw; obtain ⟨A, ca, rfl, hca, hma, hea⟩ := ha; have hla : l.length <= 9223372036854775807 := (by unfold maxLen at hma; omega); have HW0 := zH hw; have hsz0 := hw.size; clear hw hca hma; by_cases hlo : (l.length : Int) < lo
 . go_enter func183, ntmps183
   go_wp2_with fail
   go_ret; exact ⟨aj (by simp; omega), Below.refl _ _⟩
 . by_cases hhi : hi < (l.length : Int)
   . go_enter func183, ntmps183
     go_wp2_with fail
     go_ret; exact ⟨aj (by simp; omega), Below.refl _ _⟩
   . go_enter func183, ntmps183
     go_wp2_with fail
     go_loopg [23] l.length (λ g v wr => ∃ k : Nat, k + g = l.length /\ v = .int .i64 k /\ bL f l k /\ Below w.heap.size w wr)
     case atStart => exact ⟨0, by omega, rfl, bL.zero, Below.refl _ _⟩
     case round =>
      obtain ⟨k, hkg, rfl, hto, hbw⟩ := hrel; have HK := zH hkg; have HW := zH hbw; have HT := zH hto; have hszw := hbw.size; have hkl : k <= l.length := zO; clear hkg hbw hto; by_cases hlt : k < l.length
      . obtain ⟨x, hx⟩ := zG hlt; obtain ⟨L, hEL, hRL⟩ := hea k x hx; obtain ⟨pA0, pn0, pk0, po1, ps2, po3, pA4, pn4, pk4, pA5, pn5, pk5, rfl⟩ := lE.shape hRL; have HF := zH (hf x (List.mem_of_getElem? hx) _ hRL); clear hRL; have HB0 := zH (HW0.o.trans (HW.o.mono hsz0)); have HX := zH hx; obtain ⟨a, rfl, hab, haa, d0, d1, d2, d3, d4, d5⟩ := lp (hEL.under HB0.o); clear hEL hea hf hx; cases hfx : f x
        . have HFX := zH hfx; rw [hfx] at HF; clear hfx; go_wp2_with (go_at_call 153; refine (HF.o _ (HB0.o.alloc zO _)).mono ?_; rintro e w1 ⟨rfl, hb1⟩)
          go_ret; exact ⟨aj (by rw [dG HX.o HFX.o]), (HW.o.alloc zO _).trans (hb1.mono (by simp; omega))⟩
        . have HFX := zH hfx; rw [hfx] at HF; clear hfx; go_wp2_with (go_at_call 153; refine (HF.o _ (HB0.o.alloc zO _)).mono ?_; rintro e w1 ⟨rfl, hb1⟩)
          go_roundg (l.length - (k + 1))
          case measure => have := HK.o; omega
          case rel => exact ⟨k + 1, by omega, by go_num, HT.o.succ HX.o HFX.o, (HW.o.alloc zO _).trans (hb1.mono (by simp; omega))⟩
      . have hke : k = l.length := by omega
        have HKE := zH hke; clear hke; go_wp2_with fail
        go_ret; exact ⟨aj (by rw [HT.o.all HKE.o]; simp; omega), HW.o⟩
theorem DY {w0 : World} {va : Value} {l : List gW} {f : gW -> Bool} {lo hi : Int} (ha : aw w0 (eK w0) va l) {rv : Value}
  (hf : ∀ x ∈ l, ∀ L, eK w0 L x -> ∀ w, Below w0.heap.size w0 w -> Calls prog 185 #[rv, .agg L.toArray] w (ax (f x) w)) :
  ∀ w, Below w0.heap.size w0 w -> Calls prog 184 #[va, .int .i64 lo, .int .i64 hi, .func (.func 185) #[rv] #[]] w (ax (decide (lo <= l.length) && decide ((l.length : Int) <= hi) && l.all f) w) := by
 intro w hw; obtain ⟨A, ca, rfl, hca, hma, hea⟩ := ha; have hla : l.length <= 9223372036854775807 := (by unfold maxLen at hma; omega); have HW0 := zH hw; have hsz0 := hw.size; clear hw hca hma; by_cases hlo : (l.length : Int) < lo
 . go_enter func184, ntmps184
   go_wp2_with fail
   go_ret; exact ⟨aj (by simp; omega), Below.refl _ _⟩
 . by_cases hhi : hi < (l.length : Int)
   . go_enter func184, ntmps184
     go_wp2_with fail
     go_ret; exact ⟨aj (by simp; omega), Below.refl _ _⟩
   . go_enter func184, ntmps184
     go_wp2_with fail
     go_loopg [23] l.length (λ g v wr => ∃ k : Nat, k + g = l.length /\ v = .int .i64 k /\ bL f l k /\ Below w.heap.size w wr)
     case atStart => exact ⟨0, by omega, rfl, bL.zero, Below.refl _ _⟩
     case round =>
      obtain ⟨k, hkg, rfl, hto, hbw⟩ := hrel; have HK := zH hkg; have HW := zH hbw; have HT := zH hto; have hszw := hbw.size; have hkl : k <= l.length := zO; clear hkg hbw hto; by_cases hlt : k < l.length
      . obtain ⟨x, hx⟩ := zG hlt; obtain ⟨L, hEL, hRL⟩ := hea k x hx; obtain ⟨po0, ps1, po2, pA3, pn3, pk3, pA4, pn4, pk4, ps5, rfl⟩ := eK.shape hRL; have HF := zH (hf x (List.mem_of_getElem? hx) _ hRL); clear hRL; have HB0 := zH (HW0.o.trans (HW.o.mono hsz0)); have HX := zH hx; obtain ⟨a, rfl, hab, haa, d0, d1, d2, d3, d4, d5⟩ := lp (hEL.under HB0.o); clear hEL hea hf hx; cases hfx : f x
        . have HFX := zH hfx; rw [hfx] at HF; clear hfx; go_wp2_with (go_at_call 185; refine (HF.o _ (HB0.o.alloc zO _)).mono ?_; rintro e w1 ⟨rfl, hb1⟩)
          go_ret; exact ⟨aj (by rw [dG HX.o HFX.o]), (HW.o.alloc zO _).trans (hb1.mono (by simp; omega))⟩
        . have HFX := zH hfx; rw [hfx] at HF; clear hfx; go_wp2_with (go_at_call 185; refine (HF.o _ (HB0.o.alloc zO _)).mono ?_; rintro e w1 ⟨rfl, hb1⟩)
          go_roundg (l.length - (k + 1))
          case measure => have := HK.o; omega
          case rel => exact ⟨k + 1, by omega, by go_num, HT.o.succ HX.o HFX.o, (HW.o.alloc zO _).trans (hb1.mono (by simp; omega))⟩
      . have hke : k = l.length := by omega
        have HKE := zH hke; clear hke; go_wp2_with fail
        go_ret; exact ⟨aj (by rw [HT.o.all HKE.o]; simp; omega), HW.o⟩
theorem zo {w0 : World} {va : Value} {l : List ba} {f : ba -> Bool} {lo hi : Int} (ha : aw w0 (bX w0) va l) {rv : Value}
  (hf : ∀ x ∈ l, ∀ L, bX w0 L x -> ∀ w, Below w0.heap.size w0 w -> Calls prog 156 #[rv, .agg L.toArray] w (ax (f x) w)) :
  ∀ w, Below w0.heap.size w0 w -> Calls prog 155 #[va, .int .i64 lo, .int .i64 hi, .func (.func 156) #[rv] #[]] w (ax (decide (lo <= l.length) && decide ((l.length : Int) <= hi) && l.all f) w) := by
 intro w hw; obtain ⟨A, ca, rfl, hca, hma, hea⟩ := ha; have hla : l.length <= 9223372036854775807 := (by unfold maxLen at hma; omega); have HW0 := zH hw; have hsz0 := hw.size; clear hw hca hma; by_cases hlo : (l.length : Int) < lo
 . go_enter func155, ntmps155
   go_wp2_with fail
   go_ret; exact ⟨aj (by simp; omega), Below.refl _ _⟩
 . by_cases hhi : hi < (l.length : Int)
   . go_enter func155, ntmps155
     go_wp2_with fail
     go_ret; exact ⟨aj (by simp; omega), Below.refl _ _⟩
   . go_enter func155, ntmps155
     go_wp2_with fail
     go_loopg [23] l.length (λ g v wr => ∃ k : Nat, k + g = l.length /\ v = .int .i64 k /\ bL f l k /\ Below w.heap.size w wr)
     case atStart => exact ⟨0, by omega, rfl, bL.zero, Below.refl _ _⟩
     case round =>
      obtain ⟨k, hkg, rfl, hto, hbw⟩ := hrel; have HK := zH hkg; have HW := zH hbw; have HT := zH hto; have hszw := hbw.size; have hkl : k <= l.length := zO; clear hkg hbw hto; by_cases hlt : k < l.length
      . obtain ⟨x, hx⟩ := zG hlt; obtain ⟨L, hEL, hRL⟩ := hea k x hx; obtain ⟨ps0, pA1, pn1, pk1, pA2, pn2, pk2, rfl⟩ := bX.shape hRL; have HF := zH (hf x (List.mem_of_getElem? hx) _ hRL); clear hRL; have HB0 := zH (HW0.o.trans (HW.o.mono hsz0)); have HX := zH hx; obtain ⟨a, rfl, hab, haa, d0, d1, d2⟩ := jJ (hEL.under HB0.o); clear hEL hea hf hx; cases hfx : f x
        . have HFX := zH hfx; rw [hfx] at HF; clear hfx; go_wp2_with (go_at_call 156; refine (HF.o _ (HB0.o.alloc zO _)).mono ?_; rintro e w1 ⟨rfl, hb1⟩)
          go_ret; exact ⟨aj (by rw [dG HX.o HFX.o]), (HW.o.alloc zO _).trans (hb1.mono (by simp; omega))⟩
        . have HFX := zH hfx; rw [hfx] at HF; clear hfx; go_wp2_with (go_at_call 156; refine (HF.o _ (HB0.o.alloc zO _)).mono ?_; rintro e w1 ⟨rfl, hb1⟩)
          go_roundg (l.length - (k + 1))
          case measure => have := HK.o; omega
          case rel => exact ⟨k + 1, by omega, by go_num, HT.o.succ HX.o HFX.o, (HW.o.alloc zO _).trans (hb1.mono (by simp; omega))⟩
      . have hke : k = l.length := by omega
        have HKE := zH hke; clear hke; go_wp2_with fail
        go_ret; exact ⟨aj (by rw [HT.o.all HKE.o]; simp; omega), HW.o⟩
theorem Cg {w0 : World} {va : Value} {l : List cC} {f : cC -> Bool} {lo hi : Int} (ha : aw w0 (bO w0) va l) {rv : Value}
  (hf : ∀ x ∈ l, ∀ L, bO w0 L x -> ∀ w, Below w0.heap.size w0 w -> Calls prog 123 #[rv, .agg L.toArray] w (ax (f x) w)) :
  ∀ w, Below w0.heap.size w0 w -> Calls prog 122 #[va, .int .i64 lo, .int .i64 hi, .func (.func 123) #[rv] #[]] w (ax (decide (lo <= l.length) && decide ((l.length : Int) <= hi) && l.all f) w) := by
 intro w hw; obtain ⟨A, ca, rfl, hca, hma, hea⟩ := ha; have hla : l.length <= 9223372036854775807 := (by unfold maxLen at hma; omega); have HW0 := zH hw; have hsz0 := hw.size; clear hw hca hma; by_cases hlo : (l.length : Int) < lo
 . go_enter func122, ntmps122
   go_wp2_with fail
   go_ret; exact ⟨aj (by simp; omega), Below.refl _ _⟩
 . by_cases hhi : hi < (l.length : Int)
   . go_enter func122, ntmps122
     go_wp2_with fail
     go_ret; exact ⟨aj (by simp; omega), Below.refl _ _⟩
   . go_enter func122, ntmps122
     go_wp2_with fail
     go_loopg [23] l.length (λ g v wr => ∃ k : Nat, k + g = l.length /\ v = .int .i64 k /\ bL f l k /\ Below w.heap.size w wr)
     case atStart => exact ⟨0, by omega, rfl, bL.zero, Below.refl _ _⟩
     case round =>
      obtain ⟨k, hkg, rfl, hto, hbw⟩ := hrel; have HK := zH hkg; have HW := zH hbw; have HT := zH hto; have hszw := hbw.size; have hkl : k <= l.length := zO; clear hkg hbw hto; by_cases hlt : k < l.length
      . obtain ⟨x, hx⟩ := zG hlt; obtain ⟨L, hEL, hRL⟩ := hea k x hx; obtain ⟨pA0, pn0, pk0, po1, ps2, po3, pA4, pn4, pk4, pA5, pn5, pk5, pA6, pn6, pk6, rfl⟩ := bO.shape hRL; have HF := zH (hf x (List.mem_of_getElem? hx) _ hRL); clear hRL; have HB0 := zH (HW0.o.trans (HW.o.mono hsz0)); have HX := zH hx; obtain ⟨a, rfl, hab, haa, d0, d1, d2, d3, d4, d5, d6⟩ := ll (hEL.under HB0.o); clear hEL hea hf hx; cases hfx : f x
        . have HFX := zH hfx; rw [hfx] at HF; clear hfx; go_wp2_with (go_at_call 123; refine (HF.o _ (HB0.o.alloc zO _)).mono ?_; rintro e w1 ⟨rfl, hb1⟩)
          go_ret; exact ⟨aj (by rw [dG HX.o HFX.o]), (HW.o.alloc zO _).trans (hb1.mono (by simp; omega))⟩
        . have HFX := zH hfx; rw [hfx] at HF; clear hfx; go_wp2_with (go_at_call 123; refine (HF.o _ (HB0.o.alloc zO _)).mono ?_; rintro e w1 ⟨rfl, hb1⟩)
          go_roundg (l.length - (k + 1))
          case measure => have := HK.o; omega
          case rel => exact ⟨k + 1, by omega, by go_num, HT.o.succ HX.o HFX.o, (HW.o.alloc zO _).trans (hb1.mono (by simp; omega))⟩
      . have hke : k = l.length := by omega
        have HKE := zH hke; clear hke; go_wp2_with fail
        go_ret; exact ⟨aj (by rw [HT.o.all HKE.o]; simp; omega), HW.o⟩
theorem Ci {w0 : World} {va : Value} {l : List fp} {f : fp -> Bool} {lo hi : Int} (ha : aw w0 (cF w0) va l) {rv : Value}
  (hf : ∀ x ∈ l, ∀ L, cF w0 L x -> ∀ w, Below w0.heap.size w0 w -> Calls prog 74 #[rv, .agg L.toArray] w (ax (f x) w)) :
  ∀ w, Below w0.heap.size w0 w -> Calls prog 73 #[va, .int .i64 lo, .int .i64 hi, .func (.func 74) #[rv] #[]] w (ax (decide (lo <= l.length) && decide ((l.length : Int) <= hi) && l.all f) w) := by
 intro w hw; obtain ⟨A, ca, rfl, hca, hma, hea⟩ := ha; have hla : l.length <= 9223372036854775807 := (by unfold maxLen at hma; omega); have HW0 := zH hw; have hsz0 := hw.size; clear hw hca hma; by_cases hlo : (l.length : Int) < lo
 . go_enter func73, ntmps73
   go_wp2_with fail
   go_ret; exact ⟨aj (by simp; omega), Below.refl _ _⟩
 . by_cases hhi : hi < (l.length : Int)
   . go_enter func73, ntmps73
     go_wp2_with fail
     go_ret; exact ⟨aj (by simp; omega), Below.refl _ _⟩
   . go_enter func73, ntmps73
     go_wp2_with fail
     go_loopg [23] l.length (λ g v wr => ∃ k : Nat, k + g = l.length /\ v = .int .i64 k /\ bL f l k /\ Below w.heap.size w wr)
     case atStart => exact ⟨0, by omega, rfl, bL.zero, Below.refl _ _⟩
     case round =>
      obtain ⟨k, hkg, rfl, hto, hbw⟩ := hrel; have HK := zH hkg; have HW := zH hbw; have HT := zH hto; have hszw := hbw.size; have hkl : k <= l.length := zO; clear hkg hbw hto; by_cases hlt : k < l.length
      . obtain ⟨x, hx⟩ := zG hlt; obtain ⟨L, hEL, hRL⟩ := hea k x hx; obtain ⟨ps0, pA1, pn1, pk1, rfl⟩ := cF.shape hRL; have HF := zH (hf x (List.mem_of_getElem? hx) _ hRL); clear hRL; have HB0 := zH (HW0.o.trans (HW.o.mono hsz0)); have HX := zH hx; obtain ⟨a, rfl, hab, haa, d0, d1⟩ := BD (hEL.under HB0.o); clear hEL hea hf hx; cases hfx : f x
        . have HFX := zH hfx; rw [hfx] at HF; clear hfx; go_wp2_with (go_at_call 74; refine (HF.o _ (HB0.o.alloc zO _)).mono ?_; rintro e w1 ⟨rfl, hb1⟩)
          go_ret; exact ⟨aj (by rw [dG HX.o HFX.o]), (HW.o.alloc zO _).trans (hb1.mono (by simp; omega))⟩
        . have HFX := zH hfx; rw [hfx] at HF; clear hfx; go_wp2_with (go_at_call 74; refine (HF.o _ (HB0.o.alloc zO _)).mono ?_; rintro e w1 ⟨rfl, hb1⟩)
          go_roundg (l.length - (k + 1))
          case measure => have := HK.o; omega
          case rel => exact ⟨k + 1, by omega, by go_num, HT.o.succ HX.o HFX.o, (HW.o.alloc zO _).trans (hb1.mono (by simp; omega))⟩
      . have hke : k = l.length := by omega
        have HKE := zH hke; clear hke; go_wp2_with fail
        go_ret; exact ⟨aj (by rw [HT.o.all HKE.o]; simp; omega), HW.o⟩
theorem Ce {w0 : World} {va : Value} {l : List bc} {f : bc -> Bool} {lo hi : Int} (ha : aw w0 (cz w0) va l) {rv : Value}
  (hf : ∀ x ∈ l, ∀ L, cz w0 L x -> ∀ w, Below w0.heap.size w0 w -> Calls prog 76 #[rv, .agg L.toArray] w (ax (f x) w)) :
  ∀ w, Below w0.heap.size w0 w -> Calls prog 75 #[va, .int .i64 lo, .int .i64 hi, .func (.func 76) #[rv] #[]] w (ax (decide (lo <= l.length) && decide ((l.length : Int) <= hi) && l.all f) w) := by
 intro w hw; obtain ⟨A, ca, rfl, hca, hma, hea⟩ := ha; have hla : l.length <= 9223372036854775807 := (by unfold maxLen at hma; omega); have HW0 := zH hw; have hsz0 := hw.size; clear hw hca hma; by_cases hlo : (l.length : Int) < lo
 . go_enter func75, ntmps75
   go_wp2_with fail
   go_ret; exact ⟨aj (by simp; omega), Below.refl _ _⟩
 . by_cases hhi : hi < (l.length : Int)
   . go_enter func75, ntmps75
     go_wp2_with fail
     go_ret; exact ⟨aj (by simp; omega), Below.refl _ _⟩
   . go_enter func75, ntmps75
     go_wp2_with fail
     go_loopg [23] l.length (λ g v wr => ∃ k : Nat, k + g = l.length /\ v = .int .i64 k /\ bL f l k /\ Below w.heap.size w wr)
     case atStart => exact ⟨0, by omega, rfl, bL.zero, Below.refl _ _⟩
     case round =>
      obtain ⟨k, hkg, rfl, hto, hbw⟩ := hrel; have HK := zH hkg; have HW := zH hbw; have HT := zH hto; have hszw := hbw.size; have hkl : k <= l.length := zO; clear hkg hbw hto; by_cases hlt : k < l.length
      . obtain ⟨x, hx⟩ := zG hlt; obtain ⟨L, hEL, hRL⟩ := hea k x hx; obtain ⟨ps0, pA1, pn1, pk1, pA2, pn2, pk2, pA3, pn3, pk3, pA4, pn4, pk4, rfl⟩ := cz.shape hRL; have HF := zH (hf x (List.mem_of_getElem? hx) _ hRL); clear hRL; have HB0 := zH (HW0.o.trans (HW.o.mono hsz0)); have HX := zH hx; obtain ⟨a, rfl, hab, haa, d0, d1, d2, d3, d4⟩ := dR (hEL.under HB0.o); clear hEL hea hf hx; cases hfx : f x
        . have HFX := zH hfx; rw [hfx] at HF; clear hfx; go_wp2_with (go_at_call 76; refine (HF.o _ (HB0.o.alloc zO _)).mono ?_; rintro e w1 ⟨rfl, hb1⟩)
          go_ret; exact ⟨aj (by rw [dG HX.o HFX.o]), (HW.o.alloc zO _).trans (hb1.mono (by simp; omega))⟩
        . have HFX := zH hfx; rw [hfx] at HF; clear hfx; go_wp2_with (go_at_call 76; refine (HF.o _ (HB0.o.alloc zO _)).mono ?_; rintro e w1 ⟨rfl, hb1⟩)
          go_roundg (l.length - (k + 1))
          case measure => have := HK.o; omega
          case rel => exact ⟨k + 1, by omega, by go_num, HT.o.succ HX.o HFX.o, (HW.o.alloc zO _).trans (hb1.mono (by simp; omega))⟩
      . have hke : k = l.length := by omega
        have HKE := zH hke; clear hke; go_wp2_with fail
        go_ret; exact ⟨aj (by rw [HT.o.all HKE.o]; simp; omega), HW.o⟩
end Go.Proofs.YtdcjlihaldhhjaaGreatDoor
