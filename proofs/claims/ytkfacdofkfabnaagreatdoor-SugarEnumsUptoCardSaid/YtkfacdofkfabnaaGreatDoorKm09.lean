import Derived.Shelf.Abstract
import Derived.Test.YtkfacdofkfabnaaGreatDoorKm08
set_option maxHeartbeats 1000000
namespace Go.Proofs.YtkfacdofkfabnaaGreatDoor
open _root_.Go.Proofs.Tryz
open Go.RowKit
def bY {X : Type} (f : X -> Bool) (l : List X) (k : Nat) : Prop := ∀ (i : Nat) x, i < k -> l[i]? = some x -> f x = true
theorem bY.zero {X : Type} {f : X -> Bool} {l : List X} : bY f l 0 := λ _ _ h => absurd h zO
theorem bY.succ {X : Type} {f : X -> Bool} {l : List X} {k : Nat} (h : bY f l k) {x : X} (hx : l[k]? = some x) (hf : f x = true) : bY f l (k + 1) := by
 intro i a hi ha; by_cases e : i = k
 . subst e; rw [ha] at hx; cases hx; exact hf
 . exact h i a zO ha
theorem bY.all {X : Type} {f : X -> Bool} {l : List X} {k : Nat} (h : bY f l k) (hk : k = l.length) : l.all f = true := by
 rw [List.all_eq_true]; intro x hx; obtain ⟨i, hi, rfl⟩ := List.getElem_of_mem hx; exact h i _ zO (List.getElem?_eq_getElem hi)
theorem eu {X : Type} {f : X -> Bool} {l : List X} {k : Nat} {x : X} (hx : l[k]? = some x) (hf : f x = false) : l.all f = false := by
 rw [Bool.eq_false_iff]; intro h; rw [List.all_eq_true] at h; rw [h x (List.mem_of_getElem? hx)] at hf; cases hf
theorem fO {w0 : World} {va : Value} {l : List Tx} {f : Tx -> Bool} {lo hi : Int} (ha : aH w0 va l) {g : FuncId} {cap : Array Value} (eg : ∀ (args : Array Value) (W : World), (callFunc g args).run prog W = .ok (.enter g args) W)
  (hf : ∀ x ∈ l, x.length <= maxLen -> ∀ w, Below w0.heap.size w0 w -> Calls prog g (#[.string (str x)] ++ cap) w (aA (f x) w)) :
  ∀ w, Below w0.heap.size w0 w -> Calls prog 121 #[va, .int .i64 lo, .int .i64 hi, .func (.func g) #[] cap] w (aA (decide (lo <= l.length) && decide ((l.length : Int) <= hi) && l.all f) w) := by
 intro w hw; obtain ⟨A, ca, rfl, hca, hma, hea⟩ := ha; have hla : l.length <= 9223372036854775807 := (by unfold maxLen at hma; omega); have HW0 := zH hw; have hsz0 := hw.size; clear hw hca hma; by_cases hlo : (l.length : Int) < lo
 . go_enter func121, ntmps121
   go_wp2_with fail
   go_ret; exact ⟨au (by simp; omega), Below.refl _ _⟩
 . by_cases hhi : hi < (l.length : Int)
   . go_enter func121, ntmps121
     go_wp2_with fail
     go_ret; exact ⟨au (by simp; omega), Below.refl _ _⟩
   . go_enter func121, ntmps121
     go_wp2_with fail
     go_loopg [23] l.length (λ g v wr => ∃ k : Nat, k + g = l.length /\ v = .int .i64 k /\ bY f l k /\ Below w.heap.size w wr)
     case atStart => exact ⟨0, by omega, rfl, bY.zero, Below.refl _ _⟩
     case round =>
      obtain ⟨k, hkg, rfl, hto, hbw⟩ := hrel; have HK := zH hkg; have HW := zH hbw; have HT := zH hto; have hszw := hbw.size; have hkl : k <= l.length := zO; clear hkg hbw hto; by_cases hlt : k < l.length
      . obtain ⟨x, hx⟩ := zG hlt; obtain ⟨L, hEL, rfl, hxl⟩ := hea k x hx; have HF := zH (hf x (List.mem_of_getElem? hx) hxl); have HB0 := zH (HW0.o.trans (HW.o.mono hsz0)); have HX := zH hx; obtain ⟨a, rfl, hab, haa, d0⟩ := et (hEL.under HB0.o); rw [Nat.mul_one] at d0; clear hEL hea hf hx; cases hfx : f x
        . have HFX := zH hfx; rw [hfx] at HF; clear hfx; go_wp2_with (go_at_fn g; refine (HF.o _ HB0.o).mono ?_; rintro e w1 ⟨rfl, hb1⟩)
          go_ret; exact ⟨au (by rw [eu HX.o HFX.o]), HW.o.trans (hb1.mono zO)⟩
        . have HFX := zH hfx; rw [hfx] at HF; clear hfx; go_wp2_with (go_at_fn g; refine (HF.o _ HB0.o).mono ?_; rintro e w1 ⟨rfl, hb1⟩)
          go_roundg (l.length - (k + 1))
          case measure => have := HK.o; omega
          case rel => exact ⟨k + 1, by omega, by go_num, HT.o.succ HX.o HFX.o, HW.o.trans (hb1.mono zO)⟩
      . have hke : k = l.length := by omega
        have HKE := zH hke; clear hke; go_wp2_with fail
        go_ret; exact ⟨au (by rw [HT.o.all HKE.o]; simp; omega), HW.o⟩
theorem Fm {w0 : World} {va : Value} {l : List Ex} {f : Ex -> Bool} {lo hi : Int} (ha : aw w0 (a7 w0) va l) {rv : Value}
  (hf : ∀ x ∈ l, ∀ L, a7 w0 L x -> ∀ w, Below w0.heap.size w0 w -> Calls prog 183 #[rv, .agg L.toArray] w (aA (f x) w)) :
  ∀ w, Below w0.heap.size w0 w -> Calls prog 204 #[va, .int .i64 lo, .int .i64 hi, .func (.func 183) #[rv] #[]] w (aA (decide (lo <= l.length) && decide ((l.length : Int) <= hi) && l.all f) w) := by
 intro w hw; obtain ⟨A, ca, rfl, hca, hma, hea⟩ := ha; have hla : l.length <= 9223372036854775807 := (by unfold maxLen at hma; omega); have HW0 := zH hw; have hsz0 := hw.size; clear hw hca hma; by_cases hlo : (l.length : Int) < lo
 . go_enter func204, ntmps204
   go_wp2_with fail
   go_ret; exact ⟨au (by simp; omega), Below.refl _ _⟩
 . by_cases hhi : hi < (l.length : Int)
   . go_enter func204, ntmps204
     go_wp2_with fail
     go_ret; exact ⟨au (by simp; omega), Below.refl _ _⟩
   . go_enter func204, ntmps204
     go_wp2_with fail
     go_loopg [23] l.length (λ g v wr => ∃ k : Nat, k + g = l.length /\ v = .int .i64 k /\ bY f l k /\ Below w.heap.size w wr)
     case atStart => exact ⟨0, by omega, rfl, bY.zero, Below.refl _ _⟩
     case round =>
      obtain ⟨k, hkg, rfl, hto, hbw⟩ := hrel; have HK := zH hkg; have HW := zH hbw; have HT := zH hto; have hszw := hbw.size; have hkl : k <= l.length := zO; clear hkg hbw hto; by_cases hlt : k < l.length
      . obtain ⟨x, hx⟩ := zG hlt; obtain ⟨L, hEL, hRL⟩ := hea k x hx; obtain ⟨po0, ps1, po2, pA3, pn3, pk3, pA4, pn4, pk4, rfl⟩ := a7.shape hRL; have HF := zH (hf x (List.mem_of_getElem? hx) _ hRL); clear hRL; have HB0 := zH (HW0.o.trans (HW.o.mono hsz0)); have HX := zH hx; obtain ⟨a, rfl, hab, haa, d0, d1, d2, d3, d4⟩ := fB (hEL.under HB0.o); clear hEL hea hf hx; cases hfx : f x
        . have HFX := zH hfx; rw [hfx] at HF; clear hfx; go_wp2_with (go_at_call 183; refine (HF.o _ (HB0.o.alloc zO _)).mono ?_; rintro e w1 ⟨rfl, hb1⟩)
          go_ret; exact ⟨au (by rw [eu HX.o HFX.o]), (HW.o.alloc zO _).trans (hb1.mono (by simp; omega))⟩
        . have HFX := zH hfx; rw [hfx] at HF; clear hfx; go_wp2_with (go_at_call 183; refine (HF.o _ (HB0.o.alloc zO _)).mono ?_; rintro e w1 ⟨rfl, hb1⟩)
          go_roundg (l.length - (k + 1))
          case measure => have := HK.o; omega
          case rel => exact ⟨k + 1, by omega, by go_num, HT.o.succ HX.o HFX.o, (HW.o.alloc zO _).trans (hb1.mono (by simp; omega))⟩
      . have hke : k = l.length := by omega
        have HKE := zH hke; clear hke; go_wp2_with fail
        go_ret; exact ⟨au (by rw [HT.o.all HKE.o]; simp; omega), HW.o⟩
theorem JI {w0 : World} {va : Value} {l : List QEq} {f : QEq -> Bool} {lo hi : Int} (ha : aw w0 (iH w0) va l) {rv : Value}
  (hf : ∀ x ∈ l, ∀ L, iH w0 L x -> ∀ w, Below w0.heap.size w0 w -> Calls prog 155 #[rv, .agg L.toArray] w (aA (f x) w)) :
  ∀ w, Below w0.heap.size w0 w -> Calls prog 186 #[va, .int .i64 lo, .int .i64 hi, .func (.func 155) #[rv] #[]] w (aA (decide (lo <= l.length) && decide ((l.length : Int) <= hi) && l.all f) w) := by
 intro w hw; obtain ⟨A, ca, rfl, hca, hma, hea⟩ := ha; have hla : l.length <= 9223372036854775807 := (by unfold maxLen at hma; omega); have HW0 := zH hw; have hsz0 := hw.size; clear hw hca hma; by_cases hlo : (l.length : Int) < lo
 . go_enter func186, ntmps186
   go_wp2_with fail
   go_ret; exact ⟨au (by simp; omega), Below.refl _ _⟩
 . by_cases hhi : hi < (l.length : Int)
   . go_enter func186, ntmps186
     go_wp2_with fail
     go_ret; exact ⟨au (by simp; omega), Below.refl _ _⟩
   . go_enter func186, ntmps186
     go_wp2_with fail
     go_loopg [23] l.length (λ g v wr => ∃ k : Nat, k + g = l.length /\ v = .int .i64 k /\ bY f l k /\ Below w.heap.size w wr)
     case atStart => exact ⟨0, by omega, rfl, bY.zero, Below.refl _ _⟩
     case round =>
      obtain ⟨k, hkg, rfl, hto, hbw⟩ := hrel; have HK := zH hkg; have HW := zH hbw; have HT := zH hto; have hszw := hbw.size; have hkl : k <= l.length := zO; clear hkg hbw hto; by_cases hlt : k < l.length
      . obtain ⟨x, hx⟩ := zG hlt; obtain ⟨L, hEL, hRL⟩ := hea k x hx; obtain ⟨pA0, pn0, pk0, po1, ps2, po3, pA4, pn4, pk4, pA5, pn5, pk5, rfl⟩ := iH.shape hRL; have HF := zH (hf x (List.mem_of_getElem? hx) _ hRL); clear hRL; have HB0 := zH (HW0.o.trans (HW.o.mono hsz0)); have HX := zH hx; obtain ⟨a, rfl, hab, haa, d0, d1, d2, d3, d4, d5⟩ := iU (hEL.under HB0.o); clear hEL hea hf hx; cases hfx : f x
        . have HFX := zH hfx; rw [hfx] at HF; clear hfx; go_wp2_with (go_at_call 155; refine (HF.o _ (HB0.o.alloc zO _)).mono ?_; rintro e w1 ⟨rfl, hb1⟩)
          go_ret; exact ⟨au (by rw [eu HX.o HFX.o]), (HW.o.alloc zO _).trans (hb1.mono (by simp; omega))⟩
        . have HFX := zH hfx; rw [hfx] at HF; clear hfx; go_wp2_with (go_at_call 155; refine (HF.o _ (HB0.o.alloc zO _)).mono ?_; rintro e w1 ⟨rfl, hb1⟩)
          go_roundg (l.length - (k + 1))
          case measure => have := HK.o; omega
          case rel => exact ⟨k + 1, by omega, by go_num, HT.o.succ HX.o HFX.o, (HW.o.alloc zO _).trans (hb1.mono (by simp; omega))⟩
      . have hke : k = l.length := by omega
        have HKE := zH hke; clear hke; go_wp2_with fail
        go_ret; exact ⟨au (by rw [HT.o.all HKE.o]; simp; omega), HW.o⟩
theorem Il {w0 : World} {va : Value} {l : List eO} {f : eO -> Bool} {lo hi : Int} (ha : aw w0 (d7 w0) va l) {rv : Value}
  (hf : ∀ x ∈ l, ∀ L, d7 w0 L x -> ∀ w, Below w0.heap.size w0 w -> Calls prog 188 #[rv, .agg L.toArray] w (aA (f x) w)) :
  ∀ w, Below w0.heap.size w0 w -> Calls prog 187 #[va, .int .i64 lo, .int .i64 hi, .func (.func 188) #[rv] #[]] w (aA (decide (lo <= l.length) && decide ((l.length : Int) <= hi) && l.all f) w) := by
 intro w hw; obtain ⟨A, ca, rfl, hca, hma, hea⟩ := ha; have hla : l.length <= 9223372036854775807 := (by unfold maxLen at hma; omega); have HW0 := zH hw; have hsz0 := hw.size; clear hw hca hma; by_cases hlo : (l.length : Int) < lo
 . go_enter func187, ntmps187
   go_wp2_with fail
   go_ret; exact ⟨au (by simp; omega), Below.refl _ _⟩
 . by_cases hhi : hi < (l.length : Int)
   . go_enter func187, ntmps187
     go_wp2_with fail
     go_ret; exact ⟨au (by simp; omega), Below.refl _ _⟩
   . go_enter func187, ntmps187
     go_wp2_with fail
     go_loopg [23] l.length (λ g v wr => ∃ k : Nat, k + g = l.length /\ v = .int .i64 k /\ bY f l k /\ Below w.heap.size w wr)
     case atStart => exact ⟨0, by omega, rfl, bY.zero, Below.refl _ _⟩
     case round =>
      obtain ⟨k, hkg, rfl, hto, hbw⟩ := hrel; have HK := zH hkg; have HW := zH hbw; have HT := zH hto; have hszw := hbw.size; have hkl : k <= l.length := zO; clear hkg hbw hto; by_cases hlt : k < l.length
      . obtain ⟨x, hx⟩ := zG hlt; obtain ⟨L, hEL, hRL⟩ := hea k x hx; obtain ⟨po0, ps1, po2, pA3, pn3, pk3, pA4, pn4, pk4, ps5, rfl⟩ := d7.shape hRL; have HF := zH (hf x (List.mem_of_getElem? hx) _ hRL); clear hRL; have HB0 := zH (HW0.o.trans (HW.o.mono hsz0)); have HX := zH hx; obtain ⟨a, rfl, hab, haa, d0, d1, d2, d3, d4, d5⟩ := iU (hEL.under HB0.o); clear hEL hea hf hx; cases hfx : f x
        . have HFX := zH hfx; rw [hfx] at HF; clear hfx; go_wp2_with (go_at_call 188; refine (HF.o _ (HB0.o.alloc zO _)).mono ?_; rintro e w1 ⟨rfl, hb1⟩)
          go_ret; exact ⟨au (by rw [eu HX.o HFX.o]), (HW.o.alloc zO _).trans (hb1.mono (by simp; omega))⟩
        . have HFX := zH hfx; rw [hfx] at HF; clear hfx; go_wp2_with (go_at_call 188; refine (HF.o _ (HB0.o.alloc zO _)).mono ?_; rintro e w1 ⟨rfl, hb1⟩)
          go_roundg (l.length - (k + 1))
          case measure => have := HK.o; omega
          case rel => exact ⟨k + 1, by omega, by go_num, HT.o.succ HX.o HFX.o, (HW.o.alloc zO _).trans (hb1.mono (by simp; omega))⟩
      . have hke : k = l.length := by omega
        have HKE := zH hke; clear hke; go_wp2_with fail
        go_ret; exact ⟨au (by rw [HT.o.all HKE.o]; simp; omega), HW.o⟩
theorem CP {w0 : World} {va : Value} {l : List aM} {f : aM -> Bool} {lo hi : Int} (ha : aw w0 (bt w0) va l) {rv : Value}
  (hf : ∀ x ∈ l, ∀ L, bt w0 L x -> ∀ w, Below w0.heap.size w0 w -> Calls prog 158 #[rv, .agg L.toArray] w (aA (f x) w)) :
  ∀ w, Below w0.heap.size w0 w -> Calls prog 157 #[va, .int .i64 lo, .int .i64 hi, .func (.func 158) #[rv] #[]] w (aA (decide (lo <= l.length) && decide ((l.length : Int) <= hi) && l.all f) w) := by
 intro w hw; obtain ⟨A, ca, rfl, hca, hma, hea⟩ := ha; have hla : l.length <= 9223372036854775807 := (by unfold maxLen at hma; omega); have HW0 := zH hw; have hsz0 := hw.size; clear hw hca hma; by_cases hlo : (l.length : Int) < lo
 . go_enter func157, ntmps157
   go_wp2_with fail
   go_ret; exact ⟨au (by simp; omega), Below.refl _ _⟩
 . by_cases hhi : hi < (l.length : Int)
   . go_enter func157, ntmps157
     go_wp2_with fail
     go_ret; exact ⟨au (by simp; omega), Below.refl _ _⟩
   . go_enter func157, ntmps157
     go_wp2_with fail
     go_loopg [23] l.length (λ g v wr => ∃ k : Nat, k + g = l.length /\ v = .int .i64 k /\ bY f l k /\ Below w.heap.size w wr)
     case atStart => exact ⟨0, by omega, rfl, bY.zero, Below.refl _ _⟩
     case round =>
      obtain ⟨k, hkg, rfl, hto, hbw⟩ := hrel; have HK := zH hkg; have HW := zH hbw; have HT := zH hto; have hszw := hbw.size; have hkl : k <= l.length := zO; clear hkg hbw hto; by_cases hlt : k < l.length
      . obtain ⟨x, hx⟩ := zG hlt; obtain ⟨L, hEL, hRL⟩ := hea k x hx; obtain ⟨ps0, pA1, pn1, pk1, pA2, pn2, pk2, rfl⟩ := bt.shape hRL; have HF := zH (hf x (List.mem_of_getElem? hx) _ hRL); clear hRL; have HB0 := zH (HW0.o.trans (HW.o.mono hsz0)); have HX := zH hx; obtain ⟨a, rfl, hab, haa, d0, d1, d2⟩ := il (hEL.under HB0.o); clear hEL hea hf hx; cases hfx : f x
        . have HFX := zH hfx; rw [hfx] at HF; clear hfx; go_wp2_with (go_at_call 158; refine (HF.o _ (HB0.o.alloc zO _)).mono ?_; rintro e w1 ⟨rfl, hb1⟩)
          go_ret; exact ⟨au (by rw [eu HX.o HFX.o]), (HW.o.alloc zO _).trans (hb1.mono (by simp; omega))⟩
        . have HFX := zH hfx; rw [hfx] at HF; clear hfx; go_wp2_with (go_at_call 158; refine (HF.o _ (HB0.o.alloc zO _)).mono ?_; rintro e w1 ⟨rfl, hb1⟩)
          go_roundg (l.length - (k + 1))
          case measure => have := HK.o; omega
          case rel => exact ⟨k + 1, by omega, by go_num, HT.o.succ HX.o HFX.o, (HW.o.alloc zO _).trans (hb1.mono (by simp; omega))⟩
      . have hke : k = l.length := by omega
        have HKE := zH hke; clear hke; go_wp2_with fail
        go_ret; exact ⟨au (by rw [HT.o.all HKE.o]; simp; omega), HW.o⟩
theorem Fl {w0 : World} {va : Value} {l : List a8} {f : a8 -> Bool} {lo hi : Int} (ha : aw w0 (bf w0) va l) {rv : Value}
  (hf : ∀ x ∈ l, ∀ L, bf w0 L x -> ∀ w, Below w0.heap.size w0 w -> Calls prog 123 #[rv, .agg L.toArray] w (aA (f x) w)) :
  ∀ w, Below w0.heap.size w0 w -> Calls prog 122 #[va, .int .i64 lo, .int .i64 hi, .func (.func 123) #[rv] #[]] w (aA (decide (lo <= l.length) && decide ((l.length : Int) <= hi) && l.all f) w) := by
 intro w hw; obtain ⟨A, ca, rfl, hca, hma, hea⟩ := ha; have hla : l.length <= 9223372036854775807 := (by unfold maxLen at hma; omega); have HW0 := zH hw; have hsz0 := hw.size; clear hw hca hma; by_cases hlo : (l.length : Int) < lo
 . go_enter func122, ntmps122
   go_wp2_with fail
   go_ret; exact ⟨au (by simp; omega), Below.refl _ _⟩
 . by_cases hhi : hi < (l.length : Int)
   . go_enter func122, ntmps122
     go_wp2_with fail
     go_ret; exact ⟨au (by simp; omega), Below.refl _ _⟩
   . go_enter func122, ntmps122
     go_wp2_with fail
     go_loopg [23] l.length (λ g v wr => ∃ k : Nat, k + g = l.length /\ v = .int .i64 k /\ bY f l k /\ Below w.heap.size w wr)
     case atStart => exact ⟨0, by omega, rfl, bY.zero, Below.refl _ _⟩
     case round =>
      obtain ⟨k, hkg, rfl, hto, hbw⟩ := hrel; have HK := zH hkg; have HW := zH hbw; have HT := zH hto; have hszw := hbw.size; have hkl : k <= l.length := zO; clear hkg hbw hto; by_cases hlt : k < l.length
      . obtain ⟨x, hx⟩ := zG hlt; obtain ⟨L, hEL, hRL⟩ := hea k x hx; obtain ⟨pA0, pn0, pk0, po1, ps2, po3, pA4, pn4, pk4, pA5, pn5, pk5, pA6, pn6, pk6, rfl⟩ := bf.shape hRL; have HF := zH (hf x (List.mem_of_getElem? hx) _ hRL); clear hRL; have HB0 := zH (HW0.o.trans (HW.o.mono hsz0)); have HX := zH hx; obtain ⟨a, rfl, hab, haa, d0, d1, d2, d3, d4, d5, d6⟩ := qG (hEL.under HB0.o); clear hEL hea hf hx; cases hfx : f x
        . have HFX := zH hfx; rw [hfx] at HF; clear hfx; go_wp2_with (go_at_call 123; refine (HF.o _ (HB0.o.alloc zO _)).mono ?_; rintro e w1 ⟨rfl, hb1⟩)
          go_ret; exact ⟨au (by rw [eu HX.o HFX.o]), (HW.o.alloc zO _).trans (hb1.mono (by simp; omega))⟩
        . have HFX := zH hfx; rw [hfx] at HF; clear hfx; go_wp2_with (go_at_call 123; refine (HF.o _ (HB0.o.alloc zO _)).mono ?_; rintro e w1 ⟨rfl, hb1⟩)
          go_roundg (l.length - (k + 1))
          case measure => have := HK.o; omega
          case rel => exact ⟨k + 1, by omega, by go_num, HT.o.succ HX.o HFX.o, (HW.o.alloc zO _).trans (hb1.mono (by simp; omega))⟩
      . have hke : k = l.length := by omega
        have HKE := zH hke; clear hke; go_wp2_with fail
        go_ret; exact ⟨au (by rw [HT.o.all HKE.o]; simp; omega), HW.o⟩
theorem Fo {w0 : World} {va : Value} {l : List dw} {f : dw -> Bool} {lo hi : Int} (ha : aw w0 (bE w0) va l) {rv : Value}
  (hf : ∀ x ∈ l, ∀ L, bE w0 L x -> ∀ w, Below w0.heap.size w0 w -> Calls prog 72 #[rv, .agg L.toArray] w (aA (f x) w)) :
  ∀ w, Below w0.heap.size w0 w -> Calls prog 71 #[va, .int .i64 lo, .int .i64 hi, .func (.func 72) #[rv] #[]] w (aA (decide (lo <= l.length) && decide ((l.length : Int) <= hi) && l.all f) w) := by
 intro w hw; obtain ⟨A, ca, rfl, hca, hma, hea⟩ := ha; have hla : l.length <= 9223372036854775807 := (by unfold maxLen at hma; omega); have HW0 := zH hw; have hsz0 := hw.size; clear hw hca hma; by_cases hlo : (l.length : Int) < lo
 . go_enter func71, ntmps71
   go_wp2_with fail
   go_ret; exact ⟨au (by simp; omega), Below.refl _ _⟩
 . by_cases hhi : hi < (l.length : Int)
   . go_enter func71, ntmps71
     go_wp2_with fail
     go_ret; exact ⟨au (by simp; omega), Below.refl _ _⟩
   . go_enter func71, ntmps71
     go_wp2_with fail
     go_loopg [23] l.length (λ g v wr => ∃ k : Nat, k + g = l.length /\ v = .int .i64 k /\ bY f l k /\ Below w.heap.size w wr)
     case atStart => exact ⟨0, by omega, rfl, bY.zero, Below.refl _ _⟩
     case round =>
      obtain ⟨k, hkg, rfl, hto, hbw⟩ := hrel; have HK := zH hkg; have HW := zH hbw; have HT := zH hto; have hszw := hbw.size; have hkl : k <= l.length := zO; clear hkg hbw hto; by_cases hlt : k < l.length
      . obtain ⟨x, hx⟩ := zG hlt; obtain ⟨L, hEL, hRL⟩ := hea k x hx; obtain ⟨ps0, pA1, pn1, pk1, rfl⟩ := bE.shape hRL; have HF := zH (hf x (List.mem_of_getElem? hx) _ hRL); clear hRL; have HB0 := zH (HW0.o.trans (HW.o.mono hsz0)); have HX := zH hx; obtain ⟨a, rfl, hab, haa, d0, d1⟩ := mT (hEL.under HB0.o); clear hEL hea hf hx; cases hfx : f x
        . have HFX := zH hfx; rw [hfx] at HF; clear hfx; go_wp2_with (go_at_call 72; refine (HF.o _ (HB0.o.alloc zO _)).mono ?_; rintro e w1 ⟨rfl, hb1⟩)
          go_ret; exact ⟨au (by rw [eu HX.o HFX.o]), (HW.o.alloc zO _).trans (hb1.mono (by simp; omega))⟩
        . have HFX := zH hfx; rw [hfx] at HF; clear hfx; go_wp2_with (go_at_call 72; refine (HF.o _ (HB0.o.alloc zO _)).mono ?_; rintro e w1 ⟨rfl, hb1⟩)
          go_roundg (l.length - (k + 1))
          case measure => have := HK.o; omega
          case rel => exact ⟨k + 1, by omega, by go_num, HT.o.succ HX.o HFX.o, (HW.o.alloc zO _).trans (hb1.mono (by simp; omega))⟩
      . have hke : k = l.length := by omega
        have HKE := zH hke; clear hke; go_wp2_with fail
        go_ret; exact ⟨au (by rw [HT.o.all HKE.o]; simp; omega), HW.o⟩
theorem Fk {w0 : World} {va : Value} {l : List aY} {f : aY -> Bool} {lo hi : Int} (ha : aw w0 (ch w0) va l) {rv : Value}
  (hf : ∀ x ∈ l, ∀ L, ch w0 L x -> ∀ w, Below w0.heap.size w0 w -> Calls prog 74 #[rv, .agg L.toArray] w (aA (f x) w)) :
  ∀ w, Below w0.heap.size w0 w -> Calls prog 73 #[va, .int .i64 lo, .int .i64 hi, .func (.func 74) #[rv] #[]] w (aA (decide (lo <= l.length) && decide ((l.length : Int) <= hi) && l.all f) w) := by
 intro w hw; obtain ⟨A, ca, rfl, hca, hma, hea⟩ := ha; have hla : l.length <= 9223372036854775807 := (by unfold maxLen at hma; omega); have HW0 := zH hw; have hsz0 := hw.size; clear hw hca hma; by_cases hlo : (l.length : Int) < lo
 . go_enter func73, ntmps73
   go_wp2_with fail
   go_ret; exact ⟨au (by simp; omega), Below.refl _ _⟩
 . by_cases hhi : hi < (l.length : Int)
   . go_enter func73, ntmps73
     go_wp2_with fail
     go_ret; exact ⟨au (by simp; omega), Below.refl _ _⟩
   . go_enter func73, ntmps73
     go_wp2_with fail
     go_loopg [23] l.length (λ g v wr => ∃ k : Nat, k + g = l.length /\ v = .int .i64 k /\ bY f l k /\ Below w.heap.size w wr)
     case atStart => exact ⟨0, by omega, rfl, bY.zero, Below.refl _ _⟩
     case round =>
      obtain ⟨k, hkg, rfl, hto, hbw⟩ := hrel; have HK := zH hkg; have HW := zH hbw; have HT := zH hto; have hszw := hbw.size; have hkl : k <= l.length := zO; clear hkg hbw hto; by_cases hlt : k < l.length
      . obtain ⟨x, hx⟩ := zG hlt; obtain ⟨L, hEL, hRL⟩ := hea k x hx; obtain ⟨ps0, pA1, pn1, pk1, pA2, pn2, pk2, pA3, pn3, pk3, pA4, pn4, pk4, rfl⟩ := ch.shape hRL; have HF := zH (hf x (List.mem_of_getElem? hx) _ hRL); clear hRL; have HB0 := zH (HW0.o.trans (HW.o.mono hsz0)); have HX := zH hx; obtain ⟨a, rfl, hab, haa, d0, d1, d2, d3, d4⟩ := fB (hEL.under HB0.o); clear hEL hea hf hx; cases hfx : f x
        . have HFX := zH hfx; rw [hfx] at HF; clear hfx; go_wp2_with (go_at_call 74; refine (HF.o _ (HB0.o.alloc zO _)).mono ?_; rintro e w1 ⟨rfl, hb1⟩)
          go_ret; exact ⟨au (by rw [eu HX.o HFX.o]), (HW.o.alloc zO _).trans (hb1.mono (by simp; omega))⟩
        . have HFX := zH hfx; rw [hfx] at HF; clear hfx; go_wp2_with (go_at_call 74; refine (HF.o _ (HB0.o.alloc zO _)).mono ?_; rintro e w1 ⟨rfl, hb1⟩)
          go_roundg (l.length - (k + 1))
          case measure => have := HK.o; omega
          case rel => exact ⟨k + 1, by omega, by go_num, HT.o.succ HX.o HFX.o, (HW.o.alloc zO _).trans (hb1.mono (by simp; omega))⟩
      . have hke : k = l.length := by omega
        have HKE := zH hke; clear hke; go_wp2_with fail
        go_ret; exact ⟨au (by rw [HT.o.all HKE.o]; simp; omega), HW.o⟩
end Go.Proofs.YtkfacdofkfabnaaGreatDoor
