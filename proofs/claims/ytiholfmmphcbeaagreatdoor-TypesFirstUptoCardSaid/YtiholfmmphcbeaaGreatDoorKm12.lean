import Derived.Shelf.Abstract
import Derived.Test.YtiholfmmphcbeaaGreatDoorKm11
set_option maxHeartbeats 1000000
namespace Go.Proofs.YtiholfmmphcbeaaGreatDoor
open _root_.Go.Proofs.Tryz
open Go.RowKit
def bL {X : Type} (f : X -> Bool) (l : List X) (k : Nat) : Prop := ∀ (i : Nat) x, i < k -> l[i]? = some x -> f x = true
theorem bL.zero {X : Type} {f : X -> Bool} {l : List X} : bL f l 0 := λ _ _ h => absurd h zO
theorem bL.succ {X : Type} {f : X -> Bool} {l : List X} {k : Nat} (h : bL f l k) {x : X} (hx : l[k]? = some x) (hf : f x = true) : bL f l (k + 1) := by
 intro i a hi ha; by_cases e : i = k
 . subst e; rw [ha] at hx; cases hx; exact hf
 . exact h i a zO ha
theorem bL.all {X : Type} {f : X -> Bool} {l : List X} {k : Nat} (h : bL f l k) (hk : k = l.length) : l.all f = true := by
 rw [List.all_eq_true]; intro x hx; obtain ⟨i, hi, rfl⟩ := List.getElem_of_mem hx; exact h i _ zO (List.getElem?_eq_getElem hi)
theorem ej {X : Type} {f : X -> Bool} {l : List X} {k : Nat} {x : X} (hx : l[k]? = some x) (hf : f x = false) : l.all f = false := by
 rw [Bool.eq_false_iff]; intro h; rw [List.all_eq_true] at h; rw [h x (List.mem_of_getElem? hx)] at hf; cases hf
theorem fV {w0 : World} {va : Value} {l : List Tx} {f : Tx -> Bool} {lo hi : Int} (ha : aF w0 va l) {g : FuncId} {cap : Array Value} (eg : ∀ (args : Array Value) (W : World), (callFunc g args).run prog W = .ok (.enter g args) W)
  (hf : ∀ x ∈ l, x.length <= maxLen -> ∀ w, Below w0.heap.size w0 w -> Calls prog g (#[.string (str x)] ++ cap) w (ar (f x) w)) :
  ∀ w, Below w0.heap.size w0 w -> Calls prog 127 #[va, .int .i64 lo, .int .i64 hi, .func (.func g) #[] cap] w (ar (decide (lo <= l.length) && decide ((l.length : Int) <= hi) && l.all f) w) := by
 intro w hw; obtain ⟨A, ca, rfl, hca, hma, hea⟩ := ha; have hla : l.length <= 9223372036854775807 := (by unfold maxLen at hma; omega); have HW0 := zH hw; have hsz0 := hw.size; clear hw hca hma; by_cases hlo : (l.length : Int) < lo
 . go_enter func127, ntmps127
   go_wp2_with fail
   go_ret; exact ⟨ah (by simp; omega), Below.refl _ _⟩
 . by_cases hhi : hi < (l.length : Int)
   . go_enter func127, ntmps127
     go_wp2_with fail
     go_ret; exact ⟨ah (by simp; omega), Below.refl _ _⟩
   . go_enter func127, ntmps127
     go_wp2_with fail
     go_loopg [23] l.length (λ g v wr => ∃ k : Nat, k + g = l.length /\ v = .int .i64 k /\ bL f l k /\ Below w.heap.size w wr)
     case atStart => exact ⟨0, by omega, rfl, bL.zero, Below.refl _ _⟩
     case round =>
      obtain ⟨k, hkg, rfl, hto, hbw⟩ := hrel; have HK := zH hkg; have HW := zH hbw; have HT := zH hto; have hszw := hbw.size; have hkl : k <= l.length := zO; clear hkg hbw hto; by_cases hlt : k < l.length
      . obtain ⟨x, hx⟩ := zG hlt; obtain ⟨L, hEL, rfl, hxl⟩ := hea k x hx; have HF := zH (hf x (List.mem_of_getElem? hx) hxl); have HB0 := zH (HW0.o.trans (HW.o.mono hsz0)); have HX := zH hx; obtain ⟨a, rfl, hab, haa, d0⟩ := dL (hEL.under HB0.o); rw [Nat.mul_one] at d0; clear hEL hea hf hx; cases hfx : f x
        . have HFX := zH hfx; rw [hfx] at HF; clear hfx; go_wp2_with (go_at_fn g; refine (HF.o _ HB0.o).mono ?_; rintro e w1 ⟨rfl, hb1⟩)
          go_ret; exact ⟨ah (by rw [ej HX.o HFX.o]), HW.o.trans (hb1.mono zO)⟩
        . have HFX := zH hfx; rw [hfx] at HF; clear hfx; go_wp2_with (go_at_fn g; refine (HF.o _ HB0.o).mono ?_; rintro e w1 ⟨rfl, hb1⟩)
          go_roundg (l.length - (k + 1))
          case measure => have := HK.o; omega
          case rel => exact ⟨k + 1, by omega, by go_num, HT.o.succ HX.o HFX.o, HW.o.trans (hb1.mono zO)⟩
      . have hke : k = l.length := by omega
        have HKE := zH hke; clear hke; go_wp2_with fail
        go_ret; exact ⟨ah (by rw [HT.o.all HKE.o]; simp; omega), HW.o⟩
theorem EE {w0 : World} {va : Value} {l : List Ex} {f : Ex -> Bool} {lo hi : Int} (ha : ak w0 (bM w0) va l) {rv : Value}
  (hf : ∀ x ∈ l, ∀ L, bM w0 L x -> ∀ w, Below w0.heap.size w0 w -> Calls prog 181 #[rv, .agg L.toArray] w (ar (f x) w)) :
  ∀ w, Below w0.heap.size w0 w -> Calls prog 201 #[va, .int .i64 lo, .int .i64 hi, .func (.func 181) #[rv] #[]] w (ar (decide (lo <= l.length) && decide ((l.length : Int) <= hi) && l.all f) w) := by
 intro w hw; obtain ⟨A, ca, rfl, hca, hma, hea⟩ := ha; have hla : l.length <= 9223372036854775807 := (by unfold maxLen at hma; omega); have HW0 := zH hw; have hsz0 := hw.size; clear hw hca hma; by_cases hlo : (l.length : Int) < lo
 . go_enter func201, ntmps201
   go_wp2_with fail
   go_ret; exact ⟨ah (by simp; omega), Below.refl _ _⟩
 . by_cases hhi : hi < (l.length : Int)
   . go_enter func201, ntmps201
     go_wp2_with fail
     go_ret; exact ⟨ah (by simp; omega), Below.refl _ _⟩
   . go_enter func201, ntmps201
     go_wp2_with fail
     go_loopg [23] l.length (λ g v wr => ∃ k : Nat, k + g = l.length /\ v = .int .i64 k /\ bL f l k /\ Below w.heap.size w wr)
     case atStart => exact ⟨0, by omega, rfl, bL.zero, Below.refl _ _⟩
     case round =>
      obtain ⟨k, hkg, rfl, hto, hbw⟩ := hrel; have HK := zH hkg; have HW := zH hbw; have HT := zH hto; have hszw := hbw.size; have hkl : k <= l.length := zO; clear hkg hbw hto; by_cases hlt : k < l.length
      . obtain ⟨x, hx⟩ := zG hlt; obtain ⟨L, hEL, hRL⟩ := hea k x hx; obtain ⟨po0, ps1, po2, pA3, pn3, pk3, pA4, pn4, pk4, rfl⟩ := bM.shape hRL; have HF := zH (hf x (List.mem_of_getElem? hx) _ hRL); clear hRL; have HB0 := zH (HW0.o.trans (HW.o.mono hsz0)); have HX := zH hx; obtain ⟨a, rfl, hab, haa, d0, d1, d2, d3, d4⟩ := eh (hEL.under HB0.o); clear hEL hea hf hx; cases hfx : f x
        . have HFX := zH hfx; rw [hfx] at HF; clear hfx; go_wp2_with (go_at_call 181; refine (HF.o _ (HB0.o.alloc zO _)).mono ?_; rintro e w1 ⟨rfl, hb1⟩)
          go_ret; exact ⟨ah (by rw [ej HX.o HFX.o]), (HW.o.alloc zO _).trans (hb1.mono (by simp; omega))⟩
        . have HFX := zH hfx; rw [hfx] at HF; clear hfx; go_wp2_with (go_at_call 181; refine (HF.o _ (HB0.o.alloc zO _)).mono ?_; rintro e w1 ⟨rfl, hb1⟩)
          go_roundg (l.length - (k + 1))
          case measure => have := HK.o; omega
          case rel => exact ⟨k + 1, by omega, by go_num, HT.o.succ HX.o HFX.o, (HW.o.alloc zO _).trans (hb1.mono (by simp; omega))⟩
      . have hke : k = l.length := by omega
        have HKE := zH hke; clear hke; go_wp2_with fail
        go_ret; exact ⟨ah (by rw [HT.o.all HKE.o]; simp; omega), HW.o⟩
theorem IM {w0 : World} {va : Value} {l : List QEq} {f : QEq -> Bool} {lo hi : Int} (ha : ak w0 (l7 w0) va l) {rv : Value}
  (hf : ∀ x ∈ l, ∀ L, l7 w0 L x -> ∀ w, Below w0.heap.size w0 w -> Calls prog 160 #[rv, .agg L.toArray] w (ar (f x) w)) :
  ∀ w, Below w0.heap.size w0 w -> Calls prog 184 #[va, .int .i64 lo, .int .i64 hi, .func (.func 160) #[rv] #[]] w (ar (decide (lo <= l.length) && decide ((l.length : Int) <= hi) && l.all f) w) := by
 intro w hw; obtain ⟨A, ca, rfl, hca, hma, hea⟩ := ha; have hla : l.length <= 9223372036854775807 := (by unfold maxLen at hma; omega); have HW0 := zH hw; have hsz0 := hw.size; clear hw hca hma; by_cases hlo : (l.length : Int) < lo
 . go_enter func184, ntmps184
   go_wp2_with fail
   go_ret; exact ⟨ah (by simp; omega), Below.refl _ _⟩
 . by_cases hhi : hi < (l.length : Int)
   . go_enter func184, ntmps184
     go_wp2_with fail
     go_ret; exact ⟨ah (by simp; omega), Below.refl _ _⟩
   . go_enter func184, ntmps184
     go_wp2_with fail
     go_loopg [23] l.length (λ g v wr => ∃ k : Nat, k + g = l.length /\ v = .int .i64 k /\ bL f l k /\ Below w.heap.size w wr)
     case atStart => exact ⟨0, by omega, rfl, bL.zero, Below.refl _ _⟩
     case round =>
      obtain ⟨k, hkg, rfl, hto, hbw⟩ := hrel; have HK := zH hkg; have HW := zH hbw; have HT := zH hto; have hszw := hbw.size; have hkl : k <= l.length := zO; clear hkg hbw hto; by_cases hlt : k < l.length
      . obtain ⟨x, hx⟩ := zG hlt; obtain ⟨L, hEL, hRL⟩ := hea k x hx; obtain ⟨pA0, pn0, pk0, po1, ps2, po3, pA4, pn4, pk4, pA5, pn5, pk5, rfl⟩ := l7.shape hRL; have HF := zH (hf x (List.mem_of_getElem? hx) _ hRL); clear hRL; have HB0 := zH (HW0.o.trans (HW.o.mono hsz0)); have HX := zH hx; obtain ⟨a, rfl, hab, haa, d0, d1, d2, d3, d4, d5⟩ := mV (hEL.under HB0.o); clear hEL hea hf hx; cases hfx : f x
        . have HFX := zH hfx; rw [hfx] at HF; clear hfx; go_wp2_with (go_at_call 160; refine (HF.o _ (HB0.o.alloc zO _)).mono ?_; rintro e w1 ⟨rfl, hb1⟩)
          go_ret; exact ⟨ah (by rw [ej HX.o HFX.o]), (HW.o.alloc zO _).trans (hb1.mono (by simp; omega))⟩
        . have HFX := zH hfx; rw [hfx] at HF; clear hfx; go_wp2_with (go_at_call 160; refine (HF.o _ (HB0.o.alloc zO _)).mono ?_; rintro e w1 ⟨rfl, hb1⟩)
          go_roundg (l.length - (k + 1))
          case measure => have := HK.o; omega
          case rel => exact ⟨k + 1, by omega, by go_num, HT.o.succ HX.o HFX.o, (HW.o.alloc zO _).trans (hb1.mono (by simp; omega))⟩
      . have hke : k = l.length := by omega
        have HKE := zH hke; clear hke; go_wp2_with fail
        go_ret; exact ⟨ah (by rw [HT.o.all HKE.o]; simp; omega), HW.o⟩
theorem Gv {w0 : World} {va : Value} {l : List iO} {f : iO -> Bool} {lo hi : Int} (ha : ak w0 (gp w0) va l) {rv : Value}
  (hf : ∀ x ∈ l, ∀ L, gp w0 L x -> ∀ w, Below w0.heap.size w0 w -> Calls prog 186 #[rv, .agg L.toArray] w (ar (f x) w)) :
  ∀ w, Below w0.heap.size w0 w -> Calls prog 185 #[va, .int .i64 lo, .int .i64 hi, .func (.func 186) #[rv] #[]] w (ar (decide (lo <= l.length) && decide ((l.length : Int) <= hi) && l.all f) w) := by
 intro w hw; obtain ⟨A, ca, rfl, hca, hma, hea⟩ := ha; have hla : l.length <= 9223372036854775807 := (by unfold maxLen at hma; omega); have HW0 := zH hw; have hsz0 := hw.size; clear hw hca hma; by_cases hlo : (l.length : Int) < lo
 . go_enter func185, ntmps185
   go_wp2_with fail
   go_ret; exact ⟨ah (by simp; omega), Below.refl _ _⟩
 . by_cases hhi : hi < (l.length : Int)
   . go_enter func185, ntmps185
     go_wp2_with fail
     go_ret; exact ⟨ah (by simp; omega), Below.refl _ _⟩
   . go_enter func185, ntmps185
     go_wp2_with fail
     go_loopg [23] l.length (λ g v wr => ∃ k : Nat, k + g = l.length /\ v = .int .i64 k /\ bL f l k /\ Below w.heap.size w wr)
     case atStart => exact ⟨0, by omega, rfl, bL.zero, Below.refl _ _⟩
     case round =>
      obtain ⟨k, hkg, rfl, hto, hbw⟩ := hrel; have HK := zH hkg; have HW := zH hbw; have HT := zH hto; have hszw := hbw.size; have hkl : k <= l.length := zO; clear hkg hbw hto; by_cases hlt : k < l.length
      . obtain ⟨x, hx⟩ := zG hlt; obtain ⟨L, hEL, hRL⟩ := hea k x hx; obtain ⟨po0, ps1, po2, pA3, pn3, pk3, pA4, pn4, pk4, ps5, rfl⟩ := gp.shape hRL; have HF := zH (hf x (List.mem_of_getElem? hx) _ hRL); clear hRL; have HB0 := zH (HW0.o.trans (HW.o.mono hsz0)); have HX := zH hx; obtain ⟨a, rfl, hab, haa, d0, d1, d2, d3, d4, d5⟩ := mV (hEL.under HB0.o); clear hEL hea hf hx; cases hfx : f x
        . have HFX := zH hfx; rw [hfx] at HF; clear hfx; go_wp2_with (go_at_call 186; refine (HF.o _ (HB0.o.alloc zO _)).mono ?_; rintro e w1 ⟨rfl, hb1⟩)
          go_ret; exact ⟨ah (by rw [ej HX.o HFX.o]), (HW.o.alloc zO _).trans (hb1.mono (by simp; omega))⟩
        . have HFX := zH hfx; rw [hfx] at HF; clear hfx; go_wp2_with (go_at_call 186; refine (HF.o _ (HB0.o.alloc zO _)).mono ?_; rintro e w1 ⟨rfl, hb1⟩)
          go_roundg (l.length - (k + 1))
          case measure => have := HK.o; omega
          case rel => exact ⟨k + 1, by omega, by go_num, HT.o.succ HX.o HFX.o, (HW.o.alloc zO _).trans (hb1.mono (by simp; omega))⟩
      . have hke : k = l.length := by omega
        have HKE := zH hke; clear hke; go_wp2_with fail
        go_ret; exact ⟨ah (by rw [HT.o.all HKE.o]; simp; omega), HW.o⟩
theorem Ch {w0 : World} {va : Value} {l : List aZ} {f : aZ -> Bool} {lo hi : Int} (ha : ak w0 (cj w0) va l) {rv : Value}
  (hf : ∀ x ∈ l, ∀ L, cj w0 L x -> ∀ w, Below w0.heap.size w0 w -> Calls prog 163 #[rv, .agg L.toArray] w (ar (f x) w)) :
  ∀ w, Below w0.heap.size w0 w -> Calls prog 162 #[va, .int .i64 lo, .int .i64 hi, .func (.func 163) #[rv] #[]] w (ar (decide (lo <= l.length) && decide ((l.length : Int) <= hi) && l.all f) w) := by
 intro w hw; obtain ⟨A, ca, rfl, hca, hma, hea⟩ := ha; have hla : l.length <= 9223372036854775807 := (by unfold maxLen at hma; omega); have HW0 := zH hw; have hsz0 := hw.size; clear hw hca hma; by_cases hlo : (l.length : Int) < lo
 . go_enter func162, ntmps162
   go_wp2_with fail
   go_ret; exact ⟨ah (by simp; omega), Below.refl _ _⟩
 . by_cases hhi : hi < (l.length : Int)
   . go_enter func162, ntmps162
     go_wp2_with fail
     go_ret; exact ⟨ah (by simp; omega), Below.refl _ _⟩
   . go_enter func162, ntmps162
     go_wp2_with fail
     go_loopg [23] l.length (λ g v wr => ∃ k : Nat, k + g = l.length /\ v = .int .i64 k /\ bL f l k /\ Below w.heap.size w wr)
     case atStart => exact ⟨0, by omega, rfl, bL.zero, Below.refl _ _⟩
     case round =>
      obtain ⟨k, hkg, rfl, hto, hbw⟩ := hrel; have HK := zH hkg; have HW := zH hbw; have HT := zH hto; have hszw := hbw.size; have hkl : k <= l.length := zO; clear hkg hbw hto; by_cases hlt : k < l.length
      . obtain ⟨x, hx⟩ := zG hlt; obtain ⟨L, hEL, hRL⟩ := hea k x hx; obtain ⟨ps0, pA1, pn1, pk1, pA2, pn2, pk2, rfl⟩ := cj.shape hRL; have HF := zH (hf x (List.mem_of_getElem? hx) _ hRL); clear hRL; have HB0 := zH (HW0.o.trans (HW.o.mono hsz0)); have HX := zH hx; obtain ⟨a, rfl, hab, haa, d0, d1, d2⟩ := gz (hEL.under HB0.o); clear hEL hea hf hx; cases hfx : f x
        . have HFX := zH hfx; rw [hfx] at HF; clear hfx; go_wp2_with (go_at_call 163; refine (HF.o _ (HB0.o.alloc zO _)).mono ?_; rintro e w1 ⟨rfl, hb1⟩)
          go_ret; exact ⟨ah (by rw [ej HX.o HFX.o]), (HW.o.alloc zO _).trans (hb1.mono (by simp; omega))⟩
        . have HFX := zH hfx; rw [hfx] at HF; clear hfx; go_wp2_with (go_at_call 163; refine (HF.o _ (HB0.o.alloc zO _)).mono ?_; rintro e w1 ⟨rfl, hb1⟩)
          go_roundg (l.length - (k + 1))
          case measure => have := HK.o; omega
          case rel => exact ⟨k + 1, by omega, by go_num, HT.o.succ HX.o HFX.o, (HW.o.alloc zO _).trans (hb1.mono (by simp; omega))⟩
      . have hke : k = l.length := by omega
        have HKE := zH hke; clear hke; go_wp2_with fail
        go_ret; exact ⟨ah (by rw [HT.o.all HKE.o]; simp; omega), HW.o⟩
theorem ED {w0 : World} {va : Value} {l : List bf} {f : bf -> Bool} {lo hi : Int} (ha : ak w0 (dz w0) va l) {rv : Value}
  (hf : ∀ x ∈ l, ∀ L, dz w0 L x -> ∀ w, Below w0.heap.size w0 w -> Calls prog 129 #[rv, .agg L.toArray] w (ar (f x) w)) :
  ∀ w, Below w0.heap.size w0 w -> Calls prog 128 #[va, .int .i64 lo, .int .i64 hi, .func (.func 129) #[rv] #[]] w (ar (decide (lo <= l.length) && decide ((l.length : Int) <= hi) && l.all f) w) := by
 intro w hw; obtain ⟨A, ca, rfl, hca, hma, hea⟩ := ha; have hla : l.length <= 9223372036854775807 := (by unfold maxLen at hma; omega); have HW0 := zH hw; have hsz0 := hw.size; clear hw hca hma; by_cases hlo : (l.length : Int) < lo
 . go_enter func128, ntmps128
   go_wp2_with fail
   go_ret; exact ⟨ah (by simp; omega), Below.refl _ _⟩
 . by_cases hhi : hi < (l.length : Int)
   . go_enter func128, ntmps128
     go_wp2_with fail
     go_ret; exact ⟨ah (by simp; omega), Below.refl _ _⟩
   . go_enter func128, ntmps128
     go_wp2_with fail
     go_loopg [23] l.length (λ g v wr => ∃ k : Nat, k + g = l.length /\ v = .int .i64 k /\ bL f l k /\ Below w.heap.size w wr)
     case atStart => exact ⟨0, by omega, rfl, bL.zero, Below.refl _ _⟩
     case round =>
      obtain ⟨k, hkg, rfl, hto, hbw⟩ := hrel; have HK := zH hkg; have HW := zH hbw; have HT := zH hto; have hszw := hbw.size; have hkl : k <= l.length := zO; clear hkg hbw hto; by_cases hlt : k < l.length
      . obtain ⟨x, hx⟩ := zG hlt; obtain ⟨L, hEL, hRL⟩ := hea k x hx; obtain ⟨pA0, pn0, pk0, po1, ps2, po3, pA4, pn4, pk4, pA5, pn5, pk5, pA6, pn6, pk6, rfl⟩ := dz.shape hRL; have HF := zH (hf x (List.mem_of_getElem? hx) _ hRL); clear hRL; have HB0 := zH (HW0.o.trans (HW.o.mono hsz0)); have HX := zH hx; obtain ⟨a, rfl, hab, haa, d0, d1, d2, d3, d4, d5, d6⟩ := ox (hEL.under HB0.o); clear hEL hea hf hx; cases hfx : f x
        . have HFX := zH hfx; rw [hfx] at HF; clear hfx; go_wp2_with (go_at_call 129; refine (HF.o _ (HB0.o.alloc zO _)).mono ?_; rintro e w1 ⟨rfl, hb1⟩)
          go_ret; exact ⟨ah (by rw [ej HX.o HFX.o]), (HW.o.alloc zO _).trans (hb1.mono (by simp; omega))⟩
        . have HFX := zH hfx; rw [hfx] at HF; clear hfx; go_wp2_with (go_at_call 129; refine (HF.o _ (HB0.o.alloc zO _)).mono ?_; rintro e w1 ⟨rfl, hb1⟩)
          go_roundg (l.length - (k + 1))
          case measure => have := HK.o; omega
          case rel => exact ⟨k + 1, by omega, by go_num, HT.o.succ HX.o HFX.o, (HW.o.alloc zO _).trans (hb1.mono (by simp; omega))⟩
      . have hke : k = l.length := by omega
        have HKE := zH hke; clear hke; go_wp2_with fail
        go_ret; exact ⟨ah (by rw [HT.o.all HKE.o]; simp; omega), HW.o⟩
theorem EF {w0 : World} {va : Value} {l : List fo} {f : fo -> Bool} {lo hi : Int} (ha : ak w0 (fW w0) va l) {rv : Value}
  (hf : ∀ x ∈ l, ∀ L, fW w0 L x -> ∀ w, Below w0.heap.size w0 w -> Calls prog 84 #[rv, .agg L.toArray] w (ar (f x) w)) :
  ∀ w, Below w0.heap.size w0 w -> Calls prog 83 #[va, .int .i64 lo, .int .i64 hi, .func (.func 84) #[rv] #[]] w (ar (decide (lo <= l.length) && decide ((l.length : Int) <= hi) && l.all f) w) := by
 intro w hw; obtain ⟨A, ca, rfl, hca, hma, hea⟩ := ha; have hla : l.length <= 9223372036854775807 := (by unfold maxLen at hma; omega); have HW0 := zH hw; have hsz0 := hw.size; clear hw hca hma; by_cases hlo : (l.length : Int) < lo
 . go_enter func83, ntmps83
   go_wp2_with fail
   go_ret; exact ⟨ah (by simp; omega), Below.refl _ _⟩
 . by_cases hhi : hi < (l.length : Int)
   . go_enter func83, ntmps83
     go_wp2_with fail
     go_ret; exact ⟨ah (by simp; omega), Below.refl _ _⟩
   . go_enter func83, ntmps83
     go_wp2_with fail
     go_loopg [23] l.length (λ g v wr => ∃ k : Nat, k + g = l.length /\ v = .int .i64 k /\ bL f l k /\ Below w.heap.size w wr)
     case atStart => exact ⟨0, by omega, rfl, bL.zero, Below.refl _ _⟩
     case round =>
      obtain ⟨k, hkg, rfl, hto, hbw⟩ := hrel; have HK := zH hkg; have HW := zH hbw; have HT := zH hto; have hszw := hbw.size; have hkl : k <= l.length := zO; clear hkg hbw hto; by_cases hlt : k < l.length
      . obtain ⟨x, hx⟩ := zG hlt; obtain ⟨L, hEL, hRL⟩ := hea k x hx; obtain ⟨ps0, pA1, pn1, pk1, rfl⟩ := fW.shape hRL; have HF := zH (hf x (List.mem_of_getElem? hx) _ hRL); clear hRL; have HB0 := zH (HW0.o.trans (HW.o.mono hsz0)); have HX := zH hx; obtain ⟨a, rfl, hab, haa, d0, d1⟩ := Eb (hEL.under HB0.o); clear hEL hea hf hx; cases hfx : f x
        . have HFX := zH hfx; rw [hfx] at HF; clear hfx; go_wp2_with (go_at_call 84; refine (HF.o _ (HB0.o.alloc zO _)).mono ?_; rintro e w1 ⟨rfl, hb1⟩)
          go_ret; exact ⟨ah (by rw [ej HX.o HFX.o]), (HW.o.alloc zO _).trans (hb1.mono (by simp; omega))⟩
        . have HFX := zH hfx; rw [hfx] at HF; clear hfx; go_wp2_with (go_at_call 84; refine (HF.o _ (HB0.o.alloc zO _)).mono ?_; rintro e w1 ⟨rfl, hb1⟩)
          go_roundg (l.length - (k + 1))
          case measure => have := HK.o; omega
          case rel => exact ⟨k + 1, by omega, by go_num, HT.o.succ HX.o HFX.o, (HW.o.alloc zO _).trans (hb1.mono (by simp; omega))⟩
      . have hke : k = l.length := by omega
        have HKE := zH hke; clear hke; go_wp2_with fail
        go_ret; exact ⟨ah (by rw [HT.o.all HKE.o]; simp; omega), HW.o⟩
theorem EC {w0 : World} {va : Value} {l : List aA} {f : aA -> Bool} {lo hi : Int} (ha : ak w0 (bS w0) va l) {rv : Value}
  (hf : ∀ x ∈ l, ∀ L, bS w0 L x -> ∀ w, Below w0.heap.size w0 w -> Calls prog 86 #[rv, .agg L.toArray] w (ar (f x) w)) :
  ∀ w, Below w0.heap.size w0 w -> Calls prog 85 #[va, .int .i64 lo, .int .i64 hi, .func (.func 86) #[rv] #[]] w (ar (decide (lo <= l.length) && decide ((l.length : Int) <= hi) && l.all f) w) := by
 intro w hw; obtain ⟨A, ca, rfl, hca, hma, hea⟩ := ha; have hla : l.length <= 9223372036854775807 := (by unfold maxLen at hma; omega); have HW0 := zH hw; have hsz0 := hw.size; clear hw hca hma; by_cases hlo : (l.length : Int) < lo
 . go_enter func85, ntmps85
   go_wp2_with fail
   go_ret; exact ⟨ah (by simp; omega), Below.refl _ _⟩
 . by_cases hhi : hi < (l.length : Int)
   . go_enter func85, ntmps85
     go_wp2_with fail
     go_ret; exact ⟨ah (by simp; omega), Below.refl _ _⟩
   . go_enter func85, ntmps85
     go_wp2_with fail
     go_loopg [23] l.length (λ g v wr => ∃ k : Nat, k + g = l.length /\ v = .int .i64 k /\ bL f l k /\ Below w.heap.size w wr)
     case atStart => exact ⟨0, by omega, rfl, bL.zero, Below.refl _ _⟩
     case round =>
      obtain ⟨k, hkg, rfl, hto, hbw⟩ := hrel; have HK := zH hkg; have HW := zH hbw; have HT := zH hto; have hszw := hbw.size; have hkl : k <= l.length := zO; clear hkg hbw hto; by_cases hlt : k < l.length
      . obtain ⟨x, hx⟩ := zG hlt; obtain ⟨L, hEL, hRL⟩ := hea k x hx; obtain ⟨ps0, pA1, pn1, pk1, pA2, pn2, pk2, pA3, pn3, pk3, pA4, pn4, pk4, rfl⟩ := bS.shape hRL; have HF := zH (hf x (List.mem_of_getElem? hx) _ hRL); clear hRL; have HB0 := zH (HW0.o.trans (HW.o.mono hsz0)); have HX := zH hx; obtain ⟨a, rfl, hab, haa, d0, d1, d2, d3, d4⟩ := eh (hEL.under HB0.o); clear hEL hea hf hx; cases hfx : f x
        . have HFX := zH hfx; rw [hfx] at HF; clear hfx; go_wp2_with (go_at_call 86; refine (HF.o _ (HB0.o.alloc zO _)).mono ?_; rintro e w1 ⟨rfl, hb1⟩)
          go_ret; exact ⟨ah (by rw [ej HX.o HFX.o]), (HW.o.alloc zO _).trans (hb1.mono (by simp; omega))⟩
        . have HFX := zH hfx; rw [hfx] at HF; clear hfx; go_wp2_with (go_at_call 86; refine (HF.o _ (HB0.o.alloc zO _)).mono ?_; rintro e w1 ⟨rfl, hb1⟩)
          go_roundg (l.length - (k + 1))
          case measure => have := HK.o; omega
          case rel => exact ⟨k + 1, by omega, by go_num, HT.o.succ HX.o HFX.o, (HW.o.alloc zO _).trans (hb1.mono (by simp; omega))⟩
      . have hke : k = l.length := by omega
        have HKE := zH hke; clear hke; go_wp2_with fail
        go_ret; exact ⟨ah (by rw [HT.o.all HKE.o]; simp; omega), HW.o⟩
end Go.Proofs.YtiholfmmphcbeaaGreatDoor
