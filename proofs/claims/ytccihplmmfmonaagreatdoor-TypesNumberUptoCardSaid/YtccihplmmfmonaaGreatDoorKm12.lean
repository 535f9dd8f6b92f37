import Derived.Shelf.Abstract
import Derived.Test.YtccihplmmfmonaaGreatDoorKm11
set_option maxHeartbeats 1000000
namespace Go.Proofs.YtccihplmmfmonaaGreatDoor
open _root_.Go.Proofs.Tryz
open Go.RowKit
def bK {X : Type} (f : X -> Bool) (l : List X) (k : Nat) : Prop := ∀ (i : Nat) x, i < k -> l[i]? = some x -> f x = true
theorem bK.zero {X : Type} {f : X -> Bool} {l : List X} : bK f l 0 := λ _ _ h => absurd h zO
theorem bK.succ {X : Type} {f : X -> Bool} {l : List X} {k : Nat} (h : bK f l k) {x : X} (hx : l[k]? = some x) (hf : f x = true) : bK f l (k + 1) := by
 intro i a hi ha; by_cases e : i = k
 . subst e; rw [ha] at hx; cases hx; exact hf
 . exact h i a zO ha
theorem bK.all {X : Type} {f : X -> Bool} {l : List X} {k : Nat} (h : bK f l k) (hk : k = l.length) : l.all f = true := by
 rw [List.all_eq_true]; intro x hx; obtain ⟨i, hi, rfl⟩ := List.getElem_of_mem hx; exact h i _ zO (List.getElem?_eq_getElem hi)
theorem ed {X : Type} {f : X -> Bool} {l : List X} {k : Nat} {x : X} (hx : l[k]? = some x) (hf : f x = false) : l.all f = false := by
 rw [Bool.eq_false_iff]; intro h; rw [List.all_eq_true] at h; rw [h x (List.mem_of_getElem? hx)] at hf; cases hf
theorem fS {w0 : World} {va : Value} {l : List Tx} {f : Tx -> Bool} {lo hi : Int} (ha : aG w0 va l) {g : FuncId} {cap : Array Value} (eg : ∀ (args : Array Value) (W : World), (callFunc g args).run prog W = .ok (.enter g args) W)
  (hf : ∀ x ∈ l, x.length <= maxLen -> ∀ w, Below w0.heap.size w0 w -> Calls prog g (#[.string (str x)] ++ cap) w (ar (f x) w)) :
  ∀ w, Below w0.heap.size w0 w -> Calls prog 123 #[va, .int .i64 lo, .int .i64 hi, .func (.func g) #[] cap] w (ar (decide (lo <= l.length) && decide ((l.length : Int) <= hi) && l.all f) w) := by
 intro w hw; obtain ⟨A, ca, rfl, hca, hma, hea⟩ := ha; have hla : l.length <= 9223372036854775807 := (by unfold maxLen at hma; omega); have HW0 := zH hw; have hsz0 := hw.size; clear hw hca hma; by_cases hlo : (l.length : Int) < lo
 . go_enter func123, ntmps123
   go_wp2_with fail
   go_ret; exact ⟨ah (by simp; omega), Below.refl _ _⟩
 . by_cases hhi : hi < (l.length : Int)
   . go_enter func123, ntmps123
     go_wp2_with fail
     go_ret; exact ⟨ah (by simp; omega), Below.refl _ _⟩
   . go_enter func123, ntmps123
     go_wp2_with fail
     go_loopg [23] l.length (λ g v wr => ∃ k : Nat, k + g = l.length /\ v = .int .i64 k /\ bK f l k /\ Below w.heap.size w wr)
     case atStart => exact ⟨0, by omega, rfl, bK.zero, Below.refl _ _⟩
     case round =>
      obtain ⟨k, hkg, rfl, hto, hbw⟩ := hrel; have HK := zH hkg; have HW := zH hbw; have HT := zH hto; have hszw := hbw.size; have hkl : k <= l.length := zO; clear hkg hbw hto; by_cases hlt : k < l.length
      . obtain ⟨x, hx⟩ := zG hlt; obtain ⟨L, hEL, rfl, hxl⟩ := hea k x hx; have HF := zH (hf x (List.mem_of_getElem? hx) hxl); have HB0 := zH (HW0.o.trans (HW.o.mono hsz0)); have HX := zH hx; obtain ⟨a, rfl, hab, haa, d0⟩ := dQ (hEL.under HB0.o); rw [Nat.mul_one] at d0; clear hEL hea hf hx; cases hfx : f x
        . have HFX := zH hfx; rw [hfx] at HF; clear hfx; go_wp2_with (go_at_fn g; refine (HF.o _ HB0.o).mono ?_; rintro e w1 ⟨rfl, hb1⟩)
          go_ret; exact ⟨ah (by rw [ed HX.o HFX.o]), HW.o.trans (hb1.mono zO)⟩
        . have HFX := zH hfx; rw [hfx] at HF; clear hfx; go_wp2_with (go_at_fn g; refine (HF.o _ HB0.o).mono ?_; rintro e w1 ⟨rfl, hb1⟩)
          go_roundg (l.length - (k + 1))
          case measure => have := HK.o; omega
          case rel => exact ⟨k + 1, by omega, by go_num, HT.o.succ HX.o HFX.o, HW.o.trans (hb1.mono zO)⟩
      . have hke : k = l.length := by omega
        have HKE := zH hke; clear hke; go_wp2_with fail
        go_ret; exact ⟨ah (by rw [HT.o.all HKE.o]; simp; omega), HW.o⟩
theorem EX {w0 : World} {va : Value} {l : List Ex} {f : Ex -> Bool} {lo hi : Int} (ha : an w0 (bL w0) va l) {rv : Value}
  (hf : ∀ x ∈ l, ∀ L, bL w0 L x -> ∀ w, Below w0.heap.size w0 w -> Calls prog 177 #[rv, .agg L.toArray] w (ar (f x) w)) :
  ∀ w, Below w0.heap.size w0 w -> Calls prog 197 #[va, .int .i64 lo, .int .i64 hi, .func (.func 177) #[rv] #[]] w (ar (decide (lo <= l.length) && decide ((l.length : Int) <= hi) && l.all f) w) := by
 intro w hw; obtain ⟨A, ca, rfl, hca, hma, hea⟩ := ha; have hla : l.length <= 9223372036854775807 := (by unfold maxLen at hma; omega); have HW0 := zH hw; have hsz0 := hw.size; clear hw hca hma; by_cases hlo : (l.length : Int) < lo
 . go_enter func197, ntmps197
   go_wp2_with fail
   go_ret; exact ⟨ah (by simp; omega), Below.refl _ _⟩
 . by_cases hhi : hi < (l.length : Int)
   . go_enter func197, ntmps197
     go_wp2_with fail
     go_ret; exact ⟨ah (by simp; omega), Below.refl _ _⟩
   . go_enter func197, ntmps197
     go_wp2_with fail
     go_loopg [23] l.length (λ g v wr => ∃ k : Nat, k + g = l.length /\ v = .int .i64 k /\ bK f l k /\ Below w.heap.size w wr)
     case atStart => exact ⟨0, by omega, rfl, bK.zero, Below.refl _ _⟩
     case round =>
      obtain ⟨k, hkg, rfl, hto, hbw⟩ := hrel; have HK := zH hkg; have HW := zH hbw; have HT := zH hto; have hszw := hbw.size; have hkl : k <= l.length := zO; clear hkg hbw hto; by_cases hlt : k < l.length
      . obtain ⟨x, hx⟩ := zG hlt; obtain ⟨L, hEL, hRL⟩ := hea k x hx; obtain ⟨po0, ps1, po2, pA3, pn3, pk3, pA4, pn4, pk4, rfl⟩ := bL.shape hRL; have HF := zH (hf x (List.mem_of_getElem? hx) _ hRL); clear hRL; have HB0 := zH (HW0.o.trans (HW.o.mono hsz0)); have HX := zH hx; obtain ⟨a, rfl, hab, haa, d0, d1, d2, d3, d4⟩ := d8 (hEL.under HB0.o); clear hEL hea hf hx; cases hfx : f x
        . have HFX := zH hfx; rw [hfx] at HF; clear hfx; go_wp2_with (go_at_call 177; refine (HF.o _ (HB0.o.alloc zO _)).mono ?_; rintro e w1 ⟨rfl, hb1⟩)
          go_ret; exact ⟨ah (by rw [ed HX.o HFX.o]), (HW.o.alloc zO _).trans (hb1.mono (by simp; omega))⟩
        . have HFX := zH hfx; rw [hfx] at HF; clear hfx; go_wp2_with (go_at_call 177; refine (HF.o _ (HB0.o.alloc zO _)).mono ?_; rintro e w1 ⟨rfl, hb1⟩)
          go_roundg (l.length - (k + 1))
          case measure => have := HK.o; omega
          case rel => exact ⟨k + 1, by omega, by go_num, HT.o.succ HX.o HFX.o, (HW.o.alloc zO _).trans (hb1.mono (by simp; omega))⟩
      . have hke : k = l.length := by omega
        have HKE := zH hke; clear hke; go_wp2_with fail
        go_ret; exact ⟨ah (by rw [HT.o.all HKE.o]; simp; omega), HW.o⟩
theorem Je {w0 : World} {va : Value} {l : List QEq} {f : QEq -> Bool} {lo hi : Int} (ha : an w0 (l8 w0) va l) {rv : Value}
  (hf : ∀ x ∈ l, ∀ L, l8 w0 L x -> ∀ w, Below w0.heap.size w0 w -> Calls prog 156 #[rv, .agg L.toArray] w (ar (f x) w)) :
  ∀ w, Below w0.heap.size w0 w -> Calls prog 180 #[va, .int .i64 lo, .int .i64 hi, .func (.func 156) #[rv] #[]] w (ar (decide (lo <= l.length) && decide ((l.length : Int) <= hi) && l.all f) w) := by
 intro w hw; obtain ⟨A, ca, rfl, hca, hma, hea⟩ := ha; have hla : l.length <= 9223372036854775807 := (by unfold maxLen at hma; omega); have HW0 := zH hw; have hsz0 := hw.size; clear hw hca hma; by_cases hlo : (l.length : Int) < lo
 . go_enter func180, ntmps180
   go_wp2_with fail
   go_ret; exact ⟨ah (by simp; omega), Below.refl _ _⟩
 . by_cases hhi : hi < (l.length : Int)
   . go_enter func180, ntmps180
     go_wp2_with fail
     go_ret; exact ⟨ah (by simp; omega), Below.refl _ _⟩
   . go_enter func180, ntmps180
     go_wp2_with fail
     go_loopg [23] l.length (λ g v wr => ∃ k : Nat, k + g = l.length /\ v = .int .i64 k /\ bK f l k /\ Below w.heap.size w wr)
     case atStart => exact ⟨0, by omega, rfl, bK.zero, Below.refl _ _⟩
     case round =>
      obtain ⟨k, hkg, rfl, hto, hbw⟩ := hrel; have HK := zH hkg; have HW := zH hbw; have HT := zH hto; have hszw := hbw.size; have hkl : k <= l.length := zO; clear hkg hbw hto; by_cases hlt : k < l.length
      . obtain ⟨x, hx⟩ := zG hlt; obtain ⟨L, hEL, hRL⟩ := hea k x hx; obtain ⟨pA0, pn0, pk0, po1, ps2, po3, pA4, pn4, pk4, pA5, pn5, pk5, rfl⟩ := l8.shape hRL; have HF := zH (hf x (List.mem_of_getElem? hx) _ hRL); clear hRL; have HB0 := zH (HW0.o.trans (HW.o.mono hsz0)); have HX := zH hx; obtain ⟨a, rfl, hab, haa, d0, d1, d2, d3, d4, d5⟩ := mY (hEL.under HB0.o); clear hEL hea hf hx; cases hfx : f x
        . have HFX := zH hfx; rw [hfx] at HF; clear hfx; go_wp2_with (go_at_call 156; refine (HF.o _ (HB0.o.alloc zO _)).mono ?_; rintro e w1 ⟨rfl, hb1⟩)
          go_ret; exact ⟨ah (by rw [ed HX.o HFX.o]), (HW.o.alloc zO _).trans (hb1.mono (by simp; omega))⟩
        . have HFX := zH hfx; rw [hfx] at HF; clear hfx; go_wp2_with (go_at_call 156; refine (HF.o _ (HB0.o.alloc zO _)).mono ?_; rintro e w1 ⟨rfl, hb1⟩)
          go_roundg (l.length - (k + 1))
          case measure => have := HK.o; omega
          case rel => exact ⟨k + 1, by omega, by go_num, HT.o.succ HX.o HFX.o, (HW.o.alloc zO _).trans (hb1.mono (by simp; omega))⟩
      . have hke : k = l.length := by omega
        have HKE := zH hke; clear hke; go_wp2_with fail
        go_ret; exact ⟨ah (by rw [HT.o.all HKE.o]; simp; omega), HW.o⟩
theorem GR {w0 : World} {va : Value} {l : List iK} {f : iK -> Bool} {lo hi : Int} (ha : an w0 (gm w0) va l) {rv : Value}
  (hf : ∀ x ∈ l, ∀ L, gm w0 L x -> ∀ w, Below w0.heap.size w0 w -> Calls prog 182 #[rv, .agg L.toArray] w (ar (f x) w)) :
  ∀ w, Below w0.heap.size w0 w -> Calls prog 181 #[va, .int .i64 lo, .int .i64 hi, .func (.func 182) #[rv] #[]] w (ar (decide (lo <= l.length) && decide ((l.length : Int) <= hi) && l.all f) w) := by
 intro w hw; obtain ⟨A, ca, rfl, hca, hma, hea⟩ := ha; have hla : l.length <= 9223372036854775807 := (by unfold maxLen at hma; omega); have HW0 := zH hw; have hsz0 := hw.size; clear hw hca hma; by_cases hlo : (l.length : Int) < lo
 . go_enter func181, ntmps181
   go_wp2_with fail
   go_ret; exact ⟨ah (by simp; omega), Below.refl _ _⟩
 . by_cases hhi : hi < (l.length : Int)
   . go_enter func181, ntmps181
     go_wp2_with fail
     go_ret; exact ⟨ah (by simp; omega), Below.refl _ _⟩
   . go_enter func181, ntmps181
     go_wp2_with fail
     go_loopg [23] l.length (λ g v wr => ∃ k : Nat, k + g = l.length /\ v = .int .i64 k /\ bK f l k /\ Below w.heap.size w wr)
     case atStart => exact ⟨0, by omega, rfl, bK.zero, Below.refl _ _⟩
     case round =>
      obtain ⟨k, hkg, rfl, hto, hbw⟩ := hrel; have HK := zH hkg; have HW := zH hbw; have HT := zH hto; have hszw := hbw.size; have hkl : k <= l.length := zO; clear hkg hbw hto; by_cases hlt : k < l.length
      . obtain ⟨x, hx⟩ := zG hlt; obtain ⟨L, hEL, hRL⟩ := hea k x hx; obtain ⟨po0, ps1, po2, pA3, pn3, pk3, pA4, pn4, pk4, ps5, rfl⟩ := gm.shape hRL; have HF := zH (hf x (List.mem_of_getElem? hx) _ hRL); clear hRL; have HB0 := zH (HW0.o.trans (HW.o.mono hsz0)); have HX := zH hx; obtain ⟨a, rfl, hab, haa, d0, d1, d2, d3, d4, d5⟩ := mY (hEL.under HB0.o); clear hEL hea hf hx; cases hfx : f x
        . have HFX := zH hfx; rw [hfx] at HF; clear hfx; go_wp2_with (go_at_call 182; refine (HF.o _ (HB0.o.alloc zO _)).mono ?_; rintro e w1 ⟨rfl, hb1⟩)
          go_ret; exact ⟨ah (by rw [ed HX.o HFX.o]), (HW.o.alloc zO _).trans (hb1.mono (by simp; omega))⟩
        . have HFX := zH hfx; rw [hfx] at HF; clear hfx; go_wp2_with (go_at_call 182; refine (HF.o _ (HB0.o.alloc zO _)).mono ?_; rintro e w1 ⟨rfl, hb1⟩)
          go_roundg (l.length - (k + 1))
          case measure => have := HK.o; omega
          case rel => exact ⟨k + 1, by omega, by go_num, HT.o.succ HX.o HFX.o, (HW.o.alloc zO _).trans (hb1.mono (by simp; omega))⟩
      . have hke : k = l.length := by omega
        have HKE := zH hke; clear hke; go_wp2_with fail
        go_ret; exact ⟨ah (by rw [HT.o.all HKE.o]; simp; omega), HW.o⟩
theorem Cw {w0 : World} {va : Value} {l : List aZ} {f : aZ -> Bool} {lo hi : Int} (ha : an w0 (cd w0) va l) {rv : Value}
  (hf : ∀ x ∈ l, ∀ L, cd w0 L x -> ∀ w, Below w0.heap.size w0 w -> Calls prog 159 #[rv, .agg L.toArray] w (ar (f x) w)) :
  ∀ w, Below w0.heap.size w0 w -> Calls prog 158 #[va, .int .i64 lo, .int .i64 hi, .func (.func 159) #[rv] #[]] w (ar (decide (lo <= l.length) && decide ((l.length : Int) <= hi) && l.all f) w) := by
 intro w hw; obtain ⟨A, ca, rfl, hca, hma, hea⟩ := ha; have hla : l.length <= 9223372036854775807 := (by unfold maxLen at hma; omega); have HW0 := zH hw; have hsz0 := hw.size; clear hw hca hma; by_cases hlo : (l.length : Int) < lo
 . go_enter func158, ntmps158
   go_wp2_with fail
   go_ret; exact ⟨ah (by simp; omega), Below.refl _ _⟩
 . by_cases hhi : hi < (l.length : Int)
   . go_enter func158, ntmps158
     go_wp2_with fail
     go_ret; exact ⟨ah (by simp; omega), Below.refl _ _⟩
   . go_enter func158, ntmps158
     go_wp2_with fail
     go_loopg [23] l.length (λ g v wr => ∃ k : Nat, k + g = l.length /\ v = .int .i64 k /\ bK f l k /\ Below w.heap.size w wr)
     case atStart => exact ⟨0, by omega, rfl, bK.zero, Below.refl _ _⟩
     case round =>
      obtain ⟨k, hkg, rfl, hto, hbw⟩ := hrel; have HK := zH hkg; have HW := zH hbw; have HT := zH hto; have hszw := hbw.size; have hkl : k <= l.length := zO; clear hkg hbw hto; by_cases hlt : k < l.length
      . obtain ⟨x, hx⟩ := zG hlt; obtain ⟨L, hEL, hRL⟩ := hea k x hx; obtain ⟨ps0, pA1, pn1, pk1, pA2, pn2, pk2, rfl⟩ := cd.shape hRL; have HF := zH (hf x (List.mem_of_getElem? hx) _ hRL); clear hRL; have HB0 := zH (HW0.o.trans (HW.o.mono hsz0)); have HX := zH hx; obtain ⟨a, rfl, hab, haa, d0, d1, d2⟩ := ix (hEL.under HB0.o); clear hEL hea hf hx; cases hfx : f x
        . have HFX := zH hfx; rw [hfx] at HF; clear hfx; go_wp2_with (go_at_call 159; refine (HF.o _ (HB0.o.alloc zO _)).mono ?_; rintro e w1 ⟨rfl, hb1⟩)
          go_ret; exact ⟨ah (by rw [ed HX.o HFX.o]), (HW.o.alloc zO _).trans (hb1.mono (by simp; omega))⟩
        . have HFX := zH hfx; rw [hfx] at HF; clear hfx; go_wp2_with (go_at_call 159; refine (HF.o _ (HB0.o.alloc zO _)).mono ?_; rintro e w1 ⟨rfl, hb1⟩)
          go_roundg (l.length - (k + 1))
          case measure => have := HK.o; omega
          case rel => exact ⟨k + 1, by omega, by go_num, HT.o.succ HX.o HFX.o, (HW.o.alloc zO _).trans (hb1.mono (by simp; omega))⟩
      . have hke : k = l.length := by omega
        have HKE := zH hke; clear hke; go_wp2_with fail
        go_ret; exact ⟨ah (by rw [HT.o.all HKE.o]; simp; omega), HW.o⟩
theorem EW {w0 : World} {va : Value} {l : List bd} {f : bd -> Bool} {lo hi : Int} (ha : an w0 (dv w0) va l) {rv : Value}
  (hf : ∀ x ∈ l, ∀ L, dv w0 L x -> ∀ w, Below w0.heap.size w0 w -> Calls prog 125 #[rv, .agg L.toArray] w (ar (f x) w)) :
  ∀ w, Below w0.heap.size w0 w -> Calls prog 124 #[va, .int .i64 lo, .int .i64 hi, .func (.func 125) #[rv] #[]] w (ar (decide (lo <= l.length) && decide ((l.length : Int) <= hi) && l.all f) w) := by
 intro w hw; obtain ⟨A, ca, rfl, hca, hma, hea⟩ := ha; have hla : l.length <= 9223372036854775807 := (by unfold maxLen at hma; omega); have HW0 := zH hw; have hsz0 := hw.size; clear hw hca hma; by_cases hlo : (l.length : Int) < lo
 . go_enter func124, ntmps124
   go_wp2_with fail
   go_ret; exact ⟨ah (by simp; omega), Below.refl _ _⟩
 . by_cases hhi : hi < (l.length : Int)
   . go_enter func124, ntmps124
     go_wp2_with fail
     go_ret; exact ⟨ah (by simp; omega), Below.refl _ _⟩
   . go_enter func124, ntmps124
     go_wp2_with fail
     go_loopg [23] l.length (λ g v wr => ∃ k : Nat, k + g = l.length /\ v = .int .i64 k /\ bK f l k /\ Below w.heap.size w wr)
     case atStart => exact ⟨0, by omega, rfl, bK.zero, Below.refl _ _⟩
     case round =>
      obtain ⟨k, hkg, rfl, hto, hbw⟩ := hrel; have HK := zH hkg; have HW := zH hbw; have HT := zH hto; have hszw := hbw.size; have hkl : k <= l.length := zO; clear hkg hbw hto; by_cases hlt : k < l.length
      . obtain ⟨x, hx⟩ := zG hlt; obtain ⟨L, hEL, hRL⟩ := hea k x hx; obtain ⟨pA0, pn0, pk0, po1, ps2, po3, pA4, pn4, pk4, pA5, pn5, pk5, pA6, pn6, pk6, rfl⟩ := dv.shape hRL; have HF := zH (hf x (List.mem_of_getElem? hx) _ hRL); clear hRL; have HB0 := zH (HW0.o.trans (HW.o.mono hsz0)); have HX := zH hx; obtain ⟨a, rfl, hab, haa, d0, d1, d2, d3, d4, d5, d6⟩ := oD (hEL.under HB0.o); clear hEL hea hf hx; cases hfx : f x
        . have HFX := zH hfx; rw [hfx] at HF; clear hfx; go_wp2_with (go_at_call 125; refine (HF.o _ (HB0.o.alloc zO _)).mono ?_; rintro e w1 ⟨rfl, hb1⟩)
          go_ret; exact ⟨ah (by rw [ed HX.o HFX.o]), (HW.o.alloc zO _).trans (hb1.mono (by simp; omega))⟩
        . have HFX := zH hfx; rw [hfx] at HF; clear hfx; go_wp2_with (go_at_call 125; refine (HF.o _ (HB0.o.alloc zO _)).mono ?_; rintro e w1 ⟨rfl, hb1⟩)
          go_roundg (l.length - (k + 1))
          case measure => have := HK.o; omega
          case rel => exact ⟨k + 1, by omega, by go_num, HT.o.succ HX.o HFX.o, (HW.o.alloc zO _).trans (hb1.mono (by simp; omega))⟩
      . have hke : k = l.length := by omega
        have HKE := zH hke; clear hke; go_wp2_with fail
        go_ret; exact ⟨ah (by rw [HT.o.all HKE.o]; simp; omega), HW.o⟩
theorem EY {w0 : World} {va : Value} {l : List fl} {f : fl -> Bool} {lo hi : Int} (ha : an w0 (fT w0) va l) {rv : Value}
  (hf : ∀ x ∈ l, ∀ L, fT w0 L x -> ∀ w, Below w0.heap.size w0 w -> Calls prog 80 #[rv, .agg L.toArray] w (ar (f x) w)) :
  ∀ w, Below w0.heap.size w0 w -> Calls prog 79 #[va, .int .i64 lo, .int .i64 hi, .func (.func 80) #[rv] #[]] w (ar (decide (lo <= l.length) && decide ((l.length : Int) <= hi) && l.all f) w) := by
 intro w hw; obtain ⟨A, ca, rfl, hca, hma, hea⟩ := ha; have hla : l.length <= 9223372036854775807 := (by unfold maxLen at hma; omega); have HW0 := zH hw; have hsz0 := hw.size; clear hw hca hma; by_cases hlo : (l.length : Int) < lo
 . go_enter func79, ntmps79
   go_wp2_with fail
   go_ret; exact ⟨ah (by simp; omega), Below.refl _ _⟩
 . by_cases hhi : hi < (l.length : Int)
   . go_enter func79, ntmps79
     go_wp2_with fail
     go_ret; exact ⟨ah (by simp; omega), Below.refl _ _⟩
   . go_enter func79, ntmps79
     go_wp2_with fail
     go_loopg [23] l.length (λ g v wr => ∃ k : Nat, k + g = l.length /\ v = .int .i64 k /\ bK f l k /\ Below w.heap.size w wr)
     case atStart => exact ⟨0, by omega, rfl, bK.zero, Below.refl _ _⟩
     case round =>
      obtain ⟨k, hkg, rfl, hto, hbw⟩ := hrel; have HK := zH hkg; have HW := zH hbw; have HT := zH hto; have hszw := hbw.size; have hkl : k <= l.length := zO; clear hkg hbw hto; by_cases hlt : k < l.length
      . obtain ⟨x, hx⟩ := zG hlt; obtain ⟨L, hEL, hRL⟩ := hea k x hx; obtain ⟨ps0, pA1, pn1, pk1, rfl⟩ := fT.shape hRL; have HF := zH (hf x (List.mem_of_getElem? hx) _ hRL); clear hRL; have HB0 := zH (HW0.o.trans (HW.o.mono hsz0)); have HX := zH hx; obtain ⟨a, rfl, hab, haa, d0, d1⟩ := Eu (hEL.under HB0.o); clear hEL hea hf hx; cases hfx : f x
        . have HFX := zH hfx; rw [hfx] at HF; clear hfx; go_wp2_with (go_at_call 80; refine (HF.o _ (HB0.o.alloc zO _)).mono ?_; rintro e w1 ⟨rfl, hb1⟩)
          go_ret; exact ⟨ah (by rw [ed HX.o HFX.o]), (HW.o.alloc zO _).trans (hb1.mono (by simp; omega))⟩
        . have HFX := zH hfx; rw [hfx] at HF; clear hfx; go_wp2_with (go_at_call 80; refine (HF.o _ (HB0.o.alloc zO _)).mono ?_; rintro e w1 ⟨rfl, hb1⟩)
          go_roundg (l.length - (k + 1))
          case measure => have := HK.o; omega
          case rel => exact ⟨k + 1, by omega, by go_num, HT.o.succ HX.o HFX.o, (HW.o.alloc zO _).trans (hb1.mono (by simp; omega))⟩
      . have hke : k = l.length := by omega
        have HKE := zH hke; clear hke; go_wp2_with fail
        go_ret; exact ⟨ah (by rw [HT.o.all HKE.o]; simp; omega), HW.o⟩
theorem EV {w0 : World} {va : Value} {l : List aA} {f : aA -> Bool} {lo hi : Int} (ha : an w0 (bY w0) va l) {rv : Value}
  (hf : ∀ x ∈ l, ∀ L, bY w0 L x -> ∀ w, Below w0.heap.size w0 w -> Calls prog 82 #[rv, .agg L.toArray] w (ar (f x) w)) :
  ∀ w, Below w0.heap.size w0 w -> Calls prog 81 #[va, .int .i64 lo, .int .i64 hi, .func (.func 82) #[rv] #[]] w (ar (decide (lo <= l.length) && decide ((l.length : Int) <= hi) && l.all f) w) := by
 intro w hw; obtain ⟨A, ca, rfl, hca, hma, hea⟩ := ha; have hla : l.length <= 9223372036854775807 := (by unfold maxLen at hma; omega); have HW0 := zH hw; have hsz0 := hw.size; clear hw hca hma; by_cases hlo : (l.length : Int) < lo
 . go_enter func81, ntmps81
   go_wp2_with fail
   go_ret; exact ⟨ah (by simp; omega), Below.refl _ _⟩
 . by_cases hhi : hi < (l.length : Int)
   . go_enter func81, ntmps81
     go_wp2_with fail
     go_ret; exact ⟨ah (by simp; omega), Below.refl _ _⟩
   . go_enter func81, ntmps81
     go_wp2_with fail
     go_loopg [23] l.length (λ g v wr => ∃ k : Nat, k + g = l.length /\ v = .int .i64 k /\ bK f l k /\ Below w.heap.size w wr)
     case atStart => exact ⟨0, by omega, rfl, bK.zero, Below.refl _ _⟩
     case round =>
      obtain ⟨k, hkg, rfl, hto, hbw⟩ := hrel; have HK := zH hkg; have HW := zH hbw; have HT := zH hto; have hszw := hbw.size; have hkl : k <= l.length := zO; clear hkg hbw hto; by_cases hlt : k < l.length
      . obtain ⟨x, hx⟩ := zG hlt; obtain ⟨L, hEL, hRL⟩ := hea k x hx; obtain ⟨ps0, pA1, pn1, pk1, pA2, pn2, pk2, pA3, pn3, pk3, pA4, pn4, pk4, rfl⟩ := bY.shape hRL; have HF := zH (hf x (List.mem_of_getElem? hx) _ hRL); clear hRL; have HB0 := zH (HW0.o.trans (HW.o.mono hsz0)); have HX := zH hx; obtain ⟨a, rfl, hab, haa, d0, d1, d2, d3, d4⟩ := d8 (hEL.under HB0.o); clear hEL hea hf hx; cases hfx : f x
        . have HFX := zH hfx; rw [hfx] at HF; clear hfx; go_wp2_with (go_at_call 82; refine (HF.o _ (HB0.o.alloc zO _)).mono ?_; rintro e w1 ⟨rfl, hb1⟩)
          go_ret; exact ⟨ah (by rw [ed HX.o HFX.o]), (HW.o.alloc zO _).trans (hb1.mono (by simp; omega))⟩
        . have HFX := zH hfx; rw [hfx] at HF; clear hfx; go_wp2_with (go_at_call 82; refine (HF.o _ (HB0.o.alloc zO _)).mono ?_; rintro e w1 ⟨rfl, hb1⟩)
          go_roundg (l.length - (k + 1))
          case measure => have := HK.o; omega
          case rel => exact ⟨k + 1, by omega, by go_num, HT.o.succ HX.o HFX.o, (HW.o.alloc zO _).trans (hb1.mono (by simp; omega))⟩
      . have hke : k = l.length := by omega
        have HKE := zH hke; clear hke; go_wp2_with fail
        go_ret; exact ⟨ah (by rw [HT.o.all HKE.o]; simp; omega), HW.o⟩
end Go.Proofs.YtccihplmmfmonaaGreatDoor
