import Derived.Test.YtkfacdofkfabnaaGreatDoorShelf
import Derived.Test.YtkfacdofkfabnaaGreatDoorKm09
import Derived.Test.YtkfacdofkfabnaaGreatDoorKm15
set_option maxHeartbeats 1000000
namespace Go.Proofs.YtkfacdofkfabnaaGreatDoor
open _root_.Go.Proofs.Tryz
open Go.RowKit
def gE (g : FuncId) : Prop := ∀ (args : Array Value) (W : World), (callFunc g args).run prog W = .ok (.enter g args) W
def ba (w0 : World) (fv : Value) (p : Tx -> Bool) : Prop :=
 ∃ (g : FuncId) (cap : Array Value), fv = .func (.func g) #[] cap /\ gE g /\ ∀ x : Tx, x.length <= maxLen -> ∀ w, Below w0.heap.size w0 w -> Calls prog g (#[.string (str x)] ++ cap) w (aA (p x) w)
def lh (w0 : World) (fv : Value) (p : Ex -> Bool) : Prop :=
 ∃ (g : FuncId) (cap : Array Value), fv = .func (.func g) #[] cap /\ gE g /\ ∀ x L w, Below w0.heap.size w0 w -> a7 w L x -> Calls prog g (#[.agg L.toArray] ++ cap) w (aA (p x) w)
theorem ba.under {w0 w1 : World} {fv : Value} {p : Tx -> Bool} (h : ba w0 fv p) (hb : Below w0.heap.size w0 w1) : ba w1 fv p := by
 obtain ⟨g, cap, e, he, h⟩ := h; exact ⟨g, cap, e, he, λ x hx w hw => h x hx w (hb.trans (hw.mono hb.size))⟩
theorem GH (w0 : World) : ba w0 (.func (.func 66) #[] #[]) (db false) :=
 ⟨_, _, rfl, enters_of func66 zK rfl, λ x hx w _ => (qq (str x) w (by rw [fX]; exact hx)).mono λ e w' h => by
   obtain ⟨rfl, rfl⟩ := h; exact ⟨rfl, Below.refl _ _⟩⟩
theorem Jy (w0 : World) : ba w0 (.func (.func 67) #[] #[]) (jr false) :=
 ⟨_, _, rfl, enters_of func67 zK rfl, λ x hx w _ => (sk (str x) w (by rw [fX]; exact hx)).mono λ e w' h => by
   obtain ⟨rfl, rfl⟩ := h; exact ⟨rfl, Below.refl _ _⟩⟩
theorem pC (s p : ByteArray) (w : World) :
  Calls prog 120 #[.string s, .string p] w λ e w' => e = .returned (.string ⟨(Lib.trimPrefix s.data.toList p.data.toList).toArray⟩) /\ w = w' :=
 (Any.strings_TrimPrefix lays101 s p w).mono λ _ _ h => ⟨h.1, h.2.symm⟩
theorem rD (x : Tx) (w : World) : Calls prog 69 #[.string (str x)] w λ e w' => e = .returned (.string (str (jL true x))) /\ w = w' := by
 go_enter func69, ntmps69
 go_wp2_with (go_at_call 120; refine (pC _ _ _).mono ?_; rintro e w' ⟨rfl, rfl⟩)
 go_ret; refine ⟨?_, rfl⟩; rw [aZ]; simp only [jL, Lib.trimPrefix, Lib.hasPrefix, Bool.true_and, str]; rfl
theorem rC (x : Tx) : (jL true x).length <= x.length := by
 unfold jL; split
 . simp
 . exact Nat.le_refl _
theorem vH (w0 : World) : ba w0 (.func (.func 68) #[] #[]) (db true) := by
 refine ⟨_, _, rfl, enters_of func68 zK rfl, λ x hx w _ => ?_⟩; have hx' : (str (jL true x)).size <= maxLen := (by rw [fX]; have := rC x; omega); show Calls prog 68 #[.string (str x)] w _; go_enter func68, ntmps68
 go_wp2_with (first | (go_at_call 69; refine (rD _ _).mono ?_; rintro e w' ⟨rfl, rfl⟩) | (go_at_call 66; refine (qq _ _ hx').mono ?_; rintro e w' ⟨rfl, rfl⟩))
 go_ret; exact ⟨rfl, Below.refl _ _⟩
theorem y8 (w0 : World) : ba w0 (.func (.func 70) #[] #[]) (jr true) := by
 refine ⟨_, _, rfl, enters_of func70 zK rfl, λ x hx w _ => ?_⟩; have hx' : (str (jL true x)).size <= maxLen := (by rw [fX]; have := rC x; omega); show Calls prog 70 #[.string (str x)] w _; go_enter func70, ntmps70
 go_wp2_with (first | (go_at_call 69; refine (rD _ _).mono ?_; rintro e w' ⟨rfl, rfl⟩) | (go_at_call 67; refine (sk _ _ hx').mono ?_; rintro e w' ⟨rfl, rfl⟩))
 go_ret; exact ⟨rfl, Below.refl _ _⟩
def Ex.name : Ex -> Tx | .mk _ a _ _ _ => a
def Ex.num : Ex -> Int | .mk _ _ n _ _ => n
def Ex.cons : Ex -> List Tx | .mk _ _ _ c _ => c
theorem Eh {l : List Tx} {x : Tx} {k : Nat} (h : bY (λ y => !(y == x)) l k) (hk : k = l.length) : l.contains x = false := by
 have := h.all hk; rw [Bool.eq_false_iff]; intro hc; simp at hc; rw [List.all_eq_true] at this; have := this x hc; simp at this
theorem yK {w0 : World} {va : Value} {l : List Tx} (x : Tx) (ha : aH w0 va l) :
  ∀ w, Below w0.heap.size w0 w -> Calls prog 198 #[va, .string (str x)] w (λ e w' => (∃ n : Int, e = .returned (.int .i64 n) /\ decide (0 <= n) = l.contains x) /\ Below w.heap.size w w') := by
 intro w hw; obtain ⟨A, ca, rfl, hca, hma, hea⟩ := ha; have hla : l.length <= 9223372036854775807 := (by unfold maxLen at hma; omega); have HW0 := zH hw; have hsz0 := hw.size; clear hw hca hma; go_enter func198, ntmps198
 go_wp2_with fail
 go_loopg [8] l.length (λ g v wr => ∃ k : Nat, k + g = l.length /\ v = .int .i64 k /\ bY (λ y => !(y == x)) l k /\ Below w.heap.size w wr)
 case atStart => exact ⟨0, by omega, rfl, bY.zero, Below.refl _ _⟩
 case round =>
  obtain ⟨k, hkg, rfl, hto, hbw⟩ := hrel; have HK := zH hkg; have HW := zH hbw; have HT := zH hto; have hszw := hbw.size; have hkl : k <= l.length := zO; clear hkg hbw hto; by_cases hlt : k < l.length
  . obtain ⟨y, hy⟩ := zG hlt; obtain ⟨L, hEL, rfl, _⟩ := hea k y hy; have HB0 := zH (HW0.o.trans (HW.o.mono hsz0)); have HY := zH hy; obtain ⟨a, rfl, hab, haa, d0⟩ := et (hEL.under HB0.o); rw [Nat.mul_one] at d0; clear hEL hea hy; go_wp2_with fail
    all_goals first
     | (have hxy : x ≠ y := by
         intro e; subst e; simp_all
        have HXY := zH hxy; clear hxy; go_roundg (l.length - (k + 1))
        case measure => have := HK.o; omega
        case rel => exact ⟨k + 1, by omega, by go_num, HT.o.succ HY.o (by simp; exact λ e => HXY.o e.symm), HW.o⟩)
     | (have hxy : x = y := by
         simp_all [ey]
        go_ret; exact ⟨⟨_, rfl, by rw [hxy]; simp [List.mem_of_getElem? HY.o]⟩, HW.o⟩)
  . have hke : k = l.length := by omega
    have HKE := zH hke; clear hke; go_wp2_with fail
    go_ret; exact ⟨⟨_, rfl, by rw [Eh HT.o HKE.o]; rfl⟩, HW.o⟩
theorem t6 {w0 : World} {va : Value} {l : List Tx} (x : Tx) (ha : aH w0 va l) :
  ∀ w, Below w0.heap.size w0 w -> Calls prog 178 #[va, .string (str x)] w (aA (l.contains x) w) := by
 intro w hw; have H := zH (yK x ha w hw); obtain ⟨A, ca, rfl, _⟩ := ha; clear hw; go_enter func178, ntmps178
 go_wp2_with (go_at_call 198; refine H.o.mono ?_; rintro e w1 ⟨⟨n, rfl, hn⟩, hb1⟩; have HN := zH hn; clear hn)
 go_ret; exact ⟨au HN.o, hb1⟩
theorem ve {lo n hi : Int} (h : lo <= n) : decide (n <= hi) = (decide (lo <= n) && decide (n <= hi)) := by simp [h]
theorem vd {lo n hi : Int} (h : n < lo) : false = (decide (lo <= n) && decide (n <= hi)) := by rw [Eq.comm, Bool.and_eq_false_iff]; exact .inl (by simp; exact h)
theorem fN (w0 : World) : ba w0 (.func (.func 225) #[] #[]) (λ x => x == []) := by
 refine ⟨_, _, rfl, enters_of func225 zK rfl, λ x hx w _ => ?_⟩; show Calls prog 225 #[.string (str x)] w _; go_enter func225, ntmps225
 go_wp2_with fail
 go_ret; exact ⟨au (by simp [ey]), Below.refl _ _⟩
theorem vI {w0 : World} {fv : Value} {p : Tx -> Bool} (hs : ba w0 fv p) {w : World} {b : Nat} (hw : Below w0.heap.size w0 w) (hc : w.cell? ⟨b, 0, none⟩ = some fv) {x : Ex} {L : List Value} (hx : a7 w L x) :
  Calls prog 228 #[.agg L.toArray, .pointer (some ⟨b, 0, none⟩)] w (aA (p x.name) w) := by
 obtain ⟨g, cap, rfl, eg, hf⟩ := hs; have eg : ∀ (args : Array Value) (W : World), (callFunc g args).run prog W = .ok (.enter g args) W := eg; obtain ⟨op, nm, n, cs, ks⟩ := x; obtain ⟨cv, kv, rfl, _, hnm, _, hcs, hks⟩ := hx.open_; obtain ⟨A1, n1, k1, rfl⟩ := aw.shape hcs; obtain ⟨A2, n2, k2, rfl⟩ := aw.shape hks; have hbl := World.block_lt_of_cell? w _ hc; have HF := zH (hf nm hnm); have HW := zH hw; have hsz := hw.size; clear hcs hks hx hf hw; go_enter func228, ntmps228
 go_wp2_with (go_at_fn g; refine (HF.o _ (HW.o.alloc zO _)).mono ?_; rintro e w1 ⟨rfl, hb1⟩)
 go_ret; exact ⟨rfl, ((Below.refl _ _).alloc (Nat.le_refl _) _).trans (hb1.mono (by simp))⟩
theorem uq {lo hi : Int} {w : World} {b c : Nat} (hb : w.cell? ⟨b, 0, none⟩ = some (.int .i64 lo)) (hc : w.cell? ⟨c, 0, none⟩ = some (.int .i64 hi)) {x : Ex} {L : List Value} (hx : a7 w L x) :
  Calls prog 227 #[.agg L.toArray, .pointer (some ⟨b, 0, none⟩), .pointer (some ⟨c, 0, none⟩)] w (aA (decide (lo <= x.num) && decide (x.num <= hi)) w) := by
 obtain ⟨op, nm, n, cs, ks⟩ := x; obtain ⟨cv, kv, rfl, _, _, _, hcs, hks⟩ := hx.open_; obtain ⟨A1, n1, k1, rfl⟩ := aw.shape hcs; obtain ⟨A2, n2, k2, rfl⟩ := aw.shape hks; have hbl := World.block_lt_of_cell? w _ hb; have hcl := World.block_lt_of_cell? w _ hc; clear hcs hks hx; go_enter func227, ntmps227
 go_wp2_with fail
 all_goals go_ret
 all_goals first | exact ⟨au (ve (by assumption)), (Below.refl _ _).alloc (Nat.le_refl _) _⟩ | exact ⟨au (vd (by assumption)), (Below.refl _ _).alloc (Nat.le_refl _) _⟩
theorem Cd {lo hi : Int} {w : World} {b c : Nat} (hb : w.cell? ⟨b, 0, none⟩ = some (.int .i64 lo)) (hc : w.cell? ⟨c, 0, none⟩ = some (.int .i64 hi)) {x : Ex} {L : List Value} (hx : a7 w L x) :
  Calls prog 230 #[.agg L.toArray, .pointer (some ⟨b, 0, none⟩), .pointer (some ⟨c, 0, none⟩)] w (aA (decide (lo <= x.kids.length) && decide ((x.kids.length : Int) <= hi)) w) := by
 obtain ⟨op, nm, n, cs, ks⟩ := x; obtain ⟨cv, kv, rfl, _, _, _, hcs, hks⟩ := hx.open_; obtain ⟨A1, n1, k1, rfl⟩ := aw.shape hcs; obtain ⟨A2, c2, rfl, _⟩ := hks; have hbl := World.block_lt_of_cell? w _ hb; have hcl := World.block_lt_of_cell? w _ hc; clear hcs hx; go_enter func230, ntmps230
 go_wp2_with fail
 all_goals go_ret
 all_goals first | exact ⟨au (ve (by assumption)), (Below.refl _ _).alloc (Nat.le_refl _) _⟩ | exact ⟨au (vd (by assumption)), (Below.refl _ _).alloc (Nat.le_refl _) _⟩
theorem Cr {w0 : World} {fv : Value} {p : Tx -> Bool} (hs : ba w0 fv p) {lo hi : Int} {w : World} {b c d : Nat} (hw : Below w0.heap.size w0 w) (hb : w.cell? ⟨b, 0, none⟩ = some (.int .i64 lo)) (hc : w.cell? ⟨c, 0, none⟩ = some (.int .i64 hi)) (hd : w.cell? ⟨d, 0, none⟩ = some fv) {x : Ex} {L : List Value} (hx : a7 w L x) :
  Calls prog 231 #[.agg L.toArray, .pointer (some ⟨b, 0, none⟩), .pointer (some ⟨c, 0, none⟩), .pointer (some ⟨d, 0, none⟩)] w (aA (decide (lo <= x.cons.length) && decide ((x.cons.length : Int) <= hi) && x.cons.all p) w) := by
 obtain ⟨g, cap, rfl, eg, hf⟩ := hs; obtain ⟨op, nm, n, cs, ks⟩ := x; obtain ⟨cv, kv, rfl, _, _, _, hcs, hks⟩ := hx.open_; have hA := zH (fO (lo := lo) (hi := hi) (f := p) hcs eg (λ y _ hy w' hw' => hf y hy w' (hw.trans (hw'.mono hw.size)))); obtain ⟨A1, n1, k1, rfl⟩ := aw.shape hcs; obtain ⟨A2, n2, k2, rfl⟩ := aw.shape hks; have hbl := World.block_lt_of_cell? w _ hb; have hcl := World.block_lt_of_cell? w _ hc; have hdl := World.block_lt_of_cell? w _ hd; clear hcs hks hx hf hw eg; go_enter func231, ntmps231
 go_wp2_with (go_at_call 121; refine (hA.o _ ((Below.refl _ _).alloc (Nat.le_refl _) _)).mono ?_; rintro e w1 ⟨rfl, hb1⟩)
 go_ret; exact ⟨rfl, ((Below.refl _ _).alloc (Nat.le_refl _) _).trans (hb1.mono (by simp))⟩
theorem yh {w : World} {b : Nat} {va : Value} {l : List Tx} (hb : w.cell? ⟨b, 0, none⟩ = some va) (ha : aH w va l) (x : Tx) :
  Calls prog 229 #[.string (str x), .pointer (some ⟨b, 0, none⟩)] w (aA (l.contains x) w) := by
 have H := zH (t6 x ha w (Below.refl _ _)); obtain ⟨A, ca, rfl, _⟩ := ha; go_enter func229, ntmps229
 go_wp2_with (go_at_call 178; refine H.o.mono ?_; rintro e w1 ⟨rfl, hb1⟩)
 go_ret; exact ⟨au (by simp), hb1⟩
theorem dG (w0 : World) : lh w0 (.func (.func 226) #[] #[]) (λ x => x.cons.isEmpty) := by
 refine ⟨_, _, rfl, enters_of func226 zK rfl, λ x L w _ hx => ?_⟩; show Calls prog 226 #[.agg L.toArray] w _; obtain ⟨op, nm, n, cs, ks⟩ := x; obtain ⟨cv, kv, rfl, _, _, _, hcs, hks⟩ := hx.open_; obtain ⟨A1, c1, rfl, _⟩ := hcs; obtain ⟨A2, n2, k2, rfl⟩ := aw.shape hks; clear hks hx; go_enter func226, ntmps226
 go_wp2_with fail
 all_goals go_ret
 all_goals exact ⟨au (by rw [Bool.eq_iff_iff]; cases cs <;> simp [Ex.cons] <;> omega), (Below.refl _ _).alloc (Nat.le_refl _) _⟩
theorem zX (w0 : World) : lh w0 (.func (.func 217) #[] #[]) (λ x => x.kids.length == x.cons.length) := by
 refine ⟨_, _, rfl, enters_of func217 zK rfl, λ x L w _ hx => ?_⟩; show Calls prog 217 #[.agg L.toArray] w _; obtain ⟨op, nm, n, cs, ks⟩ := x; obtain ⟨cv, kv, rfl, _, _, _, hcs, hks⟩ := hx.open_; obtain ⟨A1, c1, rfl, _⟩ := hcs; obtain ⟨A2, c2, rfl, _⟩ := hks; clear hx; go_enter func217, ntmps217
 go_wp2_with fail
 all_goals go_ret
 all_goals exact ⟨au (by rw [Bool.eq_iff_iff]; simp [Ex.cons, Ex.kids]; omega), (Below.refl _ _).alloc (Nat.le_refl _) _⟩
theorem Ga (w0 : World) : lh w0 (.func (.func 218) #[] #[]) (λ x => x.kids.length == 2 && (x.kids.headD pZ).op == 14) := by
 refine ⟨_, _, rfl, enters_of func218 zK rfl, λ x L w _ hx => ?_⟩; show Calls prog 218 #[.agg L.toArray] w _; obtain ⟨op, nm, n, cs, ks⟩ := x; obtain ⟨cv, kv, rfl, _, _, _, hcs, hks⟩ := hx.open_; obtain ⟨A1, n1, k1, rfl⟩ := aw.shape hcs; obtain ⟨A2, c2, rfl, h1, h2, h3⟩ := hks; clear hx hcs; match ks with
 | [x, y] =>
   obtain ⟨L, hE, hX⟩ := h3 0 x rfl; obtain ⟨o', a', m', c', k'⟩ := x; obtain ⟨cv, kv, rfl, _⟩ := hX.open_; obtain ⟨a, rfl, hab, haa, d0, d1, d2, d3, d4⟩ := fB hE; rw [Nat.zero_mul, add_zero] at d0; clear hE hX h3 d1 d2 d3 d4; go_enter func218, ntmps218
   go_wp2_with fail
   all_goals go_ret
   all_goals exact ⟨au (by rw [Bool.eq_iff_iff]; simp_all [Ex.kids, Ex.op]), (Below.refl _ _).alloc (Nat.le_refl _) _⟩
 | [] =>
   go_enter func218, ntmps218
   go_wp2_with fail
   go_ret; exact ⟨au (by simp [Ex.kids]), (Below.refl _ _).alloc (Nat.le_refl _) _⟩
 | [x] =>
   go_enter func218, ntmps218
   go_wp2_with fail
   go_ret; exact ⟨au (by simp [Ex.kids]), (Below.refl _ _).alloc (Nat.le_refl _) _⟩
 | x :: y :: z :: r =>
   have hlen : (x :: y :: z :: r).length = r.length + 3 := rfl; have hd : (((x :: y :: z :: r).length : Int) == 2) = false := (by rw [hlen]; simp; omega); generalize x :: y :: z :: r = l at *; have hlen' : 2 < l.length := zO; clear hlen; go_enter func218, ntmps218
   go_wp2_with fail
   go_ret; exact ⟨au (by rw [Eq.comm, Bool.eq_false_iff]; simp [Ex.kids]; omega), (Below.refl _ _).alloc (Nat.le_refl _) _⟩
end Go.Proofs.YtkfacdofkfabnaaGreatDoor
