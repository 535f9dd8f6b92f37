import Derived.Test.YtdcjlihaldhhjaaGreatDoorShelf
import Derived.Test.YtdcjlihaldhhjaaGreatDoorKm08
import Derived.Test.YtdcjlihaldhhjaaGreatDoorKm16
set_option maxHeartbeats 1000000
namespace Go.Proofs.YtdcjlihaldhhjaaGreatDoor
open _root_.Go.Proofs.Tryz
open Go.RowKit
def jD (g : FuncId) : Prop := ∀ (args : Array Value) (W : World), (callFunc g args).run prog W = .ok (.enter g args) W
def aX (w0 : World) (fv : Value) (p : Tx -> Bool) : Prop :=
 ∃ (g : FuncId) (cap : Array Value), fv = .func (.func g) #[] cap /\ jD g /\ ∀ x : Tx, x.length <= maxLen -> ∀ w, Below w0.heap.size w0 w -> Calls prog g (#[.string (str x)] ++ cap) w (ax (p x) w)
def jF (w0 : World) (fv : Value) (p : Ex -> Bool) : Prop :=
 ∃ (g : FuncId) (cap : Array Value), fv = .func (.func g) #[] cap /\ jD g /\ ∀ x L w, Below w0.heap.size w0 w -> aT w L x -> Calls prog g (#[.agg L.toArray] ++ cap) w (ax (p x) w)
theorem aX.under {w0 w1 : World} {fv : Value} {p : Tx -> Bool} (h : aX w0 fv p) (hb : Below w0.heap.size w0 w1) : aX w1 fv p := by
 obtain ⟨g, cap, e, he, h⟩ := h; exact ⟨g, cap, e, he, λ x hx w hw => h x hx w (hb.trans (hw.mono hb.size))⟩
theorem Dl (w0 : World) : aX w0 (.func (.func 68) #[] #[]) (cJ false) :=
 ⟨_, _, rfl, enters_of func68 zK rfl, λ x hx w _ => (oO (str x) w (by rw [fS]; exact hx)).mono λ e w' h => by
   obtain ⟨rfl, rfl⟩ := h; exact ⟨rfl, Below.refl _ _⟩⟩
theorem Fc (w0 : World) : aX w0 (.func (.func 69) #[] #[]) (iq false) :=
 ⟨_, _, rfl, enters_of func69 zK rfl, λ x hx w _ => (qt (str x) w (by rw [fS]; exact hx)).mono λ e w' h => by
   obtain ⟨rfl, rfl⟩ := h; exact ⟨rfl, Below.refl _ _⟩⟩
theorem nQ (s p : ByteArray) (w : World) :
  Calls prog 120 #[.string s, .string p] w λ e w' => e = .returned (.string ⟨(Lib.trimPrefix s.data.toList p.data.toList).toArray⟩) /\ w = w' :=
 (Any.strings_TrimPrefix lays101 s p w).mono λ _ _ h => ⟨h.1, h.2.symm⟩
theorem pR (x : Tx) (w : World) : Calls prog 71 #[.string (str x)] w λ e w' => e = .returned (.string (str (iN true x))) /\ w = w' := by
 go_enter func71, ntmps71
 go_wp2_with (go_at_call 120; refine (nQ _ _ _).mono ?_; rintro e w' ⟨rfl, rfl⟩)
 go_ret; refine ⟨?_, rfl⟩; rw [aV]; simp only [iN, Lib.trimPrefix, Lib.hasPrefix, Bool.true_and, str]; rfl
theorem pQ (x : Tx) : (iN true x).length <= x.length := by
 unfold iN; split
 . simp
 . exact Nat.le_refl _
theorem tA (w0 : World) : aX w0 (.func (.func 70) #[] #[]) (cJ true) := by
 refine ⟨_, _, rfl, enters_of func70 zK rfl, λ x hx w _ => ?_⟩; have hx' : (str (iN true x)).size <= maxLen := (by rw [fS]; have := pQ x; omega); show Calls prog 70 #[.string (str x)] w _; go_enter func70, ntmps70
 go_wp2_with (first | (go_at_call 71; refine (pR _ _).mono ?_; rintro e w' ⟨rfl, rfl⟩) | (go_at_call 68; refine (oO _ _ hx').mono ?_; rintro e w' ⟨rfl, rfl⟩))
 go_ret; exact ⟨rfl, Below.refl _ _⟩
theorem vT (w0 : World) : aX w0 (.func (.func 72) #[] #[]) (iq true) := by
 refine ⟨_, _, rfl, enters_of func72 zK rfl, λ x hx w _ => ?_⟩; have hx' : (str (iN true x)).size <= maxLen := (by rw [fS]; have := pQ x; omega); show Calls prog 72 #[.string (str x)] w _; go_enter func72, ntmps72
 go_wp2_with (first | (go_at_call 71; refine (pR _ _).mono ?_; rintro e w' ⟨rfl, rfl⟩) | (go_at_call 69; refine (qt _ _ hx').mono ?_; rintro e w' ⟨rfl, rfl⟩))
 go_ret; exact ⟨rfl, Below.refl _ _⟩
def Ex.name : Ex -> Tx | .mk _ a _ _ _ => a
def Ex.num : Ex -> Int | .mk _ _ n _ _ => n
def Ex.cons : Ex -> List Tx | .mk _ _ _ c _ => c
theorem Bd {l : List Tx} {x : Tx} {k : Nat} (h : bL (λ y => !(y == x)) l k) (hk : k = l.length) : l.contains x = false := by
 have := h.all hk; rw [Bool.eq_false_iff]; intro hc; simp at hc; rw [List.all_eq_true] at this; have := this x hc; simp at this
theorem vK {w0 : World} {va : Value} {l : List Tx} (x : Tx) (ha : aG w0 va l) :
  ∀ w, Below w0.heap.size w0 w -> Calls prog 195 #[va, .string (str x)] w (λ e w' => (∃ n : Int, e = .returned (.int .i64 n) /\ decide (0 <= n) = l.contains x) /\ Below w.heap.size w w') := by
 intro w hw; obtain ⟨A, ca, rfl, hca, hma, hea⟩ := ha; have hla : l.length <= 9223372036854775807 := (by unfold maxLen at hma; omega); have HW0 := zH hw; have hsz0 := hw.size; clear hw hca hma; go_enter func195, ntmps195
 go_wp2_with fail
 go_loopg [8] l.length (λ g v wr => ∃ k : Nat, k + g = l.length /\ v = .int .i64 k /\ bL (λ y => !(y == x)) l k /\ Below w.heap.size w wr)
 case atStart => exact ⟨0, by omega, rfl, bL.zero, Below.refl _ _⟩
 case round =>
  obtain ⟨k, hkg, rfl, hto, hbw⟩ := hrel; have HK := zH hkg; have HW := zH hbw; have HT := zH hto; have hszw := hbw.size; have hkl : k <= l.length := zO; clear hkg hbw hto; by_cases hlt : k < l.length
  . obtain ⟨y, hy⟩ := zG hlt; obtain ⟨L, hEL, rfl, _⟩ := hea k y hy; have HB0 := zH (HW0.o.trans (HW.o.mono hsz0)); have HY := zH hy; obtain ⟨a, rfl, hab, haa, d0⟩ := ez (hEL.under HB0.o); rw [Nat.mul_one] at d0; clear hEL hea hy; go_wp2_with fail
    all_goals first
     | (have hxy : x ≠ y := by
         intro e; subst e; simp_all
        have HXY := zH hxy; clear hxy; go_roundg (l.length - (k + 1))
        case measure => have := HK.o; omega
        case rel => exact ⟨k + 1, by omega, by go_num, HT.o.succ HY.o (by simp; exact λ e => HXY.o e.symm), HW.o⟩)
     | (have hxy : x = y := by
         simp_all [cR]
        go_ret; exact ⟨⟨_, rfl, by rw [hxy]; simp [List.mem_of_getElem? HY.o]⟩, HW.o⟩)
  . have hke : k = l.length := by omega
    have HKE := zH hke; clear hke; go_wp2_with fail
    go_ret; exact ⟨⟨_, rfl, by rw [Bd HT.o HKE.o]; rfl⟩, HW.o⟩
theorem rZ {w0 : World} {va : Value} {l : List Tx} (x : Tx) (ha : aG w0 va l) :
  ∀ w, Below w0.heap.size w0 w -> Calls prog 176 #[va, .string (str x)] w (ax (l.contains x) w) := by
 intro w hw; have H := zH (vK x ha w hw); obtain ⟨A, ca, rfl, _⟩ := ha; clear hw; go_enter func176, ntmps176
 go_wp2_with (go_at_call 195; refine H.o.mono ?_; rintro e w1 ⟨⟨n, rfl, hn⟩, hb1⟩; have HN := zH hn; clear hn)
 go_ret; exact ⟨aj HN.o, hb1⟩
theorem tb {lo n hi : Int} (h : lo <= n) : decide (n <= hi) = (decide (lo <= n) && decide (n <= hi)) := by simp [h]
theorem ta {lo n hi : Int} (h : n < lo) : false = (decide (lo <= n) && decide (n <= hi)) := by rw [Eq.comm, Bool.and_eq_false_iff]; exact .inl (by simp; exact h)
theorem eX (w0 : World) : aX w0 (.func (.func 222) #[] #[]) (λ x => x == []) := by
 refine ⟨_, _, rfl, enters_of func222 zK rfl, λ x hx w _ => ?_⟩; show Calls prog 222 #[.string (str x)] w _; go_enter func222, ntmps222
 go_wp2_with fail
 go_ret; exact ⟨aj (by simp [cR]), Below.refl _ _⟩
theorem tB {w0 : World} {fv : Value} {p : Tx -> Bool} (hs : aX w0 fv p) {w : World} {b : Nat} (hw : Below w0.heap.size w0 w) (hc : w.cell? ⟨b, 0, none⟩ = some fv) {x : Ex} {L : List Value} (hx : aT w L x) :
  Calls prog 225 #[.agg L.toArray, .pointer (some ⟨b, 0, none⟩)] w (ax (p x.name) w) := by
 obtain ⟨g, cap, rfl, eg, hf⟩ := hs; have eg : ∀ (args : Array Value) (W : World), (callFunc g args).run prog W = .ok (.enter g args) W := eg; obtain ⟨op, nm, n, cs, ks⟩ := x; obtain ⟨cv, kv, rfl, _, hnm, _, hcs, hks⟩ := hx.open_; obtain ⟨A1, n1, k1, rfl⟩ := aw.shape hcs; obtain ⟨A2, n2, k2, rfl⟩ := aw.shape hks; have hbl := World.block_lt_of_cell? w _ hc; have HF := zH (hf nm hnm); have HW := zH hw; have hsz := hw.size; clear hcs hks hx hf hw; go_enter func225, ntmps225
 go_wp2_with (go_at_fn g; refine (HF.o _ (HW.o.alloc zO _)).mono ?_; rintro e w1 ⟨rfl, hb1⟩)
 go_ret; exact ⟨rfl, ((Below.refl _ _).alloc (Nat.le_refl _) _).trans (hb1.mono (by simp))⟩
theorem sq {lo hi : Int} {w : World} {b c : Nat} (hb : w.cell? ⟨b, 0, none⟩ = some (.int .i64 lo)) (hc : w.cell? ⟨c, 0, none⟩ = some (.int .i64 hi)) {x : Ex} {L : List Value} (hx : aT w L x) :
  Calls prog 224 #[.agg L.toArray, .pointer (some ⟨b, 0, none⟩), .pointer (some ⟨c, 0, none⟩)] w (ax (decide (lo <= x.num) && decide (x.num <= hi)) w) := by
 obtain ⟨op, nm, n, cs, ks⟩ := x; obtain ⟨cv, kv, rfl, _, _, _, hcs, hks⟩ := hx.open_; obtain ⟨A1, n1, k1, rfl⟩ := aw.shape hcs; obtain ⟨A2, n2, k2, rfl⟩ := aw.shape hks; have hbl := World.block_lt_of_cell? w _ hb; have hcl := World.block_lt_of_cell? w _ hc; clear hcs hks hx; go_enter func224, ntmps224
 go_wp2_with fail
 all_goals go_ret
 all_goals first | exact ⟨aj (tb (by assumption)), (Below.refl _ _).alloc (Nat.le_refl _) _⟩ | exact ⟨aj (ta (by assumption)), (Below.refl _ _).alloc (Nat.le_refl _) _⟩
theorem yI {lo hi : Int} {w : World} {b c : Nat} (hb : w.cell? ⟨b, 0, none⟩ = some (.int .i64 lo)) (hc : w.cell? ⟨c, 0, none⟩ = some (.int .i64 hi)) {x : Ex} {L : List Value} (hx : aT w L x) :
  Calls prog 227 #[.agg L.toArray, .pointer (some ⟨b, 0, none⟩), .pointer (some ⟨c, 0, none⟩)] w (ax (decide (lo <= x.kids.length) && decide ((x.kids.length : Int) <= hi)) w) := by
 obtain ⟨op, nm, n, cs, ks⟩ := x; obtain ⟨cv, kv, rfl, _, _, _, hcs, hks⟩ := hx.open_; obtain ⟨A1, n1, k1, rfl⟩ := aw.shape hcs; obtain ⟨A2, c2, rfl, _⟩ := hks; have hbl := World.block_lt_of_cell? w _ hb; have hcl := World.block_lt_of_cell? w _ hc; clear hcs hx; go_enter func227, ntmps227
 go_wp2_with fail
 all_goals go_ret
 all_goals first | exact ⟨aj (tb (by assumption)), (Below.refl _ _).alloc (Nat.le_refl _) _⟩ | exact ⟨aj (ta (by assumption)), (Below.refl _ _).alloc (Nat.le_refl _) _⟩
theorem yS {w0 : World} {fv : Value} {p : Tx -> Bool} (hs : aX w0 fv p) {lo hi : Int} {w : World} {b c d : Nat} (hw : Below w0.heap.size w0 w) (hb : w.cell? ⟨b, 0, none⟩ = some (.int .i64 lo)) (hc : w.cell? ⟨c, 0, none⟩ = some (.int .i64 hi)) (hd : w.cell? ⟨d, 0, none⟩ = some fv) {x : Ex} {L : List Value} (hx : aT w L x) :
  Calls prog 228 #[.agg L.toArray, .pointer (some ⟨b, 0, none⟩), .pointer (some ⟨c, 0, none⟩), .pointer (some ⟨d, 0, none⟩)] w (ax (decide (lo <= x.cons.length) && decide ((x.cons.length : Int) <= hi) && x.cons.all p) w) := by
 obtain ⟨g, cap, rfl, eg, hf⟩ := hs; obtain ⟨op, nm, n, cs, ks⟩ := x; obtain ⟨cv, kv, rfl, _, _, _, hcs, hks⟩ := hx.open_; have hA := zH (eY (lo := lo) (hi := hi) (f := p) hcs eg (λ y _ hy w' hw' => hf y hy w' (hw.trans (hw'.mono hw.size)))); obtain ⟨A1, n1, k1, rfl⟩ := aw.shape hcs; obtain ⟨A2, n2, k2, rfl⟩ := aw.shape hks; have hbl := World.block_lt_of_cell? w _ hb; have hcl := World.block_lt_of_cell? w _ hc; have hdl := World.block_lt_of_cell? w _ hd; clear hcs hks hx hf hw eg; go_enter func228, ntmps228
 go_wp2_with (go_at_call 121; refine (hA.o _ ((Below.refl _ _).alloc (Nat.le_refl _) _)).mono ?_; rintro e w1 ⟨rfl, hb1⟩)
 go_ret; exact ⟨rfl, ((Below.refl _ _).alloc (Nat.le_refl _) _).trans (hb1.mono (by simp))⟩
theorem vk {w : World} {b : Nat} {va : Value} {l : List Tx} (hb : w.cell? ⟨b, 0, none⟩ = some va) (ha : aG w va l) (x : Tx) :
  Calls prog 226 #[.string (str x), .pointer (some ⟨b, 0, none⟩)] w (ax (l.contains x) w) := by
 have H := zH (rZ x ha w (Below.refl _ _)); obtain ⟨A, ca, rfl, _⟩ := ha; go_enter func226, ntmps226
 go_wp2_with (go_at_call 176; refine H.o.mono ?_; rintro e w1 ⟨rfl, hb1⟩)
 go_ret; exact ⟨aj (by simp), hb1⟩
theorem dc (w0 : World) : jF w0 (.func (.func 223) #[] #[]) (λ x => x.cons.isEmpty) := by
 refine ⟨_, _, rfl, enters_of func223 zK rfl, λ x L w _ hx => ?_⟩; show Calls prog 223 #[.agg L.toArray] w _; obtain ⟨op, nm, n, cs, ks⟩ := x; obtain ⟨cv, kv, rfl, _, _, _, hcs, hks⟩ := hx.open_; obtain ⟨A1, c1, rfl, _⟩ := hcs; obtain ⟨A2, n2, k2, rfl⟩ := aw.shape hks; clear hks hx; go_enter func223, ntmps223
 go_wp2_with fail
 all_goals go_ret
 all_goals exact ⟨aj (by rw [Bool.eq_iff_iff]; cases cs <;> simp [Ex.cons] <;> omega), (Below.refl _ _).alloc (Nat.le_refl _) _⟩
theorem wM (w0 : World) : jF w0 (.func (.func 214) #[] #[]) (λ x => x.kids.length == x.cons.length) := by
 refine ⟨_, _, rfl, enters_of func214 zK rfl, λ x L w _ hx => ?_⟩; show Calls prog 214 #[.agg L.toArray] w _; obtain ⟨op, nm, n, cs, ks⟩ := x; obtain ⟨cv, kv, rfl, _, _, _, hcs, hks⟩ := hx.open_; obtain ⟨A1, c1, rfl, _⟩ := hcs; obtain ⟨A2, c2, rfl, _⟩ := hks; clear hx; go_enter func214, ntmps214
 go_wp2_with fail
 all_goals go_ret
 all_goals exact ⟨aj (by rw [Bool.eq_iff_iff]; simp [Ex.cons, Ex.kids]; omega), (Below.refl _ _).alloc (Nat.le_refl _) _⟩
theorem CQ (w0 : World) : jF w0 (.func (.func 215) #[] #[]) (λ x => x.kids.length == 2 && (x.kids.headD qo).op == 14) := by
 refine ⟨_, _, rfl, enters_of func215 zK rfl, λ x L w _ hx => ?_⟩; show Calls prog 215 #[.agg L.toArray] w _; obtain ⟨op, nm, n, cs, ks⟩ := x; obtain ⟨cv, kv, rfl, _, _, _, hcs, hks⟩ := hx.open_; obtain ⟨A1, n1, k1, rfl⟩ := aw.shape hcs; obtain ⟨A2, c2, rfl, h1, h2, h3⟩ := hks; clear hx hcs; match ks with
 | [x, y] =>
   obtain ⟨L, hE, hX⟩ := h3 0 x rfl; obtain ⟨o', a', m', c', k'⟩ := x; obtain ⟨cv, kv, rfl, _⟩ := hX.open_; obtain ⟨a, rfl, hab, haa, d0, d1, d2, d3, d4⟩ := dR hE; rw [Nat.zero_mul, add_zero] at d0; clear hE hX h3 d1 d2 d3 d4; go_enter func215, ntmps215
   go_wp2_with fail
   all_goals go_ret
   all_goals exact ⟨aj (by rw [Bool.eq_iff_iff]; simp_all [Ex.kids, Ex.op]), (Below.refl _ _).alloc (Nat.le_refl _) _⟩
 | [] =>
   go_enter func215, ntmps215
   go_wp2_with fail
   go_ret; exact ⟨aj (by simp [Ex.kids]), (Below.refl _ _).alloc (Nat.le_refl _) _⟩
 | [x] =>
   go_enter func215, ntmps215
   go_wp2_with fail
   go_ret; exact ⟨aj (by simp [Ex.kids]), (Below.refl _ _).alloc (Nat.le_refl _) _⟩
 | x :: y :: z :: r =>
   have hlen : (x :: y :: z :: r).length = r.length + 3 := rfl; have hd : (((x :: y :: z :: r).length : Int) == 2) = false := (by rw [hlen]; simp; omega); generalize x :: y :: z :: r = l at *; have hlen' : 2 < l.length := zO; clear hlen; go_enter func215, ntmps215
   go_wp2_with fail
   go_ret; exact ⟨aj (by rw [Eq.comm, Bool.eq_false_iff]; simp [Ex.kids]; omega), (Below.refl _ _).alloc (Nat.le_refl _) _⟩
end Go.Proofs.YtdcjlihaldhhjaaGreatDoor
