/-
  Texts joined.
-/
import Derived.Test.YtlhmdjhfmhkllaaGreatDoorShelf
import Derived.Test.YtlhmdjhfmhkllaaGreatDoorKb08
import Derived.Test.YtlhmdjhfmhkllaaGreatDoorKb14
namespace Go.Proofs.YtlhmdjhfmhkllaaGreatDoor
open Go.RowKit
def EntersP (g : FuncId) : Prop := ∀ (args : Array Value) (W : World), (callFunc g args).run Tryz.prog W = .ok (.enter g args) W
/-- a function of strings, in every later world -/
def StrFn (w0 : World) (fv : Value) (p : Tx → Bool) : Prop :=
  ∃ (g : FuncId) (cap : Array Value), fv = .func (.func g) #[] cap ∧ EntersP g ∧ ∀ x : Tx, x.length ≤ maxLen → ∀ w, Below w0.heap.size w0 w → Calls Tryz.prog g (#[.string (str x)] ++ cap) w (BoolPost (p x) w)
/-- a function of expressions, in every later world -/
def ExFn (w0 : World) (fv : Value) (p : Ex → Bool) : Prop :=
  ∃ (g : FuncId) (cap : Array Value), fv = .func (.func g) #[] cap ∧ EntersP g ∧ ∀ x L w, Below w0.heap.size w0 w → ExAt w L x → Calls Tryz.prog g (#[.agg L.toArray] ++ cap) w (BoolPost (p x) w)
theorem StrFn.under {w0 w1 : World} {fv : Value} {p : Tx → Bool} (h : StrFn w0 fv p) (hb : Below w0.heap.size w0 w1) : StrFn w1 fv p := by
  obtain ⟨g, cap, e, he, h⟩ := h; exact ⟨g, cap, e, he, fun x hx w hw => h x hx w (hb.trans (hw.mono hb.size))⟩
theorem name_fn (w0 : World) : StrFn w0 (.func (.func 92) #[] #[]) (nameM false) :=
  ⟨_, _, rfl, enters_of Tryz.func92 (by kernel_rfl) rfl, fun x hx w _ => (isName_any (str x) w (by rw [str_size]; exact hx)).mono fun e w' h => by
    obtain ⟨rfl, rfl⟩ := h; exact ⟨rfl, Below.refl _ _⟩⟩
theorem con_fn (w0 : World) : StrFn w0 (.func (.func 93) #[] #[]) (conM false) :=
  ⟨_, _, rfl, enters_of Tryz.func93 (by kernel_rfl) rfl, fun x hx w _ => (isCon_any (str x) w (by rw [str_size]; exact hx)).mono fun e w' h => by
    obtain ⟨rfl, rfl⟩ := h; exact ⟨rfl, Below.refl _ _⟩⟩
theorem trimPrefix_any (s p : ByteArray) (w : World) :
    Calls Tryz.prog 142 #[.string s, .string p] w fun e w' => e = .returned (.string ⟨(Lib.trimPrefix s.data.toList p.data.toList).toArray⟩) ∧ w = w' :=
  (Any.strings_TrimPrefix Tryz.lays101 s p w).mono fun _ _ h => ⟨h.1, h.2.symm⟩
theorem ungen_any (x : Tx) (w : World) : Calls Tryz.prog 95 #[.string (str x)] w fun e w' => e = .returned (.string (str (ungenL true x))) ∧ w = w' := by
  go_enter Tryz.func95, Tryz.ntmps95
  go_wp2_with (go_at_call 142; refine (trimPrefix_any _ _ _).mono ?_; rintro e w' ⟨rfl, rfl⟩)
  go_ret; refine ⟨?_, rfl⟩; rw [str_toList]; simp only [ungenL, Lib.trimPrefix, Lib.hasPrefix, Bool.true_and, str]; rfl
theorem ungen_len (x : Tx) : (ungenL true x).length ≤ x.length := by
  unfold ungenL; split
  · simp
  · exact Nat.le_refl _
theorem nameMade_fn (w0 : World) : StrFn w0 (.func (.func 94) #[] #[]) (nameM true) := by
  refine ⟨_, _, rfl, enters_of Tryz.func94 (by kernel_rfl) rfl, fun x hx w _ => ?_⟩; have hx' : (str (ungenL true x)).size ≤ maxLen := (by rw [str_size]; have := ungen_len x; omega); show Calls Tryz.prog 94 #[.string (str x)] w _; go_enter Tryz.func94, Tryz.ntmps94
  go_wp2_with (first | (go_at_call 95; refine (ungen_any _ _).mono ?_; rintro e w' ⟨rfl, rfl⟩) | (go_at_call 92; refine (isName_any _ _ hx').mono ?_; rintro e w' ⟨rfl, rfl⟩))
  go_ret; exact ⟨rfl, Below.refl _ _⟩
theorem conMade_fn (w0 : World) : StrFn w0 (.func (.func 96) #[] #[]) (conM true) := by
  refine ⟨_, _, rfl, enters_of Tryz.func96 (by kernel_rfl) rfl, fun x hx w _ => ?_⟩; have hx' : (str (ungenL true x)).size ≤ maxLen := (by rw [str_size]; have := ungen_len x; omega); show Calls Tryz.prog 96 #[.string (str x)] w _; go_enter Tryz.func96, Tryz.ntmps96
  go_wp2_with (first | (go_at_call 95; refine (ungen_any _ _).mono ?_; rintro e w' ⟨rfl, rfl⟩) | (go_at_call 93; refine (isCon_any _ _ hx').mono ?_; rintro e w' ⟨rfl, rfl⟩))
  go_ret; exact ⟨rfl, Below.refl _ _⟩
end Go.Proofs.YtlhmdjhfmhkllaaGreatDoor

namespace Go.Proofs.YtlhmdjhfmhkllaaGreatDoor
open Go.RowKit
def Ex.name : Ex → Tx | .mk _ a _ _ _ => a
def Ex.num : Ex → Int | .mk _ _ n _ _ => n
def Ex.cons : Ex → List Tx | .mk _ _ _ c _ => c
theorem idx_none {l : List Tx} {x : Tx} {k : Nat} (h : AllTo (fun y => !(y == x)) l k) (hk : k = l.length) : l.contains x = false := by
  have := h.all hk; rw [Bool.eq_false_iff]; intro hc; simp at hc; rw [List.all_eq_true] at this; have := this x hc; simp at this
set_option maxHeartbeats 1000000 in
theorem indexS_any {w0 : World} {va : Value} {l : List Tx} (x : Tx) (ha : StrsAt w0 va l) :
    ∀ w, Below w0.heap.size w0 w → Calls Tryz.prog 244 #[va, .string (str x)] w (fun e w' => (∃ n : Int, e = .returned (.int .i64 n) ∧ decide (0 ≤ n) = l.contains x) ∧ Below w.heap.size w w') := by
  intro w hw; obtain ⟨A, ca, rfl, hca, hma, hea⟩ := ha; have hla : l.length ≤ 9223372036854775807 := (by unfold maxLen at hma; omega); have HW0 := Lib.hid hw; have hsz0 := hw.size; clear hw hca hma; go_enter Tryz.func244, Tryz.ntmps244
  go_wp2_with fail
  go_loopg [8] l.length (fun g v wr => ∃ k : Nat, k + g = l.length ∧ v = .int .i64 k ∧ AllTo (fun y => !(y == x)) l k ∧ Below w.heap.size w wr)
  case atStart => exact ⟨0, by omega, rfl, AllTo.zero, Below.refl _ _⟩
  case round =>
    obtain ⟨k, hkg, rfl, hto, hbw⟩ := hrel; have HK := Lib.hid hkg; have HW := Lib.hid hbw; have HT := Lib.hid hto; have hszw := hbw.size; have hkl : k ≤ l.length := (by omega); clear hkg hbw hto; by_cases hlt : k < l.length
    · obtain ⟨y, hy⟩ : ∃ y, l[k]? = some y := ⟨_, List.getElem?_eq_getElem hlt⟩; obtain ⟨L, hEL, rfl, _⟩ := hea k y hy; have HB0 := Lib.hid (HW0.out.trans (HW.out.mono hsz0)); have HY := Lib.hid hy; obtain ⟨a, rfl, hab, haa, d0⟩ := elem1 (hEL.under HB0.out); rw [Nat.mul_one] at d0; clear hEL hea hy; go_wp2_with fail
      all_goals first
        | (have hxy : x ≠ y := by
             intro e; subst e; simp_all
           have HXY := Lib.hid hxy; clear hxy; go_roundg (l.length - (k + 1))
           case measure => have := HK.out; omega
           case rel => exact ⟨k + 1, by omega, by go_num, HT.out.succ HY.out (by simp; exact fun e => HXY.out e.symm), HW.out⟩)
        | (have hxy : x = y := by
             simp_all [str_toL]
           go_ret; exact ⟨⟨_, rfl, by rw [hxy]; simp [List.mem_of_getElem? HY.out]⟩, HW.out⟩)
    · have hke : k = l.length := by omega
      have HKE := Lib.hid hke; clear hke; go_wp2_with fail
      go_ret; exact ⟨⟨_, rfl, by rw [idx_none HT.out HKE.out]; rfl⟩, HW.out⟩
theorem contains_any {w0 : World} {va : Value} {l : List Tx} (x : Tx) (ha : StrsAt w0 va l) :
    ∀ w, Below w0.heap.size w0 w → Calls Tryz.prog 236 #[va, .string (str x)] w (BoolPost (l.contains x) w) := by
  intro w hw; have H := Lib.hid (indexS_any x ha w hw); obtain ⟨A, ca, rfl, _⟩ := ha; clear hw; go_enter Tryz.func236, Tryz.ntmps236
  go_wp2_with (go_at_call 244; refine H.out.mono ?_; rintro e w1 ⟨⟨n, rfl, hn⟩, hb1⟩; have HN := Lib.hid hn; clear hn)
  go_ret; exact ⟨ret_bool HN.out, hb1⟩
/- the closures -/
theorem range_eq {lo n hi : Int} (h : lo ≤ n) : decide (n ≤ hi) = (decide (lo ≤ n) && decide (n ≤ hi)) := by simp [h]
theorem range_no {lo n hi : Int} (h : n < lo) : false = (decide (lo ≤ n) && decide (n ≤ hi)) := by rw [Eq.comm, Bool.and_eq_false_iff]; exact .inl (by simp; exact h)
theorem blank1_fn (w0 : World) : StrFn w0 (.func (.func 231) #[] #[]) (fun x => x == []) := by
  refine ⟨_, _, rfl, enters_of Tryz.func231 (by kernel_rfl) rfl, fun x hx w _ => ?_⟩; show Calls Tryz.prog 231 #[.string (str x)] w _; go_enter Tryz.func231, Tryz.ntmps231
  go_wp2_with fail
  go_ret; exact ⟨ret_bool (by simp [str_toL]), Below.refl _ _⟩
theorem nameIs1_any {w0 : World} {fv : Value} {p : Tx → Bool} (hs : StrFn w0 fv p) {w : World} {b : Nat} (hw : Below w0.heap.size w0 w) (hc : w.cell? ⟨b, 0, none⟩ = some fv) {x : Ex} {L : List Value} (hx : ExAt w L x) :
    Calls Tryz.prog 234 #[.agg L.toArray, .pointer (some ⟨b, 0, none⟩)] w (BoolPost (p x.name) w) := by
  obtain ⟨g, cap, rfl, eg, hf⟩ := hs; have eg : ∀ (args : Array Value) (W : World), (callFunc g args).run Tryz.prog W = .ok (.enter g args) W := eg; obtain ⟨op, nm, n, cs, ks⟩ := x; obtain ⟨cv, kv, rfl, _, hnm, _, hcs, hks⟩ := hx.open_; obtain ⟨A1, n1, k1, rfl⟩ := SliceAt.shape hcs; obtain ⟨A2, n2, k2, rfl⟩ := SliceAt.shape hks; have hbl := World.block_lt_of_cell? w _ hc; have HF := Lib.hid (hf nm hnm); have HW := Lib.hid hw; have hsz := hw.size; clear hcs hks hx hf hw; go_enter Tryz.func234, Tryz.ntmps234
  go_wp2_with (go_at_fn g; refine (HF.out _ (HW.out.alloc (by omega) _)).mono ?_; rintro e w1 ⟨rfl, hb1⟩)
  go_ret; exact ⟨rfl, ((Below.refl _ _).alloc (Nat.le_refl _) _).trans (hb1.mono (by simp))⟩
theorem within1_any {lo hi : Int} {w : World} {b c : Nat} (hb : w.cell? ⟨b, 0, none⟩ = some (.int .i64 lo)) (hc : w.cell? ⟨c, 0, none⟩ = some (.int .i64 hi)) {x : Ex} {L : List Value} (hx : ExAt w L x) :
    Calls Tryz.prog 233 #[.agg L.toArray, .pointer (some ⟨b, 0, none⟩), .pointer (some ⟨c, 0, none⟩)] w (BoolPost (decide (lo ≤ x.num) && decide (x.num ≤ hi)) w) := by
  obtain ⟨op, nm, n, cs, ks⟩ := x; obtain ⟨cv, kv, rfl, _, _, _, hcs, hks⟩ := hx.open_; obtain ⟨A1, n1, k1, rfl⟩ := SliceAt.shape hcs; obtain ⟨A2, n2, k2, rfl⟩ := SliceAt.shape hks; have hbl := World.block_lt_of_cell? w _ hb; have hcl := World.block_lt_of_cell? w _ hc; clear hcs hks hx; go_enter Tryz.func233, Tryz.ntmps233
  go_wp2_with fail
  all_goals go_ret
  all_goals first | exact ⟨ret_bool (range_eq (by assumption)), (Below.refl _ _).alloc (Nat.le_refl _) _⟩ | exact ⟨ret_bool (range_no (by assumption)), (Below.refl _ _).alloc (Nat.le_refl _) _⟩
theorem kids1_any {lo hi : Int} {w : World} {b c : Nat} (hb : w.cell? ⟨b, 0, none⟩ = some (.int .i64 lo)) (hc : w.cell? ⟨c, 0, none⟩ = some (.int .i64 hi)) {x : Ex} {L : List Value} (hx : ExAt w L x) :
    Calls Tryz.prog 237 #[.agg L.toArray, .pointer (some ⟨b, 0, none⟩), .pointer (some ⟨c, 0, none⟩)] w (BoolPost (decide (lo ≤ x.kids.length) && decide ((x.kids.length : Int) ≤ hi)) w) := by
  obtain ⟨op, nm, n, cs, ks⟩ := x; obtain ⟨cv, kv, rfl, _, _, _, hcs, hks⟩ := hx.open_; obtain ⟨A1, n1, k1, rfl⟩ := SliceAt.shape hcs; obtain ⟨A2, c2, rfl, _⟩ := hks; have hbl := World.block_lt_of_cell? w _ hb; have hcl := World.block_lt_of_cell? w _ hc; clear hcs hx; go_enter Tryz.func237, Tryz.ntmps237
  go_wp2_with fail
  all_goals go_ret
  all_goals first | exact ⟨ret_bool (range_eq (by assumption)), (Below.refl _ _).alloc (Nat.le_refl _) _⟩ | exact ⟨ret_bool (range_no (by assumption)), (Below.refl _ _).alloc (Nat.le_refl _) _⟩
theorem cons1_any {w0 : World} {fv : Value} {p : Tx → Bool} (hs : StrFn w0 fv p) {lo hi : Int} {w : World} {b c d : Nat} (hw : Below w0.heap.size w0 w) (hb : w.cell? ⟨b, 0, none⟩ = some (.int .i64 lo)) (hc : w.cell? ⟨c, 0, none⟩ = some (.int .i64 hi)) (hd : w.cell? ⟨d, 0, none⟩ = some fv) {x : Ex} {L : List Value} (hx : ExAt w L x) :
    Calls Tryz.prog 238 #[.agg L.toArray, .pointer (some ⟨b, 0, none⟩), .pointer (some ⟨c, 0, none⟩), .pointer (some ⟨d, 0, none⟩)] w (BoolPost (decide (lo ≤ x.cons.length) && decide ((x.cons.length : Int) ≤ hi) && x.cons.all p) w) := by
  obtain ⟨g, cap, rfl, eg, hf⟩ := hs; obtain ⟨op, nm, n, cs, ks⟩ := x; obtain ⟨cv, kv, rfl, _, _, _, hcs, hks⟩ := hx.open_; have hA := Lib.hid (all_string (lo := lo) (hi := hi) (f := p) hcs eg (fun y _ hy w' hw' => hf y hy w' (hw.trans (hw'.mono hw.size)))); obtain ⟨A1, n1, k1, rfl⟩ := SliceAt.shape hcs; obtain ⟨A2, n2, k2, rfl⟩ := SliceAt.shape hks; have hbl := World.block_lt_of_cell? w _ hb; have hcl := World.block_lt_of_cell? w _ hc; have hdl := World.block_lt_of_cell? w _ hd; clear hcs hks hx hf hw eg; go_enter Tryz.func238, Tryz.ntmps238
  go_wp2_with (go_at_call 143; refine (hA.out _ ((Below.refl _ _).alloc (Nat.le_refl _) _)).mono ?_; rintro e w1 ⟨rfl, hb1⟩)
  go_ret; exact ⟨rfl, ((Below.refl _ _).alloc (Nat.le_refl _) _).trans (hb1.mono (by simp))⟩
theorem oneOf1_any {w : World} {b : Nat} {va : Value} {l : List Tx} (hb : w.cell? ⟨b, 0, none⟩ = some va) (ha : StrsAt w va l) (x : Tx) :
    Calls Tryz.prog 235 #[.string (str x), .pointer (some ⟨b, 0, none⟩)] w (BoolPost (l.contains x) w) := by
  have H := Lib.hid (contains_any x ha w (Below.refl _ _)); obtain ⟨A, ca, rfl, _⟩ := ha; go_enter Tryz.func235, Tryz.ntmps235
  go_wp2_with (go_at_call 236; refine H.out.mono ?_; rintro e w1 ⟨rfl, hb1⟩)
  go_ret; exact ⟨ret_bool (by simp), hb1⟩
theorem blank2_fn (w0 : World) : ExFn w0 (.func (.func 232) #[] #[]) (fun x => x.cons.isEmpty) := by
  refine ⟨_, _, rfl, enters_of Tryz.func232 (by kernel_rfl) rfl, fun x L w _ hx => ?_⟩; show Calls Tryz.prog 232 #[.agg L.toArray] w _; obtain ⟨op, nm, n, cs, ks⟩ := x; obtain ⟨cv, kv, rfl, _, _, _, hcs, hks⟩ := hx.open_; obtain ⟨A1, c1, rfl, _⟩ := hcs; obtain ⟨A2, n2, k2, rfl⟩ := SliceAt.shape hks; clear hks hx; go_enter Tryz.func232, Tryz.ntmps232
  go_wp2_with fail
  all_goals go_ret
  all_goals exact ⟨ret_bool (by rw [Bool.eq_iff_iff]; cases cs <;> simp [Ex.cons] <;> omega), (Below.refl _ _).alloc (Nat.le_refl _) _⟩
theorem row1_fn (w0 : World) : ExFn w0 (.func (.func 220) #[] #[]) (fun x => x.kids.length == x.cons.length) := by
  refine ⟨_, _, rfl, enters_of Tryz.func220 (by kernel_rfl) rfl, fun x L w _ hx => ?_⟩; show Calls Tryz.prog 220 #[.agg L.toArray] w _; obtain ⟨op, nm, n, cs, ks⟩ := x; obtain ⟨cv, kv, rfl, _, _, _, hcs, hks⟩ := hx.open_; obtain ⟨A1, c1, rfl, _⟩ := hcs; obtain ⟨A2, c2, rfl, _⟩ := hks; clear hx; go_enter Tryz.func220, Tryz.ntmps220
  go_wp2_with fail
  all_goals go_ret
  all_goals exact ⟨ret_bool (by rw [Bool.eq_iff_iff]; simp [Ex.cons, Ex.kids]; omega), (Below.refl _ _).alloc (Nat.le_refl _) _⟩
set_option maxHeartbeats 1000000 in
theorem row2_fn (w0 : World) : ExFn w0 (.func (.func 221) #[] #[]) (fun x => x.kids.length == 2 && (x.kids.headD noneX).op == 14) := by
  refine ⟨_, _, rfl, enters_of Tryz.func221 (by kernel_rfl) rfl, fun x L w _ hx => ?_⟩; show Calls Tryz.prog 221 #[.agg L.toArray] w _; obtain ⟨op, nm, n, cs, ks⟩ := x; obtain ⟨cv, kv, rfl, _, _, _, hcs, hks⟩ := hx.open_; obtain ⟨A1, n1, k1, rfl⟩ := SliceAt.shape hcs; obtain ⟨A2, c2, rfl, h1, h2, h3⟩ := hks; clear hx hcs; match ks with
  | [x, y] =>
    obtain ⟨L, hE, hX⟩ := h3 0 x rfl; obtain ⟨o', a', m', c', k'⟩ := x; obtain ⟨cv, kv, rfl, _⟩ := hX.open_; obtain ⟨a, rfl, hab, haa, d0, d1, d2, d3, d4⟩ := elem5 hE; rw [Nat.zero_mul, add_zero] at d0; clear hE hX h3 d1 d2 d3 d4; go_enter Tryz.func221, Tryz.ntmps221
    go_wp2_with fail
    all_goals go_ret
    all_goals exact ⟨ret_bool (by rw [Bool.eq_iff_iff]; simp_all [Ex.kids, Ex.op]), (Below.refl _ _).alloc (Nat.le_refl _) _⟩
  | [] =>
    go_enter Tryz.func221, Tryz.ntmps221
    go_wp2_with fail
    go_ret; exact ⟨ret_bool (by simp [Ex.kids]), (Below.refl _ _).alloc (Nat.le_refl _) _⟩
  | [x] =>
    go_enter Tryz.func221, Tryz.ntmps221
    go_wp2_with fail
    go_ret; exact ⟨ret_bool (by simp [Ex.kids]), (Below.refl _ _).alloc (Nat.le_refl _) _⟩
  | x :: y :: z :: r =>
    have hlen : (x :: y :: z :: r).length = r.length + 3 := rfl; have hd : (((x :: y :: z :: r).length : Int) == 2) = false := (by rw [hlen]; simp; omega); generalize x :: y :: z :: r = l at *; have hlen' : 2 < l.length := (by omega); clear hlen; go_enter Tryz.func221, Tryz.ntmps221
    go_wp2_with fail
    go_ret; exact ⟨ret_bool (by rw [Eq.comm, Bool.eq_false_iff]; simp [Ex.kids]; omega), (Below.refl _ _).alloc (Nat.le_refl _) _⟩
end Go.Proofs.YtlhmdjhfmhkllaaGreatDoor
