/-
  Texts joined, what is not needed here left out: TreeExpr TreeEqn TreeSt.
-/
import Derived.Lib.AppendIntMem
import Derived.Lib.BufferKept
import Derived.Lib.ItoaLen
import Derived.Lib.LaidTab
import Derived.Lib.QuietBelow
import Derived.Shelf.Small.Wraps
import Derived.Shelf.Strconv.Itoa4
import Derived.Test.YtoajfnfhphoaeaaGreatDoorKc10
namespace Go.Proofs.YtoajfnfhphoaeaaGreatDoor
open Go.RowKit
/-- the table of powers of ten stands as it was laid -/
def Tab (w : World) : Prop := Lib.TabIs Tryz.prog w "internal/strconv.uint64pow10" .u64 Lib.pow10Tab
theorem Tab.under {w w' : World} (h : Tab w) (hb : Below w.heap.size w w') : Tab w' := by
  unfold Tab Lib.TabIs World.var? at h ⊢; cases hg : Tryz.prog.globalNamed "internal/strconv.uint64pow10" with
  | none => rw [hg] at h; cases h
  | some g =>
    rw [hg] at h; simp only [Option.bind_some] at h ⊢; have hlt : g < w.heap.size := by
      rcases Nat.lt_or_ge g w.heap.size with h' | h'
      · exact h'
      · rw [Array.getElem?_eq_none h'] at h; cases h
    rw [hb.block g hlt]; exact h
theorem fmtInt_any (n : Int) (h : i64B n) (w : World) (ht : Tab w) : Calls Tryz.prog 50 #[.int .i64 n, .int .i64 10] w fun e w' => e = .returned (.string (str (Lib.itoa n))) ∧ Below w.heap.size w w' :=
  (Any.strconv_FormatInt_10 Tryz.laysM173 n h.1 h.2 w ht).mono fun _ _ ⟨h1, k, os, h2⟩ => ⟨h1, by rw [h2]; exact Lib.below_grow _ _ (Nat.le_refl _) _ _⟩
theorem fmtBool_any (b : Bool) (w : World) : Calls Tryz.prog 51 #[.bool b] w fun e w' => e = .returned (.string (str (if b then trueT else falseT))) ∧ w = w' :=
  (Any.strconv_FormatBool Tryz.lays121 b w).mono fun _ _ ⟨h1, h2⟩ => ⟨by rw [h1]; cases b <;> rfl, h2.symm⟩
theorem grown_of_below {w w' : World} (h : Below w.heap.size w w') (row : Option Nat) : w.grownBy w' row := ⟨h.os, h.tape, h.output, h.size, fun k hk _ => h.block k hk⟩
theorem TextAt.under {B b : Nat} {p : Value} {bs : List Value} {g : Bool} {w w' : World} (h : TextAt B b p bs g w) (hb : Below w.heap.size w w') : TextAt B b p bs g w' := by
  have hlt := h.lt; obtain ⟨hB, v, hbk, hown, hne⟩ := h; exact ⟨hB, v, (hb.block b hlt).trans hbk, hown.kept (grown_of_below hb none) (by cases hv : v.ownBlock <;> simp), hne⟩
theorem TextW.under {B b : Nat} {ts : List Tx} {w w' : World} (h : TextW B b ts w) (hb : Below w.heap.size w w') : TextW B b ts w' :=
  ⟨h.1.elim (fun x => .inl (x.under hb)) (fun x => .inr (x.under hb)), Nat.le_trans h.2 hb.size⟩
theorem TKept.same {B b : Nat} {w w' : World} (hB : B ≤ w.heap.size) (hb : Below w.heap.size w w') : TKept B b w w' := ⟨hb.mono hB, (Lib.OthersKept.refl _ _ w).below hb⟩
theorem op_cases (op : Int) : op = 1 ∨ op = 2 ∨ op = 3 ∨ op = 4 ∨ op = 5 ∨ op = 6 ∨ op = 7 ∨ op = 8 ∨ op = 9 ∨ op = 10 ∨ op = 11 ∨ op = 12 ∨ op = 13 ∨ op = 14 ∨ op = 15 ∨ (op ≠ 1 ∧ op ≠ 2 ∧ op ≠ 3 ∧ op ≠ 4 ∧ op ≠ 5 ∧ op ≠ 6 ∧ op ≠ 7 ∧ op ≠ 8 ∧ op ≠ 9 ∧ op ≠ 10 ∧ op ≠ 11 ∧ op ≠ 12 ∧ op ≠ 13 ∧ op ≠ 14 ∧ op ≠ 15) := by omega
section
variable {B b : Nat} {w0 : World} {n : Int} {nm : Tx} {cs : List Tx} {ks : List Ex} {cv : Value} {A : Option Addr} {c : Nat} {C : Nat → List Value}
set_option maxHeartbeats 1000000 in
theorem exprT_5 (h : NodeC B b w0 nm cs ks cv A c C) {w : World} {ts : List Tx} (ht : TextW B b ts w) (hb : Below w0.heap.size w0 w) (hn : SizeOk (ts ++ toksOf 5 nm n cs (ks.map toksX))) :
    Calls Tryz.prog 29 #[.pointer (some ⟨b, 0, none⟩), .agg #[.int .i64 5, .string (str nm), .int .i64 n, cv, .slice A ks.length c]] w (PutPost B b (ts ++ toksOf 5 nm n cs (ks.map toksX)) w) := by
  have e : toksOf 5 nm n cs (ks.map toksX) = prefixT nm (ks.map toksX) := (by simp [toksOf]); have HE := Lib.hid e; have HN := Lib.hid (show SizeOk (ts ++ prefixT nm (ks.map toksX)) by rw [e] at hn; exact hn); clear e hn; have HT := Lib.hid ht; have HB := Lib.hid hb; have HH := Lib.hid h; have hsz := hb.size; have hblt := ht.lt; obtain ⟨A2, n2, k2, rfl⟩ : ∃ A2 n2 k2, cv = .slice A2 n2 k2 := by obtain ⟨A2, k2, e, _⟩ := h.hcs; exact ⟨_, _, _, e⟩
  clear h ht hb; go_enter Tryz.func29, Tryz.ntmps29
  go_wp2_with (go_at_call 52; refine (prefix_any HH.out HH.out.hnm (HT.out.alloc _) (HB.out.alloc (by omega) _) HN.out).mono ?_; rintro e w1 ⟨rfl, ht1, hk1⟩)
  go_end0
  exact ⟨rfl, by rw [HE.out]; exact ht1, ((TKept.refl B b w).alloc HT.out.2 _).trans hk1⟩
set_option maxHeartbeats 1000000 in
theorem exprT_6 (h : NodeC B b w0 nm cs ks cv A c C) {w : World} {ts : List Tx} (ht : TextW B b ts w) (hb : Below w0.heap.size w0 w) (hn : SizeOk (ts ++ toksOf 6 nm n cs (ks.map toksX))) :
    Calls Tryz.prog 29 #[.pointer (some ⟨b, 0, none⟩), .agg #[.int .i64 6, .string (str nm), .int .i64 n, cv, .slice A ks.length c]] w (PutPost B b (ts ++ toksOf 6 nm n cs (ks.map toksX)) w) := by
  have e : toksOf 6 nm n cs (ks.map toksX) = infixT nm (ks.map toksX) := (by simp [toksOf]); have HE := Lib.hid e; have HN := Lib.hid (show SizeOk (ts ++ infixT nm (ks.map toksX)) by rw [e] at hn; exact hn); clear e hn; have HT := Lib.hid ht; have HB := Lib.hid hb; have HH := Lib.hid h; have hsz := hb.size; have hblt := ht.lt; obtain ⟨A2, n2, k2, rfl⟩ : ∃ A2 n2 k2, cv = .slice A2 n2 k2 := by obtain ⟨A2, k2, e, _⟩ := h.hcs; exact ⟨_, _, _, e⟩
  clear h ht hb; go_enter Tryz.func29, Tryz.ntmps29
  go_wp2_with (go_at_call 53; refine (infix_any HH.out HH.out.hnm (HT.out.alloc _) (HB.out.alloc (by omega) _) HN.out).mono ?_; rintro e w1 ⟨rfl, ht1, hk1⟩)
  go_end0
  exact ⟨rfl, by rw [HE.out]; exact ht1, ((TKept.refl B b w).alloc HT.out.2 _).trans hk1⟩
set_option maxHeartbeats 1000000 in
theorem exprT_7 (h : NodeC B b w0 nm cs ks cv A c C) {w : World} {ts : List Tx} (ht : TextW B b ts w) (hb : Below w0.heap.size w0 w) (hn : SizeOk (ts ++ toksOf 7 nm n cs (ks.map toksX))) :
    Calls Tryz.prog 29 #[.pointer (some ⟨b, 0, none⟩), .agg #[.int .i64 7, .string (str nm), .int .i64 n, cv, .slice A ks.length c]] w (PutPost B b (ts ++ toksOf 7 nm n cs (ks.map toksX)) w) := by
  have e : toksOf 7 nm n cs (ks.map toksX) = choiceT (ks.map toksX) := (by simp [toksOf]); have HE := Lib.hid e; have HN := Lib.hid (show SizeOk (ts ++ choiceT (ks.map toksX)) by rw [e] at hn; exact hn); clear e hn; have HT := Lib.hid ht; have HB := Lib.hid hb; have HH := Lib.hid h; have hsz := hb.size; have hblt := ht.lt; obtain ⟨A2, n2, k2, rfl⟩ : ∃ A2 n2 k2, cv = .slice A2 n2 k2 := by obtain ⟨A2, k2, e, _⟩ := h.hcs; exact ⟨_, _, _, e⟩
  clear h ht hb; go_enter Tryz.func29, Tryz.ntmps29
  go_wp2_with (go_at_call 54; refine (choice_any HH.out (HT.out.alloc _) (HB.out.alloc (by omega) _) HN.out).mono ?_; rintro e w1 ⟨rfl, ht1, hk1⟩)
  go_end0
  exact ⟨rfl, by rw [HE.out]; exact ht1, ((TKept.refl B b w).alloc HT.out.2 _).trans hk1⟩
set_option maxHeartbeats 1000000 in
theorem exprT_8 (h : NodeC B b w0 nm cs ks cv A c C) {w : World} {ts : List Tx} (ht : TextW B b ts w) (hb : Below w0.heap.size w0 w) (hn : SizeOk (ts ++ toksOf 8 nm n cs (ks.map toksX))) :
    Calls Tryz.prog 29 #[.pointer (some ⟨b, 0, none⟩), .agg #[.int .i64 8, .string (str nm), .int .i64 n, cv, .slice A ks.length c]] w (PutPost B b (ts ++ toksOf 8 nm n cs (ks.map toksX)) w) := by
  have e : toksOf 8 nm n cs (ks.map toksX) = infixT fbyT (ks.map toksX) := (by simp [toksOf]); have HE := Lib.hid e; have HN := Lib.hid (show SizeOk (ts ++ infixT fbyT (ks.map toksX)) by rw [e] at hn; exact hn); clear e hn; have HT := Lib.hid ht; have HB := Lib.hid hb; have HH := Lib.hid h; have hsz := hb.size; have hblt := ht.lt; obtain ⟨A2, n2, k2, rfl⟩ : ∃ A2 n2 k2, cv = .slice A2 n2 k2 := by obtain ⟨A2, k2, e, _⟩ := h.hcs; exact ⟨_, _, _, e⟩
  clear h ht hb; go_enter Tryz.func29, Tryz.ntmps29
  go_wp2_with (go_at_call 53; refine (infix_any (o := fbyT) HH.out (lit_ok (by decide)) (HT.out.alloc _) (HB.out.alloc (by omega) _) HN.out).mono ?_; rintro e w1 ⟨rfl, ht1, hk1⟩)
  go_end0
  exact ⟨rfl, by rw [HE.out]; exact ht1, ((TKept.refl B b w).alloc HT.out.2 _).trans hk1⟩
set_option maxHeartbeats 1000000 in
theorem exprT_9 (h : NodeC B b w0 nm cs ks cv A c C) {w : World} {ts : List Tx} (ht : TextW B b ts w) (hb : Below w0.heap.size w0 w) (hn : SizeOk (ts ++ toksOf 9 nm n cs (ks.map toksX))) :
    Calls Tryz.prog 29 #[.pointer (some ⟨b, 0, none⟩), .agg #[.int .i64 9, .string (str nm), .int .i64 n, cv, .slice A ks.length c]] w (PutPost B b (ts ++ toksOf 9 nm n cs (ks.map toksX)) w) := by
  have e : toksOf 9 nm n cs (ks.map toksX) = prefixT preT (ks.map toksX) := (by simp [toksOf]); have HE := Lib.hid e; have HN := Lib.hid (show SizeOk (ts ++ prefixT preT (ks.map toksX)) by rw [e] at hn; exact hn); clear e hn; have HT := Lib.hid ht; have HB := Lib.hid hb; have HH := Lib.hid h; have hsz := hb.size; have hblt := ht.lt; obtain ⟨A2, n2, k2, rfl⟩ : ∃ A2 n2 k2, cv = .slice A2 n2 k2 := by obtain ⟨A2, k2, e, _⟩ := h.hcs; exact ⟨_, _, _, e⟩
  clear h ht hb; go_enter Tryz.func29, Tryz.ntmps29
  go_wp2_with (go_at_call 52; refine (prefix_any (o := preT) HH.out (lit_ok (by decide)) (HT.out.alloc _) (HB.out.alloc (by omega) _) HN.out).mono ?_; rintro e w1 ⟨rfl, ht1, hk1⟩)
  go_end0
  exact ⟨rfl, by rw [HE.out]; exact ht1, ((TKept.refl B b w).alloc HT.out.2 _).trans hk1⟩
set_option maxHeartbeats 1000000 in
theorem exprT_10 (h : NodeC B b w0 nm cs ks cv A c C) {w : World} {ts : List Tx} (ht : TextW B b ts w) (hb : Below w0.heap.size w0 w) (hn : SizeOk (ts ++ toksOf 10 nm n cs (ks.map toksX))) :
    Calls Tryz.prog 29 #[.pointer (some ⟨b, 0, none⟩), .agg #[.int .i64 10, .string (str nm), .int .i64 n, cv, .slice A ks.length c]] w (PutPost B b (ts ++ toksOf 10 nm n cs (ks.map toksX)) w) := by
  have e : toksOf 10 nm n cs (ks.map toksX) = infixT arrowT (ks.map toksX) := (by simp [toksOf]); have HE := Lib.hid e; have HN := Lib.hid (show SizeOk (ts ++ infixT arrowT (ks.map toksX)) by rw [e] at hn; exact hn); clear e hn; have HT := Lib.hid ht; have HB := Lib.hid hb; have HH := Lib.hid h; have hsz := hb.size; have hblt := ht.lt; obtain ⟨A2, n2, k2, rfl⟩ : ∃ A2 n2 k2, cv = .slice A2 n2 k2 := by obtain ⟨A2, k2, e, _⟩ := h.hcs; exact ⟨_, _, _, e⟩
  clear h ht hb; go_enter Tryz.func29, Tryz.ntmps29
  go_wp2_with (go_at_call 53; refine (infix_any (o := arrowT) HH.out (lit_ok (by decide)) (HT.out.alloc _) (HB.out.alloc (by omega) _) HN.out).mono ?_; rintro e w1 ⟨rfl, ht1, hk1⟩)
  go_end0
  exact ⟨rfl, by rw [HE.out]; exact ht1, ((TKept.refl B b w).alloc HT.out.2 _).trans hk1⟩
set_option maxHeartbeats 1000000 in
theorem exprT_11 (h : NodeC B b w0 nm cs ks cv A c C) {w : World} {ts : List Tx} (ht : TextW B b ts w) (hb : Below w0.heap.size w0 w) (hn : SizeOk (ts ++ toksOf 11 nm n cs (ks.map toksX))) :
    Calls Tryz.prog 29 #[.pointer (some ⟨b, 0, none⟩), .agg #[.int .i64 11, .string (str nm), .int .i64 n, cv, .slice A ks.length c]] w (PutPost B b (ts ++ toksOf 11 nm n cs (ks.map toksX)) w) := by
  have e : toksOf 11 nm n cs (ks.map toksX) = whenT nm cs (ks.map toksX) := (by simp [toksOf]); have HE := Lib.hid e; have HN := Lib.hid (show SizeOk (ts ++ whenT nm cs (ks.map toksX)) by rw [e] at hn; exact hn); clear e hn; have HT := Lib.hid ht; have HB := Lib.hid hb; have HH := Lib.hid h; have hsz := hb.size; have hblt := ht.lt; obtain ⟨A2, n2, k2, rfl⟩ : ∃ A2 n2 k2, cv = .slice A2 n2 k2 := by obtain ⟨A2, k2, e, _⟩ := h.hcs; exact ⟨_, _, _, e⟩
  clear h ht hb; go_enter Tryz.func29, Tryz.ntmps29
  go_wp2_with (go_at_call 55; refine (when_any HH.out (HT.out.alloc _) (HB.out.alloc (by omega) _) HN.out).mono ?_; rintro e w1 ⟨rfl, ht1, hk1⟩)
  go_end0
  exact ⟨rfl, by rw [HE.out]; exact ht1, ((TKept.refl B b w).alloc HT.out.2 _).trans hk1⟩
set_option maxHeartbeats 1000000 in
theorem exprT_12 (h : NodeC B b w0 nm cs ks cv A c C) {w : World} {ts : List Tx} (ht : TextW B b ts w) (hb : Below w0.heap.size w0 w) (hn : SizeOk (ts ++ toksOf 12 nm n cs (ks.map toksX))) :
    Calls Tryz.prog 29 #[.pointer (some ⟨b, 0, none⟩), .agg #[.int .i64 12, .string (str nm), .int .i64 n, cv, .slice A ks.length c]] w (PutPost B b (ts ++ toksOf 12 nm n cs (ks.map toksX)) w) := by
  have e : toksOf 12 nm n cs (ks.map toksX) = armT mergeT nm cs (ks.map toksX) := (by simp [toksOf]); have HE := Lib.hid e; have HN := Lib.hid (show SizeOk (ts ++ armT mergeT nm cs (ks.map toksX)) by rw [e] at hn; exact hn); clear e hn; have HT := Lib.hid ht; have HB := Lib.hid hb; have HH := Lib.hid h; have hsz := hb.size; have hblt := ht.lt; obtain ⟨A2, n2, k2, rfl⟩ : ∃ A2 n2 k2, cv = .slice A2 n2 k2 := by obtain ⟨A2, k2, e, _⟩ := h.hcs; exact ⟨_, _, _, e⟩
  clear h ht hb; go_enter Tryz.func29, Tryz.ntmps29
  go_wp2_with (go_at_call 56; refine (arms_any (word := mergeT) HH.out (lit_ok (by decide)) (HT.out.alloc _) (HB.out.alloc (by omega) _) HN.out).mono ?_; rintro e w1 ⟨rfl, ht1, hk1⟩)
  go_end0
  exact ⟨rfl, by rw [HE.out]; exact ht1, ((TKept.refl B b w).alloc HT.out.2 _).trans hk1⟩
set_option maxHeartbeats 1000000 in
theorem exprT_13 (h : NodeC B b w0 nm cs ks cv A c C) {w : World} {ts : List Tx} (ht : TextW B b ts w) (hb : Below w0.heap.size w0 w) (hn : SizeOk (ts ++ toksOf 13 nm n cs (ks.map toksX))) :
    Calls Tryz.prog 29 #[.pointer (some ⟨b, 0, none⟩), .agg #[.int .i64 13, .string (str nm), .int .i64 n, cv, .slice A ks.length c]] w (PutPost B b (ts ++ toksOf 13 nm n cs (ks.map toksX)) w) := by
  have e : toksOf 13 nm n cs (ks.map toksX) = armT matchT nm cs (ks.map toksX) := (by simp [toksOf]); have HE := Lib.hid e; have HN := Lib.hid (show SizeOk (ts ++ armT matchT nm cs (ks.map toksX)) by rw [e] at hn; exact hn); clear e hn; have HT := Lib.hid ht; have HB := Lib.hid hb; have HH := Lib.hid h; have hsz := hb.size; have hblt := ht.lt; obtain ⟨A2, n2, k2, rfl⟩ : ∃ A2 n2 k2, cv = .slice A2 n2 k2 := by obtain ⟨A2, k2, e, _⟩ := h.hcs; exact ⟨_, _, _, e⟩
  clear h ht hb; go_enter Tryz.func29, Tryz.ntmps29
  go_wp2_with (go_at_call 56; refine (arms_any (word := matchT) HH.out (lit_ok (by decide)) (HT.out.alloc _) (HB.out.alloc (by omega) _) HN.out).mono ?_; rintro e w1 ⟨rfl, ht1, hk1⟩)
  go_end0
  exact ⟨rfl, by rw [HE.out]; exact ht1, ((TKept.refl B b w).alloc HT.out.2 _).trans hk1⟩
set_option maxHeartbeats 1000000 in
theorem exprT_14 (h : NodeC B b w0 nm cs ks cv A c C) {w : World} {ts : List Tx} (ht : TextW B b ts w) (hb : Below w0.heap.size w0 w) (hn : SizeOk (ts ++ toksOf 14 nm n cs (ks.map toksX))) :
    Calls Tryz.prog 29 #[.pointer (some ⟨b, 0, none⟩), .agg #[.int .i64 14, .string (str nm), .int .i64 n, cv, .slice A ks.length c]] w (PutPost B b (ts ++ toksOf 14 nm n cs (ks.map toksX)) w) := by
  have e : toksOf 14 nm n cs (ks.map toksX) = callT nm cs (ks.map toksX) := (by simp [toksOf]); have HE := Lib.hid e; have HN := Lib.hid (show SizeOk (ts ++ callT nm cs (ks.map toksX)) by rw [e] at hn; exact hn); clear e hn; have HT := Lib.hid ht; have HB := Lib.hid hb; have HH := Lib.hid h; have hsz := hb.size; have hblt := ht.lt; obtain ⟨A2, n2, k2, rfl⟩ : ∃ A2 n2 k2, cv = .slice A2 n2 k2 := by obtain ⟨A2, k2, e, _⟩ := h.hcs; exact ⟨_, _, _, e⟩
  clear h ht hb; go_enter Tryz.func29, Tryz.ntmps29
  go_wp2_with (go_at_call 57; refine (call_any HH.out (HT.out.alloc _) (HB.out.alloc (by omega) _) HN.out).mono ?_; rintro e w1 ⟨rfl, ht1, hk1⟩)
  go_end0
  exact ⟨rfl, by rw [HE.out]; exact ht1, ((TKept.refl B b w).alloc HT.out.2 _).trans hk1⟩
set_option maxHeartbeats 1000000 in
theorem exprT_15 (h : NodeC B b w0 nm cs ks cv A c C) {w : World} {ts : List Tx} (ht : TextW B b ts w) (hb : Below w0.heap.size w0 w) (hn : SizeOk (ts ++ toksOf 15 nm n cs (ks.map toksX))) :
    Calls Tryz.prog 29 #[.pointer (some ⟨b, 0, none⟩), .agg #[.int .i64 15, .string (str nm), .int .i64 n, cv, .slice A ks.length c]] w (PutPost B b (ts ++ toksOf 15 nm n cs (ks.map toksX)) w) := by
  have e : toksOf 15 nm n cs (ks.map toksX) = infixT everyT (ks.map toksX) := (by simp [toksOf]); have HE := Lib.hid e; have HN := Lib.hid (show SizeOk (ts ++ infixT everyT (ks.map toksX)) by rw [e] at hn; exact hn); clear e hn; have HT := Lib.hid ht; have HB := Lib.hid hb; have HH := Lib.hid h; have hsz := hb.size; have hblt := ht.lt; obtain ⟨A2, n2, k2, rfl⟩ : ∃ A2 n2 k2, cv = .slice A2 n2 k2 := by obtain ⟨A2, k2, e, _⟩ := h.hcs; exact ⟨_, _, _, e⟩
  clear h ht hb; go_enter Tryz.func29, Tryz.ntmps29
  go_wp2_with (go_at_call 53; refine (infix_any (o := everyT) HH.out (lit_ok (by decide)) (HT.out.alloc _) (HB.out.alloc (by omega) _) HN.out).mono ?_; rintro e w1 ⟨rfl, ht1, hk1⟩)
  go_end0
  exact ⟨rfl, by rw [HE.out]; exact ht1, ((TKept.refl B b w).alloc HT.out.2 _).trans hk1⟩
set_option maxHeartbeats 1000000 in
theorem exprT_3 (h : NodeC B b w0 nm cs ks cv A c C) {w : World} {ts : List Tx} (ht : TextW B b ts w) (hb : Below w0.heap.size w0 w) (hn : SizeOk (ts ++ toksOf 3 nm n cs (ks.map toksX))) :
    Calls Tryz.prog 29 #[.pointer (some ⟨b, 0, none⟩), .agg #[.int .i64 3, .string (str nm), .int .i64 n, cv, .slice A ks.length c]] w (PutPost B b (ts ++ toksOf 3 nm n cs (ks.map toksX)) w) := by
  have e : toksOf 3 nm n cs (ks.map toksX) = [(str nm : ByteArray).data.toList] := (by simp [toksOf, str_toList]); have HE := Lib.hid e; have HN := Lib.hid (show SizeOk (ts ++ [(str nm : ByteArray).data.toList]) by rw [e] at hn; exact hn); clear e hn; have HT := Lib.hid ht; have HB := Lib.hid hb; have HH := Lib.hid h; have hsz := hb.size; have hblt := ht.lt; obtain ⟨A2, n2, k2, rfl⟩ : ∃ A2 n2 k2, cv = .slice A2 n2 k2 := by obtain ⟨A2, k2, e, _⟩ := h.hcs; exact ⟨_, _, _, e⟩
  clear h ht hb; go_enter Tryz.func29, Tryz.ntmps29
  go_wp2_with (go_at_call 37; (with_reducible refine (putN1 (str nm) (HT.out.alloc _) HN.out HH.out.hnm (by simp)).mono ?_); rintro e w1 ⟨rfl, ht1, hk1⟩)
  go_end0
  exact ⟨rfl, by rw [HE.out]; exact ht1, ((TKept.refl B b w).alloc HT.out.2 _).trans hk1⟩
set_option maxHeartbeats 1000000 in
theorem exprT_4 (h : NodeC B b w0 nm cs ks cv A c C) {w : World} {ts : List Tx} (ht : TextW B b ts w) (hb : Below w0.heap.size w0 w) (hn : SizeOk (ts ++ toksOf 4 nm n cs (ks.map toksX))) :
    Calls Tryz.prog 29 #[.pointer (some ⟨b, 0, none⟩), .agg #[.int .i64 4, .string (str nm), .int .i64 n, cv, .slice A ks.length c]] w (PutPost B b (ts ++ toksOf 4 nm n cs (ks.map toksX)) w) := by
  have e : toksOf 4 nm n cs (ks.map toksX) = [(str nm : ByteArray).data.toList] := (by simp [toksOf, str_toList]); have HE := Lib.hid e; have HN := Lib.hid (show SizeOk (ts ++ [(str nm : ByteArray).data.toList]) by rw [e] at hn; exact hn); clear e hn; have HT := Lib.hid ht; have HB := Lib.hid hb; have HH := Lib.hid h; have hsz := hb.size; have hblt := ht.lt; obtain ⟨A2, n2, k2, rfl⟩ : ∃ A2 n2 k2, cv = .slice A2 n2 k2 := by obtain ⟨A2, k2, e, _⟩ := h.hcs; exact ⟨_, _, _, e⟩
  clear h ht hb; go_enter Tryz.func29, Tryz.ntmps29
  go_wp2_with (go_at_call 37; (with_reducible refine (putN1 (str nm) (HT.out.alloc _) HN.out HH.out.hnm (by simp)).mono ?_); rintro e w1 ⟨rfl, ht1, hk1⟩)
  go_end0
  exact ⟨rfl, by rw [HE.out]; exact ht1, ((TKept.refl B b w).alloc HT.out.2 _).trans hk1⟩
set_option maxHeartbeats 1000000 in
theorem exprT_1 (h : NodeC B b w0 nm cs ks cv A c C) (hi : i64B n) (htab : Tab w0) {w : World} {ts : List Tx} (ht : TextW B b ts w) (hb : Below w0.heap.size w0 w) (hn : SizeOk (ts ++ toksOf 1 nm n cs (ks.map toksX))) :
    Calls Tryz.prog 29 #[.pointer (some ⟨b, 0, none⟩), .agg #[.int .i64 1, .string (str nm), .int .i64 n, cv, .slice A ks.length c]] w (PutPost B b (ts ++ toksOf 1 nm n cs (ks.map toksX)) w) := by
  have e : toksOf 1 nm n cs (ks.map toksX) = [(str (Lib.itoa n) : ByteArray).data.toList] := (by simp [toksOf, str_toList]); have HE := Lib.hid e; have HN := Lib.hid (show SizeOk (ts ++ [(str (Lib.itoa n) : ByteArray).data.toList]) by rw [e] at hn; exact hn); have HL := Lib.hid (show (str (Lib.itoa n)).size ≤ maxLen by have := Lib.itoa_length_le n hi.1 hi.2; rw [str_size]; unfold maxLen; omega); have HI := Lib.hid hi; have HTB := Lib.hid htab; clear e hn hi htab; have HT := Lib.hid ht; have HB := Lib.hid hb; have HH := Lib.hid h; have hsz := hb.size; have hblt := ht.lt; obtain ⟨A2, n2, k2, rfl⟩ : ∃ A2 n2 k2, cv = .slice A2 n2 k2 := by obtain ⟨A2, k2, e, _⟩ := h.hcs; exact ⟨_, _, _, e⟩
  clear h ht hb; go_enter Tryz.func29, Tryz.ntmps29
  go_wp2_with (first
    | (go_at_call 50; refine (fmtInt_any n HI.out _ (HTB.out.under (HB.out.alloc (by omega) _))).mono ?_; rintro e w1 ⟨rfl, hb1⟩; have HT1 := Lib.hid ((HT.out.alloc _).under hb1); have HK1 := Lib.hid (((TKept.refl B b w).alloc HT.out.2 (.cells #[.int .i64 1, .string (str nm), .int .i64 n, .slice A2 n2 k2, .slice A ks.length c] 40)).trans (TKept.same (HT.out.alloc _).2 hb1)); clear hb1)
    | (go_at_call 37; with_reducible refine (putN1 (str (Lib.itoa n)) HT1.out HN.out HL.out rfl).mono ?_
       rintro e w2 ⟨rfl, ht2, hk2⟩))
  go_end0
  exact ⟨rfl, by rw [HE.out]; exact ht2, HK1.out.trans hk2⟩
set_option maxHeartbeats 1000000 in
theorem exprT_2 (h : NodeC B b w0 nm cs ks cv A c C) {w : World} {ts : List Tx} (ht : TextW B b ts w) (hb : Below w0.heap.size w0 w) (hn : SizeOk (ts ++ toksOf 2 nm n cs (ks.map toksX))) :
    Calls Tryz.prog 29 #[.pointer (some ⟨b, 0, none⟩), .agg #[.int .i64 2, .string (str nm), .int .i64 n, cv, .slice A ks.length c]] w (PutPost B b (ts ++ toksOf 2 nm n cs (ks.map toksX)) w) := by
  obtain ⟨q, hq⟩ : ∃ q : Bool, q = decide (n = 1) := ⟨_, rfl⟩; have e : toksOf 2 nm n cs (ks.map toksX) = [(str (if q then trueT else falseT) : ByteArray).data.toList] := (by simp [toksOf, str_toList, hq]); have HE := Lib.hid e; have HN := Lib.hid (show SizeOk (ts ++ [(str (if q then trueT else falseT) : ByteArray).data.toList]) by rw [e] at hn; exact hn); have HL := Lib.hid (show (str (if q then trueT else falseT)).size ≤ maxLen by cases q <;> exact lit_ok (by decide))
  have hq' : (n == 1) = q := (by rw [hq]; by_cases h : n = 1 <;> simp [h])
  clear e hn; clear hq; have HT := Lib.hid ht; have HB := Lib.hid hb; have HH := Lib.hid h; have hsz := hb.size; have hblt := ht.lt; obtain ⟨A2, n2, k2, rfl⟩ : ∃ A2 n2 k2, cv = .slice A2 n2 k2 := by obtain ⟨A2, k2, e, _⟩ := h.hcs; exact ⟨_, _, _, e⟩
  clear h ht hb; go_enter Tryz.func29, Tryz.ntmps29
  go_wp2_with (first
    | (go_at_call 51; refine (fmtBool_any q _).mono ?_; rintro e w1 ⟨rfl, rfl⟩)
    | (go_at_call 37; with_reducible refine (putN1 (str (if q then trueT else falseT)) (HT.out.alloc _) HN.out HL.out (by simp)).mono ?_
       rintro e w2 ⟨rfl, ht2, hk2⟩))
  all_goals go_end0
  all_goals exact ⟨rfl, by rw [HE.out]; exact ht2, ((TKept.refl B b w).alloc HT.out.2 _).trans hk2⟩
set_option maxHeartbeats 1000000 in
theorem exprT_no (h : NodeC B b w0 nm cs ks cv A c C) {op : Int} (h1 : op ≠ 1) (h2 : op ≠ 2) (h3 : op ≠ 3) (h4 : op ≠ 4) (h5 : op ≠ 5) (h6 : op ≠ 6) (h7 : op ≠ 7) (h8 : op ≠ 8) (h9 : op ≠ 9) (h10 : op ≠ 10) (h11 : op ≠ 11) (h12 : op ≠ 12) (h13 : op ≠ 13) (h14 : op ≠ 14) (h15 : op ≠ 15) {w : World} {ts : List Tx} (ht : TextW B b ts w) (hb : Below w0.heap.size w0 w) (hn : SizeOk (ts ++ toksOf op nm n cs (ks.map toksX))) :
    Calls Tryz.prog 29 #[.pointer (some ⟨b, 0, none⟩), .agg #[.int .i64 op, .string (str nm), .int .i64 n, cv, .slice A ks.length c]] w (PutPost B b (ts ++ toksOf op nm n cs (ks.map toksX)) w) := by
  have e : toksOf op nm n cs (ks.map toksX) = [(⟨#[63]⟩ : ByteArray).data.toList] := (by simp [toksOf, *]); have HE := Lib.hid e; have HN := Lib.hid (show SizeOk (ts ++ [(⟨#[63]⟩ : ByteArray).data.toList]) by rw [e] at hn; exact hn); clear e hn; have HT := Lib.hid ht; have HB := Lib.hid hb; have HH := Lib.hid h; have hsz := hb.size; have hblt := ht.lt; obtain ⟨A2, n2, k2, rfl⟩ : ∃ A2 n2 k2, cv = .slice A2 n2 k2 := by obtain ⟨A2, k2, e, _⟩ := h.hcs; exact ⟨_, _, _, e⟩
  clear h ht hb; go_enter Tryz.func29, Tryz.ntmps29
  go_wp2_with (go_at_call 37; (with_reducible refine (putN1 (⟨#[63]⟩) (HT.out.alloc _) HN.out (lit_ok (by decide)) (by simp)).mono ?_); rintro e w1 ⟨rfl, ht1, hk1⟩)
  go_end0
  exact ⟨rfl, by rw [HE.out]; exact ht1, ((TKept.refl B b w).alloc HT.out.2 _).trans hk1⟩
end
theorem exprT_any {B b : Nat} {w0 : World} (hB : w0.heap.size ≤ B) (htab : Tab w0) {L : List Value} {x : Ex} (h : ExAt w0 L x) : ExprC B b w0 L x := by
  induction h with
  | @mk op nm n cs ks cv A c C hop hnm hn hcs hl hc hk hx ih =>
    intro w ts ht hb hs; have HN : NodeC B b w0 nm cs ks cv A c C := ⟨hB, hnm, hcs, hl, hc, hk, hx, ih⟩; rw [toksX_mk] at hs ⊢; rcases op_cases op with rfl | rfl | rfl | rfl | rfl | rfl | rfl | rfl | rfl | rfl | rfl | rfl | rfl | rfl | rfl | ⟨h1, h2, h3, h4, h5, h6, h7, h8, h9, h10, h11, h12, h13, h14, h15⟩
    · exact exprT_1 HN hn htab ht hb hs
    · exact exprT_2 HN ht hb hs
    · exact exprT_3 HN ht hb hs
    · exact exprT_4 HN ht hb hs
    · exact exprT_5 HN ht hb hs
    · exact exprT_6 HN ht hb hs
    · exact exprT_7 HN ht hb hs
    · exact exprT_8 HN ht hb hs
    · exact exprT_9 HN ht hb hs
    · exact exprT_10 HN ht hb hs
    · exact exprT_11 HN ht hb hs
    · exact exprT_12 HN ht hb hs
    · exact exprT_13 HN ht hb hs
    · exact exprT_14 HN ht hb hs
    · exact exprT_15 HN ht hb hs
    · exact exprT_no HN h1 h2 h3 h4 h5 h6 h7 h8 h9 h10 h11 h12 h13 h14 h15 ht hb hs
end Go.Proofs.YtoajfnfhphoaeaaGreatDoor

namespace Go.Proofs.YtoajfnfhphoaeaaGreatDoor
open Go.RowKit
theorem eqT_many {q : QEq} (h : q.names.length ≠ 1) : eqT q = [40] :: (namesT [44] q.names ++ [41] :: [61] :: (toksX q.e ++ [[59]])) := by
  obtain ⟨names, e⟩ := q; match names, h with
  | [], _ => simp [eqT]
  | [x], h => exact absurd rfl h
  | x :: y :: r, _ => simp [eqT]
theorem eqT_one {x : Tx} {e : Ex} : eqT ⟨[x], e⟩ = x :: [61] :: (toksX e ++ [[59]]) := by simp [eqT]
set_option maxHeartbeats 2000000 in
theorem equationT_any {B b : Nat} {w0 : World} (hB : w0.heap.size ≤ B) (htab : Tab w0) {q : QEq} {L : List Value} (hL : EqAt w0 L q) {w : World} {ts : List Tx} (ht : TextW B b ts w) (hb : Below w0.heap.size w0 w) (hn : SizeOk (ts ++ eqT q)) :
    Calls Tryz.prog 74 #[.pointer (some ⟨b, 0, none⟩), .agg L.toArray] w (PutPost B b (ts ++ eqT q) w) := by
  obtain ⟨A0, n0, k0, o1, s2, o3, A4, n4, k4, A5, n5, k5, rfl⟩ := hL.shape; obtain ⟨nv, L', e, hS, hE⟩ := hL; injection e with e1 e2; subst e1 e2; have HS := Lib.hid hS; have HE := Lib.hid (exprT_any (b := b) hB htab hE); obtain ⟨A', c', e, hc0, hc1, _⟩ := hS; injection e with ea eb ec; subst ea eb ec; have hlm : q.names.length ≤ 9223372036854775807 := (by unfold maxLen at hc1; omega); clear hc0 hc1 hE; have HT := Lib.hid ht; have HB := Lib.hid hb; have HBB := Lib.hid hB; have hsz := hb.size; have hblt := ht.lt; have hble := ht.2; by_cases h1 : q.names.length = 1
  · obtain ⟨x, hx⟩ : ∃ x, q.names = [x] := List.length_eq_one_iff.1 h1; obtain ⟨qn, qe⟩ := q; subst hx; obtain ⟨a, ea, c0⟩ := (ToksAt.came (b := b) (B := B) HS.out HBB.out HB.out).cell (TKept.refl _ _ _) (k := 0) rfl; subst ea; rw [Nat.zero_mul, add_zero] at c0; have c1 : w.cell? (a.add 0) = some (.string (str x)) := (by rw [add_zero]; exact c0); have hab : a.block < w.heap.size := World.block_lt_of_cell? _ _ c0; change Calls _ _ #[_, .agg #[.slice (some a) 1 k0, .int .i64 o1, .string s2, .int .i64 o3, .slice A4 n4 k4, .slice A5 n5 k5]] _ _; have HT0 := Lib.hid (HT.out.alloc (.cells #[.slice (some a) 1 k0, .int .i64 o1, .string s2, .int .i64 o3, .slice A4 n4 k4, .slice A5 n5 k5] 76)); have HK0 := Lib.hid (TKept.refl B b (w.alloc (.cells #[.slice (some a) 1 k0, .int .i64 o1, .string s2, .int .i64 o3, .slice A4 n4 k4, .slice A5 n5 k5] 76))); have HBA := Lib.hid (HB.out.alloc hsz (.cells #[.slice (some a) 1 k0, .int .i64 o1, .string s2, .int .i64 o3, .slice A4 n4 k4, .slice A5 n5 k5] 76)); have e : eqT ⟨[x], qe⟩ = [(str x : ByteArray).data.toList] ++ [(⟨#[61]⟩ : ByteArray).data.toList] ++ toksX qe ++ [(⟨#[59]⟩ : ByteArray).data.toList] := (by rw [eqT_one]; simp [str_toList]); have HQ := Lib.hid e; have HN := Lib.hid (show SizeOk (ts ++ [(str x : ByteArray).data.toList] ++ [(⟨#[61]⟩ : ByteArray).data.toList] ++ toksX qe ++ [(⟨#[59]⟩ : ByteArray).data.toList]) by rw [e] at hn; simpa using hn); have HX := Lib.hid (show (str x).size ≤ maxLen by obtain ⟨_, _, _, _, _, h3⟩ := HS.out; obtain ⟨_, _, _, h⟩ := h3 0 x rfl; exact h); clear e hn ht hb hB h1 htab; go_enter Tryz.func74, Tryz.ntmps74
    go_wp2_with (first
      | (go_at_call 37; with_reducible refine (putN1 (str x) HT0.out HN.out.left.left.left HX.out (by simp)).mono ?_
         rintro e w1 ⟨rfl, ht1, hk1⟩; have HT1 := Lib.hid ht1; have HK1 := Lib.hid (HK0.out.trans hk1); clear ht1 hk1; have hbx1 := box_kept HK1.out (heap_alloc_new w _) (by omega) (by decide); obtain ⟨d0, d1, d2, d3, d4, d5⟩ := row6 hbx1; clear hbx1; skip)
      | (go_at_call 37; with_reducible refine (putN1 (⟨#[61]⟩) HT1.out HN.out.left.left (lit_ok (by decide)) rfl).mono ?_
         rintro e w2 ⟨rfl, ht2, hk2⟩; have HT2 := Lib.hid ht2; have HK2 := Lib.hid (HK1.out.trans hk2); clear ht2 hk2; have hbx2 := box_kept HK2.out (heap_alloc_new w _) (by omega) (by decide); obtain ⟨d0, d1, d2, d3, d4, d5⟩ := row6 hbx2; clear hbx2; skip)
      | (go_at_call 29; refine (HE.out _ _ HT2.out (HBA.out.trans (HK2.out.below.mono HBB.out)) HN.out.left).mono ?_; rintro e w3 ⟨rfl, ht3, hk3⟩; have HT3 := Lib.hid ht3; have HK3 := Lib.hid (HK2.out.trans hk3); clear ht3 hk3; have hbx3 := box_kept HK3.out (heap_alloc_new w _) (by omega) (by decide); obtain ⟨d0, d1, d2, d3, d4, d5⟩ := row6 hbx3; clear hbx3; skip)
      | (go_at_call 37; with_reducible refine (putN1 (⟨#[59]⟩) HT3.out HN.out (lit_ok (by decide)) rfl).mono ?_
         rintro e w4 ⟨rfl, ht4, hk4⟩; have HT4 := Lib.hid ht4; have HK4 := Lib.hid (HK3.out.trans hk4); clear ht4 hk4; have hbx4 := box_kept HK4.out (heap_alloc_new w _) (by omega) (by decide); obtain ⟨d0, d1, d2, d3, d4, d5⟩ := row6 hbx4; clear hbx4; skip))
    go_end0
    exact ⟨rfl, by rw [HQ.out]; simpa using HT4.out, ((TKept.refl B b w).alloc HT.out.2 _).trans HK4.out⟩
  · have HT0 := Lib.hid (HT.out.alloc (.cells #[.slice A0 q.names.length k0, .int .i64 o1, .string s2, .int .i64 o3, .slice A4 n4 k4, .slice A5 n5 k5] 76)); have HK0 := Lib.hid (TKept.refl B b (w.alloc (.cells #[.slice A0 q.names.length k0, .int .i64 o1, .string s2, .int .i64 o3, .slice A4 n4 k4, .slice A5 n5 k5] 76))); have HBA := Lib.hid (HB.out.alloc hsz (.cells #[.slice A0 q.names.length k0, .int .i64 o1, .string s2, .int .i64 o3, .slice A4 n4 k4, .slice A5 n5 k5] 76)); have e : eqT q = [(⟨#[40]⟩ : ByteArray).data.toList] ++ namesT [44] q.names ++ [(⟨#[41]⟩ : ByteArray).data.toList] ++ [(⟨#[61]⟩ : ByteArray).data.toList] ++ toksX q.e ++ [(⟨#[59]⟩ : ByteArray).data.toList] := (by rw [eqT_many h1]; simp); have HQ := Lib.hid e; have HN := Lib.hid (show SizeOk (ts ++ [(⟨#[40]⟩ : ByteArray).data.toList] ++ namesT [44] q.names ++ [(⟨#[41]⟩ : ByteArray).data.toList] ++ [(⟨#[61]⟩ : ByteArray).data.toList] ++ toksX q.e ++ [(⟨#[59]⟩ : ByteArray).data.toList]) by rw [e] at hn; simpa using hn); have hd : ((q.names.length : Int) == 1) = false := (by rw [beq_eq_false_iff_ne]; omega); have H1 := Lib.hid h1; clear e hn ht hb hB h1 htab; go_enter Tryz.func74, Tryz.ntmps74
    go_wp2_with (first
      | (go_at_call 37; with_reducible refine (putN1 (⟨#[40]⟩) HT0.out HN.out.left.left.left.left.left (lit_ok (by decide)) (by simp)).mono ?_
         rintro e w1 ⟨rfl, ht1, hk1⟩; have HT1 := Lib.hid ht1; have HK1 := Lib.hid (HK0.out.trans hk1); clear ht1 hk1; have hbx1 := box_kept HK1.out (heap_alloc_new w _) (by omega) (by decide); obtain ⟨d0, d1, d2, d3, d4, d5⟩ := row6 hbx1; clear hbx1; skip)
      | (go_at_call 38; refine (names_any (s := [44]) _ HT1.out (ToksAt.came (b := b) HS.out HBB.out (HBA.out.trans (HK1.out.below.mono HBB.out))) HN.out.left.left.left.left (lit_ok (x := str [44]) (by decide))).mono ?_; rintro e w2 ⟨rfl, ht2, hk2⟩; have HT2 := Lib.hid ht2; have HK2 := Lib.hid (HK1.out.trans hk2); clear ht2 hk2; have hbx2 := box_kept HK2.out (heap_alloc_new w _) (by omega) (by decide); obtain ⟨d0, d1, d2, d3, d4, d5⟩ := row6 hbx2; clear hbx2; skip)
      | (go_at_call 37; with_reducible refine (putN1 (⟨#[41]⟩) HT2.out HN.out.left.left.left (lit_ok (by decide)) rfl).mono ?_
         rintro e w3 ⟨rfl, ht3, hk3⟩; have HT3 := Lib.hid ht3; have HK3 := Lib.hid (HK2.out.trans hk3); clear ht3 hk3; have hbx3 := box_kept HK3.out (heap_alloc_new w _) (by omega) (by decide); obtain ⟨d0, d1, d2, d3, d4, d5⟩ := row6 hbx3; clear hbx3; skip)
      | (go_at_call 37; with_reducible refine (putN1 (⟨#[61]⟩) HT3.out HN.out.left.left (lit_ok (by decide)) rfl).mono ?_
         rintro e w4 ⟨rfl, ht4, hk4⟩; have HT4 := Lib.hid ht4; have HK4 := Lib.hid (HK3.out.trans hk4); clear ht4 hk4; have hbx4 := box_kept HK4.out (heap_alloc_new w _) (by omega) (by decide); obtain ⟨d0, d1, d2, d3, d4, d5⟩ := row6 hbx4; clear hbx4; skip)
      | (go_at_call 29; refine (HE.out _ _ HT4.out (HBA.out.trans (HK4.out.below.mono HBB.out)) HN.out.left).mono ?_; rintro e w5 ⟨rfl, ht5, hk5⟩; have HT5 := Lib.hid ht5; have HK5 := Lib.hid (HK4.out.trans hk5); clear ht5 hk5; have hbx5 := box_kept HK5.out (heap_alloc_new w _) (by omega) (by decide); obtain ⟨d0, d1, d2, d3, d4, d5⟩ := row6 hbx5; clear hbx5; skip)
      | (go_at_call 37; with_reducible refine (putN1 (⟨#[59]⟩) HT5.out HN.out (lit_ok (by decide)) rfl).mono ?_
         rintro e w6 ⟨rfl, ht6, hk6⟩; have HT6 := Lib.hid ht6; have HK6 := Lib.hid (HK5.out.trans hk6); clear ht6 hk6; have hbx6 := box_kept HK6.out (heap_alloc_new w _) (by omega) (by decide); obtain ⟨d0, d1, d2, d3, d4, d5⟩ := row6 hbx6; clear hbx6; skip))
    go_end0
    exact ⟨rfl, by rw [HQ.out]; simpa using HT6.out, ((TKept.refl B b w).alloc HT.out.2 _).trans HK6.out⟩
end Go.Proofs.YtoajfnfhphoaeaaGreatDoor

namespace Go.Proofs.YtoajfnfhphoaeaaGreatDoor
open Go.RowKit
def PutC (f : FuncId) (B b : Nat) (w0 : World) (a : Value) (T : List Tx) : Prop := ∀ (w : World) (ts : List Tx), TextW B b ts w → Below w0.heap.size w0 w → SizeOk (ts ++ T) →
  Calls Tryz.prog f #[.pointer (some ⟨b, 0, none⟩), a] w (PutPost B b (ts ++ T) w)
theorem equation_pc {B b : Nat} {w0 : World} (hB : w0.heap.size ≤ B) (htab : Tab w0) {q : QEq} {L : List Value} (hL : EqAt w0 L q) : PutC 74 B b w0 (.agg L.toArray) (eqT q) :=
  fun _ _ ht hb hn => equationT_any hB htab hL ht hb hn
theorem expr_pc {B b : Nat} {w0 : World} (hB : w0.heap.size ≤ B) (htab : Tab w0) {x : Ex} {L : List Value} (hL : ExAt w0 L x) : PutC 29 B b w0 (.agg L.toArray) (toksX x) :=
  fun w ts ht hb hn => exprT_any hB htab hL w ts ht hb hn
theorem flat_succ {X : Type} (f : X → List Tx) {l : List X} {k : Nat} {x : X} (h : l[k]? = some x) : (l.take (k + 1)).flatMap f = (l.take k).flatMap f ++ f x := by
  rw [take_snoc h]; simp
theorem flat_left {X : Type} {f : X → List Tx} {a : List Tx} {l : List X} (h : SizeOk (a ++ l.flatMap f)) (k : Nat) : SizeOk (a ++ (l.take k).flatMap f) := by
  have e : l.flatMap f = (l.take k).flatMap f ++ (l.drop k).flatMap f := (by rw [← List.flatMap_append, List.take_append_drop]); rw [e, ← List.append_assoc] at h; exact h.left
theorem WayAt.parts {w : World} {L : List Value} {y : QWay} (h : WayAt w L y) : ∃ c0 c1 c2 c3 c4, L = [c0, c1, c2, c3, c4, .string (str y.to)] ∧ ExAt w [c0, c1, c2, c3, c4] y.cond ∧ y.to.length ≤ maxLen := by
  obtain ⟨L', rfl, h1, h2⟩ := h; obtain ⟨c0, c1, c2, c3, c4, rfl⟩ := h1.five; exact ⟨c0, c1, c2, c3, c4, rfl, h1, h2⟩
set_option maxHeartbeats 2000000 in
theorem state_pc {B b : Nat} {w0 : World} (hB : w0.heap.size ≤ B) (htab : Tab w0) {s : QState} {L : List Value} (hL : StateAt w0 L s) : PutC 75 B b w0 (.agg L.toArray) (stateT s) := by
  intro w ts ht hb hn; have HT := Lib.hid ht; have HB := Lib.hid hb; have HBB := Lib.hid hB; have HTB := Lib.hid htab; have hsz := hb.size; have hblt := ht.lt; have hble := ht.2; obtain ⟨ev, wv, rfl, hnm, h1, h2⟩ := hL; obtain ⟨A1, k1, e1, hc0, hc1, hea⟩ := h1; subst e1; have hlm1 : s.eqs.length ≤ 9223372036854775807 := (by unfold maxLen at hc1; omega); have HEA1 := Lib.hid hea; clear hc0 hc1 hea; obtain ⟨A2, k2, e2, hc0, hc1, hea⟩ := h2; subst e2; have hlm2 : s.ways.length ≤ 9223372036854775807 := (by unfold maxLen at hc1; omega); have HEA2 := Lib.hid hea; clear hc0 hc1 hea; have HNM := Lib.hid (show (str s.name).size ≤ maxLen from hnm); have e : stateT s = [(⟨#[115, 116, 97, 116, 101]⟩ : ByteArray).data.toList, (str s.name : ByteArray).data.toList, (⟨#[58]⟩ : ByteArray).data.toList] ++ s.eqs.flatMap eqT ++ s.ways.flatMap wayT := (by simp [stateT, str_toList]); have HQ := Lib.hid e; rw [e] at hn; have HZ2 := Lib.hid (show SizeOk (ts ++ [(⟨#[115, 116, 97, 116, 101]⟩ : ByteArray).data.toList, (str s.name : ByteArray).data.toList, (⟨#[58]⟩ : ByteArray).data.toList] ++ s.eqs.flatMap eqT ++ s.ways.flatMap wayT) by simpa using hn); have HZ1 := Lib.hid (show SizeOk (ts ++ [(⟨#[115, 116, 97, 116, 101]⟩ : ByteArray).data.toList, (str s.name : ByteArray).data.toList, (⟨#[58]⟩ : ByteArray).data.toList] ++ s.eqs.flatMap eqT) by have := HZ2.out.left; simpa using this); have HN := Lib.hid HZ1.out.left; clear e hn ht hb hB htab hnm; have HT0 := Lib.hid (HT.out.alloc (.cells #[.string (str s.name), .slice A1 s.eqs.length k1, .slice A2 s.ways.length k2] 112)); have HK0 := Lib.hid (TKept.refl B b (w.alloc (.cells #[.string (str s.name), .slice A1 s.eqs.length k1, .slice A2 s.ways.length k2] 112))); have HBA := Lib.hid (HB.out.alloc hsz (.cells #[.string (str s.name), .slice A1 s.eqs.length k1, .slice A2 s.ways.length k2] 112)); go_enter Tryz.func75, Tryz.ntmps75
  go_wp2_with (first
    | (go_at_call 37; with_reducible refine (putN3 (⟨#[115, 116, 97, 116, 101]⟩) (str s.name) (⟨#[58]⟩) HT0.out HN.out (lit_ok (by decide)) HNM.out (lit_ok (by decide)) (by simp)).mono ?_
       rintro e w1 ⟨rfl, ht, hk⟩; have HT1 := Lib.hid ht; have HK1 := Lib.hid (HK0.out.trans hk); clear ht hk; have hbx := box_kept HK1.out (heap_alloc_new w _) (by omega) (by decide); obtain ⟨d0, d1, d2⟩ := row3 hbx; clear hbx; skip))
  go_loopg [16] s.eqs.length (fun g v wr => ∃ k : Nat, k + g = s.eqs.length ∧ v = .int .i64 k ∧ TextW B b (ts ++ [(⟨#[115, 116, 97, 116, 101]⟩ : ByteArray).data.toList, (str s.name : ByteArray).data.toList, (⟨#[58]⟩ : ByteArray).data.toList] ++ (s.eqs.take k).flatMap eqT) wr ∧ TKept B b (w.alloc (.cells #[.string (str s.name), .slice A1 s.eqs.length k1, .slice A2 s.ways.length k2] 112)) wr)
  case atStart => exact ⟨0, by omega, rfl, by simpa using HT1.out, HK1.out⟩
  case round =>
    obtain ⟨k, hkg, rfl, hto, hkw⟩ := hrel; obtain ⟨wq16, rfl⟩ : ∃ W, W = wr := ⟨_, rfl⟩; have HKG := Lib.hid hkg; have HW := Lib.hid hkw; have HTO := Lib.hid hto; have hkl : k ≤ s.eqs.length := (by omega); have hblr := hto.lt; have HBR := Lib.hid (HBA.out.trans (hkw.below.mono HBB.out)); have hszr := HBR.out.size; clear hkg hto hkw; by_cases hlt : k < s.eqs.length
    · obtain ⟨x, hx⟩ : ∃ x, s.eqs[k]? = some x := ⟨_, List.getElem?_eq_getElem hlt⟩; obtain ⟨M, hEM, hRM⟩ := HEA1.out k x hx; have HI := Lib.hid (equation_pc (b := b) HBB.out HTB.out hRM); obtain ⟨A0, n0, k0, o1, s2, o3, A4, n4, k4, A5, n5, k5, rfl⟩ := hRM.shape; obtain ⟨a, rfl, hab, haa, xq0, xq1, xq2, xq3, xq4, xq5⟩ := elem6 (hEM.under HBR.out); have HN1 := Lib.hid (show SizeOk (ts ++ [(⟨#[115, 116, 97, 116, 101]⟩ : ByteArray).data.toList, (str s.name : ByteArray).data.toList, (⟨#[58]⟩ : ByteArray).data.toList] ++ (s.eqs.take k).flatMap eqT ++ eqT x) by have := flat_left HZ1.out (k + 1); rw [flat_succ eqT hx] at this; simpa [] using this); have HQ1 := Lib.hid (show ts ++ [(⟨#[115, 116, 97, 116, 101]⟩ : ByteArray).data.toList, (str s.name : ByteArray).data.toList, (⟨#[58]⟩ : ByteArray).data.toList] ++ (s.eqs.take (k + 1)).flatMap eqT = ts ++ [(⟨#[115, 116, 97, 116, 101]⟩ : ByteArray).data.toList, (str s.name : ByteArray).data.toList, (⟨#[58]⟩ : ByteArray).data.toList] ++ (s.eqs.take k).flatMap eqT ++ eqT x by rw [flat_succ eqT hx]; simp []); have HTr160 := Lib.hid (HTO.out.alloc (.cells #[.slice A0 n0 k0, .int .i64 o1, .string s2, .int .i64 o3, .slice A4 n4 k4, .slice A5 n5 k5] 76)); have HKr160 := Lib.hid (TKept.refl B b (wq16.alloc (.cells #[.slice A0 n0 k0, .int .i64 o1, .string s2, .int .i64 o3, .slice A4 n4 k4, .slice A5 n5 k5] 76))); have HBAr16 := Lib.hid (HBR.out.alloc hszr (.cells #[.slice A0 n0 k0, .int .i64 o1, .string s2, .int .i64 o3, .slice A4 n4 k4, .slice A5 n5 k5] 76)); clear hx hEM hRM
      go_wp2_with (first
        | (go_at_call 74; refine (HI.out _ _ HTr160.out (HBAr16.out.trans (HKr160.out.below.mono HBB.out)) HN1.out).mono ?_; rintro e wr161 ⟨rfl, ht, hk⟩; have HTr161 := Lib.hid ht; have HKr161 := Lib.hid (HKr160.out.trans hk); clear ht hk; have hbx := box_kept HKr161.out (heap_alloc_new wq16 _) (by omega) (by decide); obtain ⟨r16d0, r16d1, r16d2, r16d3, r16d4, r16d5⟩ := row6 hbx; clear hbx; skip))
      go_roundg (s.eqs.length - (k + 1))
      case measure => have := HKG.out; omega
      case rel => exact ⟨k + 1, by omega, by go_num, by rw [HQ1.out]; exact HTr161.out, (HW.out.alloc HT0.out.2 _).trans HKr161.out⟩
    · have hke : k = s.eqs.length := by omega
      have HT2 := Lib.hid (show TextW B b (ts ++ [(⟨#[115, 116, 97, 116, 101]⟩ : ByteArray).data.toList, (str s.name : ByteArray).data.toList, (⟨#[58]⟩ : ByteArray).data.toList] ++ s.eqs.flatMap eqT) wq16 by have := HTO.out; rwa [hke, List.take_length] at this); have HK2 := Lib.hid HW.out; have HKE := Lib.hid hke; clear hke HTO HW HKG; have hbx := box_kept HK2.out (heap_alloc_new w _) (by omega) (by decide); obtain ⟨d0, d1, d2⟩ := row3 hbx; clear hbx; go_wp2_with fail
      go_loopg [27] s.ways.length (fun g v wr => ∃ k : Nat, k + g = s.ways.length ∧ v = .int .i64 k ∧ TextW B b (ts ++ [(⟨#[115, 116, 97, 116, 101]⟩ : ByteArray).data.toList, (str s.name : ByteArray).data.toList, (⟨#[58]⟩ : ByteArray).data.toList] ++ s.eqs.flatMap eqT ++ (s.ways.take k).flatMap wayT) wr ∧ TKept B b (w.alloc (.cells #[.string (str s.name), .slice A1 s.eqs.length k1, .slice A2 s.ways.length k2] 112)) wr)
      case atStart => exact ⟨0, by omega, rfl, by simpa using HT2.out, HK2.out⟩
      case round =>
        obtain ⟨k, hkg, rfl, hto, hkw⟩ := hrel; obtain ⟨wq27, rfl⟩ : ∃ W, W = wr := ⟨_, rfl⟩; have HKG := Lib.hid hkg; have HW := Lib.hid hkw; have HTO := Lib.hid hto; have hkl : k ≤ s.ways.length := (by omega); have hblr := hto.lt; have HBR := Lib.hid (HBA.out.trans (hkw.below.mono HBB.out)); have hszr := HBR.out.size; clear hkg hto hkw; by_cases hlt : k < s.ways.length
        · obtain ⟨x, hx⟩ : ∃ x, s.ways[k]? = some x := ⟨_, List.getElem?_eq_getElem hlt⟩; obtain ⟨M, hEM, hRM⟩ := HEA2.out k x hx; obtain ⟨c0, c1, c2, c3, c4, rfl, hE, hto⟩ := hRM.parts; have HI := Lib.hid (expr_pc (b := b) HBB.out HTB.out hE); have HTOO := Lib.hid (show (str x.to).size ≤ maxLen from hto); obtain ⟨o1, s1, m1, B3, q3, r3, B4, q4, r4, e⟩ := hE.shape; injection e with e0 e; injection e with e1 e; injection e with e2 e; injection e with e3 e; injection e with e4 _; subst e0 e1 e2 e3 e4; clear hE hto; obtain ⟨a, rfl, hab, haa, xq0, xq1, xq2, xq3, xq4, xq5⟩ := elem6 (hEM.under HBR.out); have HN1 := Lib.hid (show SizeOk (ts ++ [(⟨#[115, 116, 97, 116, 101]⟩ : ByteArray).data.toList, (str s.name : ByteArray).data.toList, (⟨#[58]⟩ : ByteArray).data.toList] ++ s.eqs.flatMap eqT ++ (s.ways.take k).flatMap wayT ++ [(⟨#[117, 110, 116, 105, 108]⟩ : ByteArray).data.toList] ++ toksX x.cond ++ [(⟨#[116, 104, 101, 110]⟩ : ByteArray).data.toList, (str x.to : ByteArray).data.toList, (⟨#[59]⟩ : ByteArray).data.toList]) by have := flat_left HZ2.out (k + 1); rw [flat_succ wayT hx] at this; simpa [wayT, str_toList] using this); have HQ1 := Lib.hid (show ts ++ [(⟨#[115, 116, 97, 116, 101]⟩ : ByteArray).data.toList, (str s.name : ByteArray).data.toList, (⟨#[58]⟩ : ByteArray).data.toList] ++ s.eqs.flatMap eqT ++ (s.ways.take (k + 1)).flatMap wayT = ts ++ [(⟨#[115, 116, 97, 116, 101]⟩ : ByteArray).data.toList, (str s.name : ByteArray).data.toList, (⟨#[58]⟩ : ByteArray).data.toList] ++ s.eqs.flatMap eqT ++ (s.ways.take k).flatMap wayT ++ [(⟨#[117, 110, 116, 105, 108]⟩ : ByteArray).data.toList] ++ toksX x.cond ++ [(⟨#[116, 104, 101, 110]⟩ : ByteArray).data.toList, (str x.to : ByteArray).data.toList, (⟨#[59]⟩ : ByteArray).data.toList] by rw [flat_succ wayT hx]; simp [wayT, str_toList]); have HTr270 := Lib.hid (HTO.out.alloc (.cells #[.int .i64 o1, .string s1, .int .i64 m1, .slice B3 q3 r3, .slice B4 q4 r4, .string (str x.to)] 114)); have HKr270 := Lib.hid (TKept.refl B b (wq27.alloc (.cells #[.int .i64 o1, .string s1, .int .i64 m1, .slice B3 q3 r3, .slice B4 q4 r4, .string (str x.to)] 114))); have HBAr27 := Lib.hid (HBR.out.alloc hszr (.cells #[.int .i64 o1, .string s1, .int .i64 m1, .slice B3 q3 r3, .slice B4 q4 r4, .string (str x.to)] 114)); clear hx hEM hRM
          go_wp2_with (first
            | (go_at_call 37; with_reducible refine (putN1 (⟨#[117, 110, 116, 105, 108]⟩) HTr270.out HN1.out.left.left (lit_ok (by decide)) (by simp)).mono ?_
               rintro e wr271 ⟨rfl, ht, hk⟩; have HTr271 := Lib.hid ht; have HKr271 := Lib.hid (HKr270.out.trans hk); clear ht hk; have hbx := box_kept HKr271.out (heap_alloc_new wq27 _) (by omega) (by decide); obtain ⟨r27d0, r27d1, r27d2, r27d3, r27d4, r27d5⟩ := row6 hbx; clear hbx; skip)
            | (go_at_call 29; refine (HI.out _ _ HTr271.out (HBAr27.out.trans (HKr271.out.below.mono HBB.out)) HN1.out.left).mono ?_; rintro e wr272 ⟨rfl, ht, hk⟩; have HTr272 := Lib.hid ht; have HKr272 := Lib.hid (HKr271.out.trans hk); clear ht hk; have hbx := box_kept HKr272.out (heap_alloc_new wq27 _) (by omega) (by decide); obtain ⟨r27d0, r27d1, r27d2, r27d3, r27d4, r27d5⟩ := row6 hbx; clear hbx; skip)
            | (go_at_call 37; with_reducible refine (putN3 (⟨#[116, 104, 101, 110]⟩) (str x.to) (⟨#[59]⟩) HTr272.out HN1.out (lit_ok (by decide)) HTOO.out (lit_ok (by decide)) rfl).mono ?_
               rintro e wr273 ⟨rfl, ht, hk⟩; have HTr273 := Lib.hid ht; have HKr273 := Lib.hid (HKr272.out.trans hk); clear ht hk; have hbx := box_kept HKr273.out (heap_alloc_new wq27 _) (by omega) (by decide); obtain ⟨r27d0, r27d1, r27d2, r27d3, r27d4, r27d5⟩ := row6 hbx; clear hbx; skip))
          go_roundg (s.ways.length - (k + 1))
          case measure => have := HKG.out; omega
          case rel => exact ⟨k + 1, by omega, by go_num, by rw [HQ1.out]; exact HTr273.out, (HW.out.alloc HT0.out.2 _).trans HKr273.out⟩
        · have hke : k = s.ways.length := by omega
          have HT3 := Lib.hid (show TextW B b (ts ++ [(⟨#[115, 116, 97, 116, 101]⟩ : ByteArray).data.toList, (str s.name : ByteArray).data.toList, (⟨#[58]⟩ : ByteArray).data.toList] ++ s.eqs.flatMap eqT ++ s.ways.flatMap wayT) wq27 by have := HTO.out; rwa [hke, List.take_length] at this); have HK3 := Lib.hid HW.out; have HKE := Lib.hid hke; clear hke HTO HW HKG; have hbx := box_kept HK3.out (heap_alloc_new w _) (by omega) (by decide); obtain ⟨d0, d1, d2⟩ := row3 hbx; clear hbx; go_wp2_with fail
          go_end0
          exact ⟨rfl, by rw [HQ.out]; simpa using HT3.out, ((TKept.refl B b w).alloc HT.out.2 _).trans HK3.out⟩
set_option maxHeartbeats 2000000 in
theorem item_pc {B b : Nat} {w0 : World} (hB : w0.heap.size ≤ B) (htab : Tab w0) {i : QItem} {L : List Value} (hL : ItemAt w0 L i) : PutC 40 B b w0 (.agg L.toArray) (itemT i) := by
  intro w ts ht hb hn; have HT := Lib.hid ht; have HB := Lib.hid hb; have HBB := Lib.hid hB; have HTB := Lib.hid htab; have hsz := hb.size; have hblt := ht.lt; have hble := ht.2; obtain ⟨L', sv, rfl, hE, h2⟩ := hL; have HE := Lib.hid (equation_pc (b := b) hB htab hE); obtain ⟨A0, n0, k0, o1, s2, o3, A4, n4, k4, A5, n5, k5, rfl⟩ := hE.shape; obtain ⟨A6, k6, e6, hc0, hc1, hea⟩ := h2; subst e6; have hlm6 : i.states.length ≤ 9223372036854775807 := (by unfold maxLen at hc1; omega); have HEA6 := Lib.hid hea; clear hc0 hc1 hea; have HT0 := Lib.hid (HT.out.alloc (.cells #[.slice A0 n0 k0, .int .i64 o1, .string s2, .int .i64 o3, .slice A4 n4 k4, .slice A5 n5 k5, .slice A6 i.states.length k6] 79)); have HK0 := Lib.hid (TKept.refl B b (w.alloc (.cells #[.slice A0 n0 k0, .int .i64 o1, .string s2, .int .i64 o3, .slice A4 n4 k4, .slice A5 n5 k5, .slice A6 i.states.length k6] 79))); have HBA := Lib.hid (HB.out.alloc hsz (.cells #[.slice A0 n0 k0, .int .i64 o1, .string s2, .int .i64 o3, .slice A4 n4 k4, .slice A5 n5 k5, .slice A6 i.states.length k6] 79)); by_cases h0 : i.states = []
  · have e : itemT i = eqT i.eq := by simp [itemT, h0]
    have HQ := Lib.hid e; rw [e] at hn; have HN := Lib.hid hn; rw [h0] at HT0 HK0 HBA ⊢; clear e hn ht hb hB htab hE hlm6 h0; change Calls _ _ #[_, .agg #[.slice A0 n0 k0, .int .i64 o1, .string s2, .int .i64 o3, .slice A4 n4 k4, .slice A5 n5 k5, .slice A6 0 k6]] _ _; go_enter Tryz.func40, Tryz.ntmps40
    go_wp2_with (first
      | (go_at_call 74; refine (HE.out _ _ HT0.out (HBA.out.trans (HK0.out.below.mono HBB.out)) HN.out).mono ?_; rintro e w1 ⟨rfl, ht, hk⟩; have HT1 := Lib.hid ht; have HK1 := Lib.hid (HK0.out.trans hk); clear ht hk; have hbx := box_kept HK1.out (heap_alloc_new w _) (by omega) (by decide); obtain ⟨d0, d1, d2, d3, d4, d5, d6⟩ := row7 hbx; clear hbx; skip))
    all_goals go_end0
    all_goals exact ⟨rfl, by rw [HQ.out]; simpa using HT1.out, ((TKept.refl B b w).alloc HT.out.2 _).trans HK1.out⟩
  · have e : itemT i = [(⟨#[97, 117, 116, 111, 109, 97, 116, 111, 110]⟩ : ByteArray).data.toList] ++ i.states.flatMap stateT ++ [(⟨#[101, 110, 100]⟩ : ByteArray).data.toList, (⟨#[59]⟩ : ByteArray).data.toList] := by simp [itemT, h0]
    have HQ := Lib.hid e; rw [e] at hn; have HN2 := Lib.hid (show SizeOk (ts ++ [(⟨#[97, 117, 116, 111, 109, 97, 116, 111, 110]⟩ : ByteArray).data.toList] ++ i.states.flatMap stateT ++ [(⟨#[101, 110, 100]⟩ : ByteArray).data.toList, (⟨#[59]⟩ : ByteArray).data.toList]) by simpa using hn); have HZ1 := Lib.hid HN2.out.left; have HN := Lib.hid HZ1.out.left; have hne : ((i.states.length : Int) == 0) = false := (by rw [beq_eq_false_iff_ne]; have := List.length_pos_iff.2 h0; omega); clear e hn ht hb hB htab hE h0; go_enter Tryz.func40, Tryz.ntmps40
    go_wp2_with (first
      | (go_at_call 37; with_reducible refine (putN1 (⟨#[97, 117, 116, 111, 109, 97, 116, 111, 110]⟩) HT0.out HN.out (lit_ok (by decide)) (by simp)).mono ?_
         rintro e w1 ⟨rfl, ht, hk⟩; have HT1 := Lib.hid ht; have HK1 := Lib.hid (HK0.out.trans hk); clear ht hk; have hbx := box_kept HK1.out (heap_alloc_new w _) (by omega) (by decide); obtain ⟨d0, d1, d2, d3, d4, d5, d6⟩ := row7 hbx; clear hbx; skip))
    go_loopg [20] i.states.length (fun g v wr => ∃ k : Nat, k + g = i.states.length ∧ v = .int .i64 k ∧ TextW B b (ts ++ [(⟨#[97, 117, 116, 111, 109, 97, 116, 111, 110]⟩ : ByteArray).data.toList] ++ (i.states.take k).flatMap stateT) wr ∧ TKept B b (w.alloc (.cells #[.slice A0 n0 k0, .int .i64 o1, .string s2, .int .i64 o3, .slice A4 n4 k4, .slice A5 n5 k5, .slice A6 i.states.length k6] 79)) wr)
    case atStart => exact ⟨0, by omega, rfl, by simpa using HT1.out, HK1.out⟩
    case round =>
      obtain ⟨k, hkg, rfl, hto, hkw⟩ := hrel; obtain ⟨wq20, rfl⟩ : ∃ W, W = wr := ⟨_, rfl⟩; have HKG := Lib.hid hkg; have HW := Lib.hid hkw; have HTO := Lib.hid hto; have hkl : k ≤ i.states.length := (by omega); have hblr := hto.lt; have HBR := Lib.hid (HBA.out.trans (hkw.below.mono HBB.out)); have hszr := HBR.out.size; clear hkg hto hkw; by_cases hlt : k < i.states.length
      · obtain ⟨x, hx⟩ : ∃ x, i.states[k]? = some x := ⟨_, List.getElem?_eq_getElem hlt⟩; obtain ⟨M, hEM, hRM⟩ := HEA6.out k x hx; have HI := Lib.hid (state_pc (b := b) HBB.out HTB.out hRM); obtain ⟨t0, B1, m1, j1, B2, m2, j2, rfl⟩ := hRM.shape; obtain ⟨a, rfl, hab, haa, xq0, xq1, xq2⟩ := elem3 (hEM.under HBR.out); have HN1 := Lib.hid (show SizeOk (ts ++ [(⟨#[97, 117, 116, 111, 109, 97, 116, 111, 110]⟩ : ByteArray).data.toList] ++ (i.states.take k).flatMap stateT ++ stateT x) by have := flat_left HZ1.out (k + 1); rw [flat_succ stateT hx] at this; simpa [] using this); have HQ1 := Lib.hid (show ts ++ [(⟨#[97, 117, 116, 111, 109, 97, 116, 111, 110]⟩ : ByteArray).data.toList] ++ (i.states.take (k + 1)).flatMap stateT = ts ++ [(⟨#[97, 117, 116, 111, 109, 97, 116, 111, 110]⟩ : ByteArray).data.toList] ++ (i.states.take k).flatMap stateT ++ stateT x by rw [flat_succ stateT hx]; simp []); have HTr200 := Lib.hid (HTO.out.alloc (.cells #[.string t0, .slice B1 m1 j1, .slice B2 m2 j2] 112)); have HKr200 := Lib.hid (TKept.refl B b (wq20.alloc (.cells #[.string t0, .slice B1 m1 j1, .slice B2 m2 j2] 112))); have HBAr20 := Lib.hid (HBR.out.alloc hszr (.cells #[.string t0, .slice B1 m1 j1, .slice B2 m2 j2] 112)); clear hx hEM hRM
        go_wp2_with (first
          | (go_at_call 75; refine (HI.out _ _ HTr200.out (HBAr20.out.trans (HKr200.out.below.mono HBB.out)) HN1.out).mono ?_; rintro e wr201 ⟨rfl, ht, hk⟩; have HTr201 := Lib.hid ht; have HKr201 := Lib.hid (HKr200.out.trans hk); clear ht hk; have hbx := box_kept HKr201.out (heap_alloc_new wq20 _) (by omega) (by decide); obtain ⟨r20d0, r20d1, r20d2⟩ := row3 hbx; clear hbx; skip))
        go_roundg (i.states.length - (k + 1))
        case measure => have := HKG.out; omega
        case rel => exact ⟨k + 1, by omega, by go_num, by rw [HQ1.out]; exact HTr201.out, (HW.out.alloc HT0.out.2 _).trans HKr201.out⟩
      · have hke : k = i.states.length := by omega
        have HT2 := Lib.hid (show TextW B b (ts ++ [(⟨#[97, 117, 116, 111, 109, 97, 116, 111, 110]⟩ : ByteArray).data.toList] ++ i.states.flatMap stateT) wq20 by have := HTO.out; rwa [hke, List.take_length] at this); have HK2 := Lib.hid HW.out; have HKE := Lib.hid hke; clear hke HTO HW HKG; have hbx := box_kept HK2.out (heap_alloc_new w _) (by omega) (by decide); obtain ⟨d0, d1, d2, d3, d4, d5, d6⟩ := row7 hbx; clear hbx
        go_wp2_with (first
          | (go_at_call 37; with_reducible refine (putN2 (⟨#[101, 110, 100]⟩) (⟨#[59]⟩) HT2.out HN2.out (lit_ok (by decide)) (lit_ok (by decide)) rfl).mono ?_
             rintro e w3 ⟨rfl, ht, hk⟩; have HT3 := Lib.hid ht; have HK3 := Lib.hid (HK2.out.trans hk); clear ht hk; have hbx := box_kept HK3.out (heap_alloc_new w _) (by omega) (by decide); obtain ⟨d0, d1, d2, d3, d4, d5, d6⟩ := row7 hbx; clear hbx; skip))
        go_end0
        exact ⟨rfl, by rw [HQ.out]; simpa using HT3.out, ((TKept.refl B b w).alloc HT.out.2 _).trans HK3.out⟩
end Go.Proofs.YtoajfnfhphoaeaaGreatDoor
