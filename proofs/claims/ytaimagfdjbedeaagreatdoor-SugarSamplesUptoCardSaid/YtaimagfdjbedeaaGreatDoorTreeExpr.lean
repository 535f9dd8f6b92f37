/-
  expr, for every expression; written by wip/tools/gen-tree-expr.py.
-/
import Derived.Test.YtaimagfdjbedeaaGreatDoorTreeCall
import Derived.Lib.ItoaLen
import Derived.Lib.LaidTab
import Derived.Lib.QuietBelow
import Derived.Lib.BufferKept
import Derived.Lib.AppendIntMem
import Derived.Shelf.Small.Wraps
import Derived.Shelf.Strconv.Itoa4
namespace Go.Proofs.YtaimagfdjbedeaaGreatDoor
open Go.RowKit

/-- the table of powers of ten stands as it was laid -/
def Tab (w : World) : Prop := Lib.TabIs Tryz.prog w "internal/strconv.uint64pow10" .u64 Lib.pow10Tab
theorem Tab.under {w w' : World} (h : Tab w) (hb : Below w.heap.size w w') : Tab w' := by
  unfold Tab Lib.TabIs World.var? at h ⊢
  cases hg : Tryz.prog.globalNamed "internal/strconv.uint64pow10" with
  | none => rw [hg] at h; cases h
  | some g =>
    rw [hg] at h
    simp only [Option.bind_some] at h ⊢
    have hlt : g < w.heap.size := by
      rcases Nat.lt_or_ge g w.heap.size with h' | h'
      · exact h'
      · rw [Array.getElem?_eq_none h'] at h; cases h
    rw [hb.block g hlt]
    exact h
theorem fmtInt_any (n : Int) (h : i64B n) (w : World) (ht : Tab w) : Calls Tryz.prog 47 #[.int .i64 n, .int .i64 10] w fun e w' => e = .returned (.string (str (Lib.itoa n))) ∧ Below w.heap.size w w' :=
  (Any.strconv_FormatInt_10 Tryz.laysM173 n h.1 h.2 w ht).mono fun _ _ ⟨h1, k, os, h2⟩ => ⟨h1, by rw [h2]; exact Lib.below_grow _ _ (Nat.le_refl _) _ _⟩
theorem fmtBool_any (b : Bool) (w : World) : Calls Tryz.prog 48 #[.bool b] w fun e w' => e = .returned (.string (str (if b then trueT else falseT))) ∧ w = w' :=
  (Any.strconv_FormatBool Tryz.lays121 b w).mono fun _ _ ⟨h1, h2⟩ => ⟨by rw [h1]; cases b <;> rfl, h2.symm⟩
theorem grown_of_below {w w' : World} (h : Below w.heap.size w w') (row : Option Nat) : w.grownBy w' row := ⟨h.os, h.tape, h.output, h.size, fun k hk _ => h.block k hk⟩
theorem TextAt.under {B b : Nat} {p : Value} {bs : List Value} {g : Bool} {w w' : World} (h : TextAt B b p bs g w) (hb : Below w.heap.size w w') : TextAt B b p bs g w' := by
  have hlt := h.lt
  obtain ⟨hB, v, hbk, hown, hne⟩ := h
  exact ⟨hB, v, (hb.block b hlt).trans hbk, hown.kept (grown_of_below hb none) (by cases hv : v.ownBlock <;> simp), hne⟩
theorem TextW.under {B b : Nat} {ts : List Tx} {w w' : World} (h : TextW B b ts w) (hb : Below w.heap.size w w') : TextW B b ts w' :=
  ⟨h.1.elim (fun x => .inl (x.under hb)) (fun x => .inr (x.under hb)), Nat.le_trans h.2 hb.size⟩
theorem TKept.same {B b : Nat} {w w' : World} (hB : B ≤ w.heap.size) (hb : Below w.heap.size w w') : TKept B b w w' := ⟨hb.mono hB, (Lib.OthersKept.refl _ _ w).below hb⟩
theorem op_cases (op : Int) : op = 1 ∨ op = 2 ∨ op = 3 ∨ op = 4 ∨ op = 5 ∨ op = 6 ∨ op = 7 ∨ op = 8 ∨ op = 9 ∨ op = 10 ∨ op = 11 ∨ op = 12 ∨ op = 13 ∨ op = 14 ∨ op = 15 ∨ (op ≠ 1 ∧ op ≠ 2 ∧ op ≠ 3 ∧ op ≠ 4 ∧ op ≠ 5 ∧ op ≠ 6 ∧ op ≠ 7 ∧ op ≠ 8 ∧ op ≠ 9 ∧ op ≠ 10 ∧ op ≠ 11 ∧ op ≠ 12 ∧ op ≠ 13 ∧ op ≠ 14 ∧ op ≠ 15) := by omega
section
variable {B b : Nat} {w0 : World} {n : Int} {nm : Tx} {cs : List Tx} {ks : List Ex} {cv : Value} {A : Option Addr} {c : Nat} {C : Nat → List Value}
set_option maxHeartbeats 1000000 in
theorem exprT_5 (h : NodeC B b w0 nm cs ks cv A c C) {w : World} {ts : List Tx} (ht : TextW B b ts w) (hb : Below w0.heap.size w0 w) (hn : SizeOk (ts ++ toksOf 5 nm n cs (ks.map toksX))) :
    Calls Tryz.prog 22 #[.pointer (some ⟨b, 0, none⟩), .agg #[.int .i64 5, .string (str nm), .int .i64 n, cv, .slice A ks.length c]] w (PutPost B b (ts ++ toksOf 5 nm n cs (ks.map toksX)) w) := by
  have e : toksOf 5 nm n cs (ks.map toksX) = prefixT nm (ks.map toksX) := by simp [toksOf]
  have HE := Lib.hid e
  have HN := Lib.hid (show SizeOk (ts ++ prefixT nm (ks.map toksX)) by rw [e] at hn; exact hn)
  clear e hn
  have HT := Lib.hid ht
  have HB := Lib.hid hb
  have HH := Lib.hid h
  have hsz := hb.size
  have hblt := ht.lt
  obtain ⟨A2, n2, k2, rfl⟩ : ∃ A2 n2 k2, cv = .slice A2 n2 k2 := by obtain ⟨A2, k2, e, _⟩ := h.hcs; exact ⟨_, _, _, e⟩
  clear h ht hb
  go_enter Tryz.func22, Tryz.ntmps22
  go_wp2_with (go_at_call 49; refine (prefix_any HH.out HH.out.hnm (HT.out.alloc _) (HB.out.alloc (by omega) _) HN.out).mono ?_; rintro e w1 ⟨rfl, ht1, hk1⟩)
  go_end0
  exact ⟨rfl, by rw [HE.out]; exact ht1, ((TKept.refl B b w).alloc HT.out.2 _).trans hk1⟩
set_option maxHeartbeats 1000000 in
theorem exprT_6 (h : NodeC B b w0 nm cs ks cv A c C) {w : World} {ts : List Tx} (ht : TextW B b ts w) (hb : Below w0.heap.size w0 w) (hn : SizeOk (ts ++ toksOf 6 nm n cs (ks.map toksX))) :
    Calls Tryz.prog 22 #[.pointer (some ⟨b, 0, none⟩), .agg #[.int .i64 6, .string (str nm), .int .i64 n, cv, .slice A ks.length c]] w (PutPost B b (ts ++ toksOf 6 nm n cs (ks.map toksX)) w) := by
  have e : toksOf 6 nm n cs (ks.map toksX) = infixT nm (ks.map toksX) := by simp [toksOf]
  have HE := Lib.hid e
  have HN := Lib.hid (show SizeOk (ts ++ infixT nm (ks.map toksX)) by rw [e] at hn; exact hn)
  clear e hn
  have HT := Lib.hid ht
  have HB := Lib.hid hb
  have HH := Lib.hid h
  have hsz := hb.size
  have hblt := ht.lt
  obtain ⟨A2, n2, k2, rfl⟩ : ∃ A2 n2 k2, cv = .slice A2 n2 k2 := by obtain ⟨A2, k2, e, _⟩ := h.hcs; exact ⟨_, _, _, e⟩
  clear h ht hb
  go_enter Tryz.func22, Tryz.ntmps22
  go_wp2_with (go_at_call 50; refine (infix_any HH.out HH.out.hnm (HT.out.alloc _) (HB.out.alloc (by omega) _) HN.out).mono ?_; rintro e w1 ⟨rfl, ht1, hk1⟩)
  go_end0
  exact ⟨rfl, by rw [HE.out]; exact ht1, ((TKept.refl B b w).alloc HT.out.2 _).trans hk1⟩
set_option maxHeartbeats 1000000 in
theorem exprT_7 (h : NodeC B b w0 nm cs ks cv A c C) {w : World} {ts : List Tx} (ht : TextW B b ts w) (hb : Below w0.heap.size w0 w) (hn : SizeOk (ts ++ toksOf 7 nm n cs (ks.map toksX))) :
    Calls Tryz.prog 22 #[.pointer (some ⟨b, 0, none⟩), .agg #[.int .i64 7, .string (str nm), .int .i64 n, cv, .slice A ks.length c]] w (PutPost B b (ts ++ toksOf 7 nm n cs (ks.map toksX)) w) := by
  have e : toksOf 7 nm n cs (ks.map toksX) = choiceT (ks.map toksX) := by simp [toksOf]
  have HE := Lib.hid e
  have HN := Lib.hid (show SizeOk (ts ++ choiceT (ks.map toksX)) by rw [e] at hn; exact hn)
  clear e hn
  have HT := Lib.hid ht
  have HB := Lib.hid hb
  have HH := Lib.hid h
  have hsz := hb.size
  have hblt := ht.lt
  obtain ⟨A2, n2, k2, rfl⟩ : ∃ A2 n2 k2, cv = .slice A2 n2 k2 := by obtain ⟨A2, k2, e, _⟩ := h.hcs; exact ⟨_, _, _, e⟩
  clear h ht hb
  go_enter Tryz.func22, Tryz.ntmps22
  go_wp2_with (go_at_call 51; refine (choice_any HH.out (HT.out.alloc _) (HB.out.alloc (by omega) _) HN.out).mono ?_; rintro e w1 ⟨rfl, ht1, hk1⟩)
  go_end0
  exact ⟨rfl, by rw [HE.out]; exact ht1, ((TKept.refl B b w).alloc HT.out.2 _).trans hk1⟩
set_option maxHeartbeats 1000000 in
theorem exprT_8 (h : NodeC B b w0 nm cs ks cv A c C) {w : World} {ts : List Tx} (ht : TextW B b ts w) (hb : Below w0.heap.size w0 w) (hn : SizeOk (ts ++ toksOf 8 nm n cs (ks.map toksX))) :
    Calls Tryz.prog 22 #[.pointer (some ⟨b, 0, none⟩), .agg #[.int .i64 8, .string (str nm), .int .i64 n, cv, .slice A ks.length c]] w (PutPost B b (ts ++ toksOf 8 nm n cs (ks.map toksX)) w) := by
  have e : toksOf 8 nm n cs (ks.map toksX) = infixT fbyT (ks.map toksX) := by simp [toksOf]
  have HE := Lib.hid e
  have HN := Lib.hid (show SizeOk (ts ++ infixT fbyT (ks.map toksX)) by rw [e] at hn; exact hn)
  clear e hn
  have HT := Lib.hid ht
  have HB := Lib.hid hb
  have HH := Lib.hid h
  have hsz := hb.size
  have hblt := ht.lt
  obtain ⟨A2, n2, k2, rfl⟩ : ∃ A2 n2 k2, cv = .slice A2 n2 k2 := by obtain ⟨A2, k2, e, _⟩ := h.hcs; exact ⟨_, _, _, e⟩
  clear h ht hb
  go_enter Tryz.func22, Tryz.ntmps22
  go_wp2_with (go_at_call 50; refine (infix_any (o := fbyT) HH.out (lit_ok (by decide)) (HT.out.alloc _) (HB.out.alloc (by omega) _) HN.out).mono ?_; rintro e w1 ⟨rfl, ht1, hk1⟩)
  go_end0
  exact ⟨rfl, by rw [HE.out]; exact ht1, ((TKept.refl B b w).alloc HT.out.2 _).trans hk1⟩
set_option maxHeartbeats 1000000 in
theorem exprT_9 (h : NodeC B b w0 nm cs ks cv A c C) {w : World} {ts : List Tx} (ht : TextW B b ts w) (hb : Below w0.heap.size w0 w) (hn : SizeOk (ts ++ toksOf 9 nm n cs (ks.map toksX))) :
    Calls Tryz.prog 22 #[.pointer (some ⟨b, 0, none⟩), .agg #[.int .i64 9, .string (str nm), .int .i64 n, cv, .slice A ks.length c]] w (PutPost B b (ts ++ toksOf 9 nm n cs (ks.map toksX)) w) := by
  have e : toksOf 9 nm n cs (ks.map toksX) = prefixT preT (ks.map toksX) := by simp [toksOf]
  have HE := Lib.hid e
  have HN := Lib.hid (show SizeOk (ts ++ prefixT preT (ks.map toksX)) by rw [e] at hn; exact hn)
  clear e hn
  have HT := Lib.hid ht
  have HB := Lib.hid hb
  have HH := Lib.hid h
  have hsz := hb.size
  have hblt := ht.lt
  obtain ⟨A2, n2, k2, rfl⟩ : ∃ A2 n2 k2, cv = .slice A2 n2 k2 := by obtain ⟨A2, k2, e, _⟩ := h.hcs; exact ⟨_, _, _, e⟩
  clear h ht hb
  go_enter Tryz.func22, Tryz.ntmps22
  go_wp2_with (go_at_call 49; refine (prefix_any (o := preT) HH.out (lit_ok (by decide)) (HT.out.alloc _) (HB.out.alloc (by omega) _) HN.out).mono ?_; rintro e w1 ⟨rfl, ht1, hk1⟩)
  go_end0
  exact ⟨rfl, by rw [HE.out]; exact ht1, ((TKept.refl B b w).alloc HT.out.2 _).trans hk1⟩
set_option maxHeartbeats 1000000 in
theorem exprT_10 (h : NodeC B b w0 nm cs ks cv A c C) {w : World} {ts : List Tx} (ht : TextW B b ts w) (hb : Below w0.heap.size w0 w) (hn : SizeOk (ts ++ toksOf 10 nm n cs (ks.map toksX))) :
    Calls Tryz.prog 22 #[.pointer (some ⟨b, 0, none⟩), .agg #[.int .i64 10, .string (str nm), .int .i64 n, cv, .slice A ks.length c]] w (PutPost B b (ts ++ toksOf 10 nm n cs (ks.map toksX)) w) := by
  have e : toksOf 10 nm n cs (ks.map toksX) = infixT arrowT (ks.map toksX) := by simp [toksOf]
  have HE := Lib.hid e
  have HN := Lib.hid (show SizeOk (ts ++ infixT arrowT (ks.map toksX)) by rw [e] at hn; exact hn)
  clear e hn
  have HT := Lib.hid ht
  have HB := Lib.hid hb
  have HH := Lib.hid h
  have hsz := hb.size
  have hblt := ht.lt
  obtain ⟨A2, n2, k2, rfl⟩ : ∃ A2 n2 k2, cv = .slice A2 n2 k2 := by obtain ⟨A2, k2, e, _⟩ := h.hcs; exact ⟨_, _, _, e⟩
  clear h ht hb
  go_enter Tryz.func22, Tryz.ntmps22
  go_wp2_with (go_at_call 50; refine (infix_any (o := arrowT) HH.out (lit_ok (by decide)) (HT.out.alloc _) (HB.out.alloc (by omega) _) HN.out).mono ?_; rintro e w1 ⟨rfl, ht1, hk1⟩)
  go_end0
  exact ⟨rfl, by rw [HE.out]; exact ht1, ((TKept.refl B b w).alloc HT.out.2 _).trans hk1⟩
set_option maxHeartbeats 1000000 in
theorem exprT_11 (h : NodeC B b w0 nm cs ks cv A c C) {w : World} {ts : List Tx} (ht : TextW B b ts w) (hb : Below w0.heap.size w0 w) (hn : SizeOk (ts ++ toksOf 11 nm n cs (ks.map toksX))) :
    Calls Tryz.prog 22 #[.pointer (some ⟨b, 0, none⟩), .agg #[.int .i64 11, .string (str nm), .int .i64 n, cv, .slice A ks.length c]] w (PutPost B b (ts ++ toksOf 11 nm n cs (ks.map toksX)) w) := by
  have e : toksOf 11 nm n cs (ks.map toksX) = whenT nm cs (ks.map toksX) := by simp [toksOf]
  have HE := Lib.hid e
  have HN := Lib.hid (show SizeOk (ts ++ whenT nm cs (ks.map toksX)) by rw [e] at hn; exact hn)
  clear e hn
  have HT := Lib.hid ht
  have HB := Lib.hid hb
  have HH := Lib.hid h
  have hsz := hb.size
  have hblt := ht.lt
  obtain ⟨A2, n2, k2, rfl⟩ : ∃ A2 n2 k2, cv = .slice A2 n2 k2 := by obtain ⟨A2, k2, e, _⟩ := h.hcs; exact ⟨_, _, _, e⟩
  clear h ht hb
  go_enter Tryz.func22, Tryz.ntmps22
  go_wp2_with (go_at_call 52; refine (when_any HH.out (HT.out.alloc _) (HB.out.alloc (by omega) _) HN.out).mono ?_; rintro e w1 ⟨rfl, ht1, hk1⟩)
  go_end0
  exact ⟨rfl, by rw [HE.out]; exact ht1, ((TKept.refl B b w).alloc HT.out.2 _).trans hk1⟩
set_option maxHeartbeats 1000000 in
theorem exprT_12 (h : NodeC B b w0 nm cs ks cv A c C) {w : World} {ts : List Tx} (ht : TextW B b ts w) (hb : Below w0.heap.size w0 w) (hn : SizeOk (ts ++ toksOf 12 nm n cs (ks.map toksX))) :
    Calls Tryz.prog 22 #[.pointer (some ⟨b, 0, none⟩), .agg #[.int .i64 12, .string (str nm), .int .i64 n, cv, .slice A ks.length c]] w (PutPost B b (ts ++ toksOf 12 nm n cs (ks.map toksX)) w) := by
  have e : toksOf 12 nm n cs (ks.map toksX) = armT mergeT nm cs (ks.map toksX) := by simp [toksOf]
  have HE := Lib.hid e
  have HN := Lib.hid (show SizeOk (ts ++ armT mergeT nm cs (ks.map toksX)) by rw [e] at hn; exact hn)
  clear e hn
  have HT := Lib.hid ht
  have HB := Lib.hid hb
  have HH := Lib.hid h
  have hsz := hb.size
  have hblt := ht.lt
  obtain ⟨A2, n2, k2, rfl⟩ : ∃ A2 n2 k2, cv = .slice A2 n2 k2 := by obtain ⟨A2, k2, e, _⟩ := h.hcs; exact ⟨_, _, _, e⟩
  clear h ht hb
  go_enter Tryz.func22, Tryz.ntmps22
  go_wp2_with (go_at_call 53; refine (arms_any (word := mergeT) HH.out (lit_ok (by decide)) (HT.out.alloc _) (HB.out.alloc (by omega) _) HN.out).mono ?_; rintro e w1 ⟨rfl, ht1, hk1⟩)
  go_end0
  exact ⟨rfl, by rw [HE.out]; exact ht1, ((TKept.refl B b w).alloc HT.out.2 _).trans hk1⟩
set_option maxHeartbeats 1000000 in
theorem exprT_13 (h : NodeC B b w0 nm cs ks cv A c C) {w : World} {ts : List Tx} (ht : TextW B b ts w) (hb : Below w0.heap.size w0 w) (hn : SizeOk (ts ++ toksOf 13 nm n cs (ks.map toksX))) :
    Calls Tryz.prog 22 #[.pointer (some ⟨b, 0, none⟩), .agg #[.int .i64 13, .string (str nm), .int .i64 n, cv, .slice A ks.length c]] w (PutPost B b (ts ++ toksOf 13 nm n cs (ks.map toksX)) w) := by
  have e : toksOf 13 nm n cs (ks.map toksX) = armT matchT nm cs (ks.map toksX) := by simp [toksOf]
  have HE := Lib.hid e
  have HN := Lib.hid (show SizeOk (ts ++ armT matchT nm cs (ks.map toksX)) by rw [e] at hn; exact hn)
  clear e hn
  have HT := Lib.hid ht
  have HB := Lib.hid hb
  have HH := Lib.hid h
  have hsz := hb.size
  have hblt := ht.lt
  obtain ⟨A2, n2, k2, rfl⟩ : ∃ A2 n2 k2, cv = .slice A2 n2 k2 := by obtain ⟨A2, k2, e, _⟩ := h.hcs; exact ⟨_, _, _, e⟩
  clear h ht hb
  go_enter Tryz.func22, Tryz.ntmps22
  go_wp2_with (go_at_call 53; refine (arms_any (word := matchT) HH.out (lit_ok (by decide)) (HT.out.alloc _) (HB.out.alloc (by omega) _) HN.out).mono ?_; rintro e w1 ⟨rfl, ht1, hk1⟩)
  go_end0
  exact ⟨rfl, by rw [HE.out]; exact ht1, ((TKept.refl B b w).alloc HT.out.2 _).trans hk1⟩
set_option maxHeartbeats 1000000 in
theorem exprT_14 (h : NodeC B b w0 nm cs ks cv A c C) {w : World} {ts : List Tx} (ht : TextW B b ts w) (hb : Below w0.heap.size w0 w) (hn : SizeOk (ts ++ toksOf 14 nm n cs (ks.map toksX))) :
    Calls Tryz.prog 22 #[.pointer (some ⟨b, 0, none⟩), .agg #[.int .i64 14, .string (str nm), .int .i64 n, cv, .slice A ks.length c]] w (PutPost B b (ts ++ toksOf 14 nm n cs (ks.map toksX)) w) := by
  have e : toksOf 14 nm n cs (ks.map toksX) = callT nm cs (ks.map toksX) := by simp [toksOf]
  have HE := Lib.hid e
  have HN := Lib.hid (show SizeOk (ts ++ callT nm cs (ks.map toksX)) by rw [e] at hn; exact hn)
  clear e hn
  have HT := Lib.hid ht
  have HB := Lib.hid hb
  have HH := Lib.hid h
  have hsz := hb.size
  have hblt := ht.lt
  obtain ⟨A2, n2, k2, rfl⟩ : ∃ A2 n2 k2, cv = .slice A2 n2 k2 := by obtain ⟨A2, k2, e, _⟩ := h.hcs; exact ⟨_, _, _, e⟩
  clear h ht hb
  go_enter Tryz.func22, Tryz.ntmps22
  go_wp2_with (go_at_call 54; refine (call_any HH.out (HT.out.alloc _) (HB.out.alloc (by omega) _) HN.out).mono ?_; rintro e w1 ⟨rfl, ht1, hk1⟩)
  go_end0
  exact ⟨rfl, by rw [HE.out]; exact ht1, ((TKept.refl B b w).alloc HT.out.2 _).trans hk1⟩
set_option maxHeartbeats 1000000 in
theorem exprT_15 (h : NodeC B b w0 nm cs ks cv A c C) {w : World} {ts : List Tx} (ht : TextW B b ts w) (hb : Below w0.heap.size w0 w) (hn : SizeOk (ts ++ toksOf 15 nm n cs (ks.map toksX))) :
    Calls Tryz.prog 22 #[.pointer (some ⟨b, 0, none⟩), .agg #[.int .i64 15, .string (str nm), .int .i64 n, cv, .slice A ks.length c]] w (PutPost B b (ts ++ toksOf 15 nm n cs (ks.map toksX)) w) := by
  have e : toksOf 15 nm n cs (ks.map toksX) = infixT everyT (ks.map toksX) := by simp [toksOf]
  have HE := Lib.hid e
  have HN := Lib.hid (show SizeOk (ts ++ infixT everyT (ks.map toksX)) by rw [e] at hn; exact hn)
  clear e hn
  have HT := Lib.hid ht
  have HB := Lib.hid hb
  have HH := Lib.hid h
  have hsz := hb.size
  have hblt := ht.lt
  obtain ⟨A2, n2, k2, rfl⟩ : ∃ A2 n2 k2, cv = .slice A2 n2 k2 := by obtain ⟨A2, k2, e, _⟩ := h.hcs; exact ⟨_, _, _, e⟩
  clear h ht hb
  go_enter Tryz.func22, Tryz.ntmps22
  go_wp2_with (go_at_call 50; refine (infix_any (o := everyT) HH.out (lit_ok (by decide)) (HT.out.alloc _) (HB.out.alloc (by omega) _) HN.out).mono ?_; rintro e w1 ⟨rfl, ht1, hk1⟩)
  go_end0
  exact ⟨rfl, by rw [HE.out]; exact ht1, ((TKept.refl B b w).alloc HT.out.2 _).trans hk1⟩
set_option maxHeartbeats 1000000 in
theorem exprT_3 (h : NodeC B b w0 nm cs ks cv A c C) {w : World} {ts : List Tx} (ht : TextW B b ts w) (hb : Below w0.heap.size w0 w) (hn : SizeOk (ts ++ toksOf 3 nm n cs (ks.map toksX))) :
    Calls Tryz.prog 22 #[.pointer (some ⟨b, 0, none⟩), .agg #[.int .i64 3, .string (str nm), .int .i64 n, cv, .slice A ks.length c]] w (PutPost B b (ts ++ toksOf 3 nm n cs (ks.map toksX)) w) := by
  have e : toksOf 3 nm n cs (ks.map toksX) = [(str nm : ByteArray).data.toList] := by simp [toksOf, str_toList]
  have HE := Lib.hid e
  have HN := Lib.hid (show SizeOk (ts ++ [(str nm : ByteArray).data.toList]) by rw [e] at hn; exact hn)
  clear e hn
  have HT := Lib.hid ht
  have HB := Lib.hid hb
  have HH := Lib.hid h
  have hsz := hb.size
  have hblt := ht.lt
  obtain ⟨A2, n2, k2, rfl⟩ : ∃ A2 n2 k2, cv = .slice A2 n2 k2 := by obtain ⟨A2, k2, e, _⟩ := h.hcs; exact ⟨_, _, _, e⟩
  clear h ht hb
  go_enter Tryz.func22, Tryz.ntmps22
  go_wp2_with (go_at_call 46; (with_reducible refine (putN1 (str nm) (HT.out.alloc _) HN.out HH.out.hnm (by simp)).mono ?_); rintro e w1 ⟨rfl, ht1, hk1⟩)
  go_end0
  exact ⟨rfl, by rw [HE.out]; exact ht1, ((TKept.refl B b w).alloc HT.out.2 _).trans hk1⟩
set_option maxHeartbeats 1000000 in
theorem exprT_4 (h : NodeC B b w0 nm cs ks cv A c C) {w : World} {ts : List Tx} (ht : TextW B b ts w) (hb : Below w0.heap.size w0 w) (hn : SizeOk (ts ++ toksOf 4 nm n cs (ks.map toksX))) :
    Calls Tryz.prog 22 #[.pointer (some ⟨b, 0, none⟩), .agg #[.int .i64 4, .string (str nm), .int .i64 n, cv, .slice A ks.length c]] w (PutPost B b (ts ++ toksOf 4 nm n cs (ks.map toksX)) w) := by
  have e : toksOf 4 nm n cs (ks.map toksX) = [(str nm : ByteArray).data.toList] := by simp [toksOf, str_toList]
  have HE := Lib.hid e
  have HN := Lib.hid (show SizeOk (ts ++ [(str nm : ByteArray).data.toList]) by rw [e] at hn; exact hn)
  clear e hn
  have HT := Lib.hid ht
  have HB := Lib.hid hb
  have HH := Lib.hid h
  have hsz := hb.size
  have hblt := ht.lt
  obtain ⟨A2, n2, k2, rfl⟩ : ∃ A2 n2 k2, cv = .slice A2 n2 k2 := by obtain ⟨A2, k2, e, _⟩ := h.hcs; exact ⟨_, _, _, e⟩
  clear h ht hb
  go_enter Tryz.func22, Tryz.ntmps22
  go_wp2_with (go_at_call 46; (with_reducible refine (putN1 (str nm) (HT.out.alloc _) HN.out HH.out.hnm (by simp)).mono ?_); rintro e w1 ⟨rfl, ht1, hk1⟩)
  go_end0
  exact ⟨rfl, by rw [HE.out]; exact ht1, ((TKept.refl B b w).alloc HT.out.2 _).trans hk1⟩
set_option maxHeartbeats 1000000 in
theorem exprT_1 (h : NodeC B b w0 nm cs ks cv A c C) (hi : i64B n) (htab : Tab w0) {w : World} {ts : List Tx} (ht : TextW B b ts w) (hb : Below w0.heap.size w0 w) (hn : SizeOk (ts ++ toksOf 1 nm n cs (ks.map toksX))) :
    Calls Tryz.prog 22 #[.pointer (some ⟨b, 0, none⟩), .agg #[.int .i64 1, .string (str nm), .int .i64 n, cv, .slice A ks.length c]] w (PutPost B b (ts ++ toksOf 1 nm n cs (ks.map toksX)) w) := by
  have e : toksOf 1 nm n cs (ks.map toksX) = [(str (Lib.itoa n) : ByteArray).data.toList] := by simp [toksOf, str_toList]
  have HE := Lib.hid e
  have HN := Lib.hid (show SizeOk (ts ++ [(str (Lib.itoa n) : ByteArray).data.toList]) by rw [e] at hn; exact hn)
  have HL := Lib.hid (show (str (Lib.itoa n)).size ≤ maxLen by have := Lib.itoa_length_le n hi.1 hi.2; rw [str_size]; unfold maxLen; omega)
  have HI := Lib.hid hi
  have HTB := Lib.hid htab
  clear e hn hi htab
  have HT := Lib.hid ht
  have HB := Lib.hid hb
  have HH := Lib.hid h
  have hsz := hb.size
  have hblt := ht.lt
  obtain ⟨A2, n2, k2, rfl⟩ : ∃ A2 n2 k2, cv = .slice A2 n2 k2 := by obtain ⟨A2, k2, e, _⟩ := h.hcs; exact ⟨_, _, _, e⟩
  clear h ht hb
  go_enter Tryz.func22, Tryz.ntmps22
  go_wp2_with (first
    | (go_at_call 47
       refine (fmtInt_any n HI.out _ (HTB.out.under (HB.out.alloc (by omega) _))).mono ?_
       rintro e w1 ⟨rfl, hb1⟩
       have HT1 := Lib.hid ((HT.out.alloc _).under hb1)
       have HK1 := Lib.hid (((TKept.refl B b w).alloc HT.out.2 (.cells #[.int .i64 1, .string (str nm), .int .i64 n, .slice A2 n2 k2, .slice A ks.length c] 25)).trans (TKept.same (HT.out.alloc _).2 hb1))
       clear hb1)
    | (go_at_call 46
       with_reducible refine (putN1 (str (Lib.itoa n)) HT1.out HN.out HL.out rfl).mono ?_
       rintro e w2 ⟨rfl, ht2, hk2⟩))
  go_end0
  exact ⟨rfl, by rw [HE.out]; exact ht2, HK1.out.trans hk2⟩
set_option maxHeartbeats 1000000 in
theorem exprT_2 (h : NodeC B b w0 nm cs ks cv A c C) {w : World} {ts : List Tx} (ht : TextW B b ts w) (hb : Below w0.heap.size w0 w) (hn : SizeOk (ts ++ toksOf 2 nm n cs (ks.map toksX))) :
    Calls Tryz.prog 22 #[.pointer (some ⟨b, 0, none⟩), .agg #[.int .i64 2, .string (str nm), .int .i64 n, cv, .slice A ks.length c]] w (PutPost B b (ts ++ toksOf 2 nm n cs (ks.map toksX)) w) := by
  obtain ⟨q, hq⟩ : ∃ q : Bool, q = decide (n = 1) := ⟨_, rfl⟩
  have e : toksOf 2 nm n cs (ks.map toksX) = [(str (if q then trueT else falseT) : ByteArray).data.toList] := by simp [toksOf, str_toList, hq]
  have HE := Lib.hid e
  have HN := Lib.hid (show SizeOk (ts ++ [(str (if q then trueT else falseT) : ByteArray).data.toList]) by rw [e] at hn; exact hn)
  have HL := Lib.hid (show (str (if q then trueT else falseT)).size ≤ maxLen by cases q <;> exact lit_ok (by decide))
  have hq' : (n == 1) = q := by rw [hq]; by_cases h : n = 1 <;> simp [h]
  clear e hn
  clear hq
  have HT := Lib.hid ht
  have HB := Lib.hid hb
  have HH := Lib.hid h
  have hsz := hb.size
  have hblt := ht.lt
  obtain ⟨A2, n2, k2, rfl⟩ : ∃ A2 n2 k2, cv = .slice A2 n2 k2 := by obtain ⟨A2, k2, e, _⟩ := h.hcs; exact ⟨_, _, _, e⟩
  clear h ht hb
  go_enter Tryz.func22, Tryz.ntmps22
  go_wp2_with (first
    | (go_at_call 48
       refine (fmtBool_any q _).mono ?_
       rintro e w1 ⟨rfl, rfl⟩)
    | (go_at_call 46
       with_reducible refine (putN1 (str (if q then trueT else falseT)) (HT.out.alloc _) HN.out HL.out (by simp)).mono ?_
       rintro e w2 ⟨rfl, ht2, hk2⟩))
  all_goals go_end0
  all_goals exact ⟨rfl, by rw [HE.out]; exact ht2, ((TKept.refl B b w).alloc HT.out.2 _).trans hk2⟩
set_option maxHeartbeats 1000000 in
theorem exprT_no (h : NodeC B b w0 nm cs ks cv A c C) {op : Int} (h1 : op ≠ 1) (h2 : op ≠ 2) (h3 : op ≠ 3) (h4 : op ≠ 4) (h5 : op ≠ 5) (h6 : op ≠ 6) (h7 : op ≠ 7) (h8 : op ≠ 8) (h9 : op ≠ 9) (h10 : op ≠ 10) (h11 : op ≠ 11) (h12 : op ≠ 12) (h13 : op ≠ 13) (h14 : op ≠ 14) (h15 : op ≠ 15) {w : World} {ts : List Tx} (ht : TextW B b ts w) (hb : Below w0.heap.size w0 w) (hn : SizeOk (ts ++ toksOf op nm n cs (ks.map toksX))) :
    Calls Tryz.prog 22 #[.pointer (some ⟨b, 0, none⟩), .agg #[.int .i64 op, .string (str nm), .int .i64 n, cv, .slice A ks.length c]] w (PutPost B b (ts ++ toksOf op nm n cs (ks.map toksX)) w) := by
  have e : toksOf op nm n cs (ks.map toksX) = [(⟨#[63]⟩ : ByteArray).data.toList] := by simp [toksOf, *]
  have HE := Lib.hid e
  have HN := Lib.hid (show SizeOk (ts ++ [(⟨#[63]⟩ : ByteArray).data.toList]) by rw [e] at hn; exact hn)
  clear e hn
  have HT := Lib.hid ht
  have HB := Lib.hid hb
  have HH := Lib.hid h
  have hsz := hb.size
  have hblt := ht.lt
  obtain ⟨A2, n2, k2, rfl⟩ : ∃ A2 n2 k2, cv = .slice A2 n2 k2 := by obtain ⟨A2, k2, e, _⟩ := h.hcs; exact ⟨_, _, _, e⟩
  clear h ht hb
  go_enter Tryz.func22, Tryz.ntmps22
  go_wp2_with (go_at_call 46; (with_reducible refine (putN1 (⟨#[63]⟩) (HT.out.alloc _) HN.out (lit_ok (by decide)) (by simp)).mono ?_); rintro e w1 ⟨rfl, ht1, hk1⟩)
  go_end0
  exact ⟨rfl, by rw [HE.out]; exact ht1, ((TKept.refl B b w).alloc HT.out.2 _).trans hk1⟩
end
theorem exprT_any {B b : Nat} {w0 : World} (hB : w0.heap.size ≤ B) (htab : Tab w0) {L : List Value} {x : Ex} (h : ExAt w0 L x) : ExprC B b w0 L x := by
  induction h with
  | @mk op nm n cs ks cv A c C hop hnm hn hcs hl hc hk hx ih =>
    intro w ts ht hb hs
    have HN : NodeC B b w0 nm cs ks cv A c C := ⟨hB, hnm, hcs, hl, hc, hk, hx, ih⟩
    rw [toksX_mk] at hs ⊢
    rcases op_cases op with rfl | rfl | rfl | rfl | rfl | rfl | rfl | rfl | rfl | rfl | rfl | rfl | rfl | rfl | rfl | ⟨h1, h2, h3, h4, h5, h6, h7, h8, h9, h10, h11, h12, h13, h14, h15⟩
    · exact exprT_1 HN hn htab ht hb hs
    · exact exprT_2 HN ht hb hs
    · exact exprT_3 HN ht hb hs
    · exact exprT_4 HN ht hb hs
    · exact exprT_5 HN ht hb hs
    · exact exprT_6 HN ht hb hs
    · exact exprT_7 HN ht hb hs
    · exact exprT_8 HN ht hb hs
    · exact exprT_9 HN ht hb hs
    · exact exprT_10 HN ht hb hs
    · exact exprT_11 HN ht hb hs
    · exact exprT_12 HN ht hb hs
    · exact exprT_13 HN ht hb hs
    · exact exprT_14 HN ht hb hs
    · exact exprT_15 HN ht hb hs
    · exact exprT_no HN h1 h2 h3 h4 h5 h6 h7 h8 h9 h10 h11 h12 h13 h14 h15 ht hb hs
end Go.Proofs.YtaimagfdjbedeaaGreatDoor
