/-
  The rules' methods: which expressions, equations, states, items, enums, nodes, programs may be.
-/
import Derived.Test.YtbpbnebcbjacdaaGreatTreeRowD
import Derived.Test.YtbpbnebcbjacdaaGreatTreeSamX
namespace Go.Proofs.YtbpbnebcbjacdaaGreat
open Go.RowKit

/-- a rules value, with generated names or without -/
def RulesAt (w0 : World) (made : Bool) (rv : Value) : Prop :=
  ∃ nf cf, rv = .agg #[nf, cf, .int .i64 (enumsM made : Nat), .int .i64 (itemsM made : Nat)] ∧ StrFn w0 nf (nameM made) ∧ StrFn w0 cf (conM made)
theorem rules_false (w0 : World) : RulesAt w0 false (.agg #[.func (.func 57) #[] #[], .func (.func 58) #[] #[], .int .i64 8, .int .i64 24]) := ⟨_, _, rfl, name_fn w0, con_fn w0⟩
theorem rules_true (w0 : World) : RulesAt w0 true (.agg #[.func (.func 59) #[] #[], .func (.func 61) #[] #[], .int .i64 32, .int .i64 9223372036854775807]) := ⟨_, _, rfl, nameMade_fn w0, conMade_fn w0⟩
def RulesPost (made : Bool) (w : World) (e : Ending) (w' : World) : Prop := ∃ rv, e = .returned rv ∧ Below w.heap.size w w' ∧ ∀ w0, RulesAt w0 made rv
theorem rules_info : (Tryz.prog.info? 77).map (·.size) = some 4 := by kernel_rfl
theorem rules_results {tmps : Array Value} {w : World} {N : Nat} {x0 x1 x2 x3 : Value} (hp : tmps.getD 2 undef = .pointer (some ⟨N, 0, none⟩)) (hg : w.heap[N]? = some (.cells #[x0, x1, x2, x3] 77 (0, 0))) :
    (results Tryz.f38 tmps).run Tryz.prog w = .ok (.agg #[x0, x1, x2, x3]) w :=
  results_cell_row Tryz.results38 tmps w N 77 _ (0, 0) _ hp hg Tryz.underlying77 rfl rules_info
theorem rulesFor_any (made : Bool) (w : World) : Calls Tryz.prog 38 #[.bool made] w (RulesPost made w) := by
  cases made
  · go_enter Tryz.func38, Tryz.ntmps38
    go_wp2_with fail
    exact bodyPost_ret (rules_results rfl (heap_alloc_new w _)) rfl ⟨_, rfl, (Below.refl _ _).alloc (Nat.le_refl _) _, fun w0 => rules_false w0⟩
  · go_enter Tryz.func38, Tryz.ntmps38
    go_wp2_with fail
    exact bodyPost_ret (rules_results rfl (heap_alloc_new w _)) rfl ⟨_, rfl, (Below.refl _ _).alloc (Nat.le_refl _) _, fun w0 => rules_true w0⟩
theorem bool_as {a b : Bool} (h : a = b) {f : FuncId} {args : Array Value} {w : World} (hc : Calls Tryz.prog f args w (BoolPost a w)) : Calls Tryz.prog f args w (BoolPost b w) := h ▸ hc
theorem allM_eq {X : Type} {f : X → Bool} (l : List X) (least most : Nat) (lo hi : Int) (h1 : lo = least) (h2 : hi = most) : (decide (lo ≤ l.length) && decide ((l.length : Int) ≤ hi) && l.all f) = allM l least most f := by
  subst h1 h2
  unfold allM
  congr 2 <;> (rw [Bool.eq_iff_iff]; simp)

/- the rows, in the words of the fields -/
theorem len_eq {X : Type} (l : List X) (a : Nat) : (decide ((a : Int) ≤ l.length) && decide ((l.length : Int) ≤ a)) = (l.length == a) := by
  rw [Bool.eq_iff_iff]; simp; omega
theorem len_zero {X : Type} (l : List X) : (decide ((0 : Int) ≤ l.length) && decide ((l.length : Int) ≤ 0)) = l.isEmpty := by
  rw [Bool.eq_iff_iff]; cases l <;> simp <;> omega
theorem num_zero (n : Int) : (decide (0 ≤ n) && decide (n ≤ 0)) = (n == 0) := by rw [Bool.eq_iff_iff]; simp; omega
theorem num_one (n : Int) (h : i64B n) : (decide (0 ≤ n) && decide (n ≤ 9223372036854775807)) = decide (0 ≤ n) := by
  obtain ⟨_, h⟩ := h
  simp [h]
/-- four functions that say what the row of op asks -/
def RowFits (made : Bool) (op : Int) (P0 P1 P2 P3 : Ex → Bool) : Prop := ∀ nm n cs ks, i64B n → (P0 (.mk op nm n cs ks) && (P1 (.mk op nm n cs ks) && (P2 (.mk op nm n cs ks) && P3 (.mk op nm n cs ks)))) = shapeM made op nm n cs ks
theorem bool4 (a b c d : Bool) : (a && (b && (c && d))) = (a && b && c && d) := by simp [Bool.and_assoc]
theorem len_i1 {X : Type} (l : List X) : (decide ((1 : Int) ≤ l.length) && decide ((l.length : Int) ≤ 1)) = (l.length == 1) := by rw [Bool.eq_iff_iff]; simp; omega
theorem len_i2 {X : Type} (l : List X) : (decide ((2 : Int) ≤ l.length) && decide ((l.length : Int) ≤ 2)) = (l.length == 2) := by rw [Bool.eq_iff_iff]; simp; omega
theorem len_i3 {X : Type} (l : List X) : (decide ((3 : Int) ≤ l.length) && decide ((l.length : Int) ≤ 3)) = (l.length == 3) := by rw [Bool.eq_iff_iff]; simp; omega
theorem len_16 {X : Type} (l : List X) : (decide ((1 : Int) ≤ l.length) && decide ((l.length : Int) ≤ 6)) = (decide (1 ≤ l.length) && decide (l.length ≤ 6)) := by rw [Bool.eq_iff_iff]; simp; omega
theorem fits_1 (made : Bool) : RowFits made 1 blank0 (fun x => decide (0 ≤ x.num) && decide (x.num ≤ 9223372036854775807)) blank2 blank3 := by
  intro nm n cs ks h
  show ((nm == []) && ((decide (0 ≤ n) && decide (n ≤ 9223372036854775807)) && ((cs.isEmpty) && (decide ((0 : Int) ≤ ks.length) && decide ((ks.length : Int) ≤ 0))))) = shapeM made 1 nm n cs ks
  rw [num_one n h, len_zero ks]
  simp only [shapeM, ↓reduceIte]
  rw [bool4]
theorem fits_2 (made : Bool) : RowFits made 2 blank0 (fun x => decide (0 ≤ x.num) && decide (x.num ≤ 1)) blank2 blank3 := by
  intro nm n cs ks _
  show ((nm == []) && ((decide (0 ≤ n) && decide (n ≤ 1)) && ((cs.isEmpty) && (decide ((0 : Int) ≤ ks.length) && decide ((ks.length : Int) ≤ 0))))) = shapeM made 2 nm n cs ks
  rw [len_zero ks]
  simp only [shapeM, Int.reduceEq, ↓reduceIte]
  rw [bool4]
theorem fits_3 (made : Bool) : RowFits made 3 (fun x => (conM made) x.name) blank1 blank2 blank3 := by
  intro nm n cs ks _
  show (((conM made) nm) && ((decide (0 ≤ n) && decide (n ≤ 0)) && ((cs.isEmpty) && (decide ((0 : Int) ≤ ks.length) && decide ((ks.length : Int) ≤ 0))))) = shapeM made 3 nm n cs ks
  rw [num_zero n, len_zero ks]
  simp only [shapeM, Int.reduceEq, ↓reduceIte]
  rw [bool4]
theorem fits_4 (made : Bool) : RowFits made 4 (fun x => (nameM made) x.name) blank1 blank2 blank3 := by
  intro nm n cs ks _
  show (((nameM made) nm) && ((decide (0 ≤ n) && decide (n ≤ 0)) && ((cs.isEmpty) && (decide ((0 : Int) ≤ ks.length) && decide ((ks.length : Int) ≤ 0))))) = shapeM made 4 nm n cs ks
  rw [num_zero n, len_zero ks]
  simp only [shapeM, Int.reduceEq, ↓reduceIte]
  rw [bool4]
theorem fits_5 (made : Bool) : RowFits made 5 (fun x => [[110, 111, 116], [45]].contains x.name) blank1 blank2 (fun x => decide ((1 : Int) ≤ x.kids.length) && decide ((x.kids.length : Int) ≤ 1)) := by
  intro nm n cs ks _
  show (([[110, 111, 116], [45]].contains nm) && ((decide (0 ≤ n) && decide (n ≤ 0)) && ((cs.isEmpty) && (decide ((1 : Int) ≤ ks.length) && decide ((ks.length : Int) ≤ 1))))) = shapeM made 5 nm n cs ks
  rw [num_zero n, len_i1 ks]
  simp only [shapeM, Int.reduceEq, ↓reduceIte]
  rw [bool4]
theorem fits_6 (made : Bool) : RowFits made 6 (fun x => binsL.contains x.name) blank1 blank2 (fun x => decide ((2 : Int) ≤ x.kids.length) && decide ((x.kids.length : Int) ≤ 2)) := by
  intro nm n cs ks _
  show ((binsL.contains nm) && ((decide (0 ≤ n) && decide (n ≤ 0)) && ((cs.isEmpty) && (decide ((2 : Int) ≤ ks.length) && decide ((ks.length : Int) ≤ 2))))) = shapeM made 6 nm n cs ks
  rw [num_zero n, len_i2 ks]
  simp only [shapeM, Int.reduceEq, ↓reduceIte]
  rw [bool4]
theorem fits_7 (made : Bool) : RowFits made 7 blank0 blank1 blank2 (fun x => decide ((3 : Int) ≤ x.kids.length) && decide ((x.kids.length : Int) ≤ 3)) := by
  intro nm n cs ks _
  show ((nm == []) && ((decide (0 ≤ n) && decide (n ≤ 0)) && ((cs.isEmpty) && (decide ((3 : Int) ≤ ks.length) && decide ((ks.length : Int) ≤ 3))))) = shapeM made 7 nm n cs ks
  rw [num_zero n, len_i3 ks]
  simp only [shapeM, Int.reduceEq, ↓reduceIte]
  rw [bool4]
theorem fits_8 (made : Bool) : RowFits made 8 blank0 blank1 blank2 (fun x => decide ((2 : Int) ≤ x.kids.length) && decide ((x.kids.length : Int) ≤ 2)) := by
  intro nm n cs ks _
  show ((nm == []) && ((decide (0 ≤ n) && decide (n ≤ 0)) && ((cs.isEmpty) && (decide ((2 : Int) ≤ ks.length) && decide ((ks.length : Int) ≤ 2))))) = shapeM made 8 nm n cs ks
  rw [num_zero n, len_i2 ks]
  simp only [shapeM, Int.reduceEq, ↓reduceIte]
  rw [bool4]
theorem fits_9 (made : Bool) : RowFits made 9 blank0 blank1 blank2 (fun x => decide ((1 : Int) ≤ x.kids.length) && decide ((x.kids.length : Int) ≤ 1)) := by
  intro nm n cs ks _
  show ((nm == []) && ((decide (0 ≤ n) && decide (n ≤ 0)) && ((cs.isEmpty) && (decide ((1 : Int) ≤ ks.length) && decide ((ks.length : Int) ≤ 1))))) = shapeM made 9 nm n cs ks
  rw [num_zero n, len_i1 ks]
  simp only [shapeM, Int.reduceEq, ↓reduceIte]
  rw [bool4]
theorem fits_10 (made : Bool) : RowFits made 10 blank0 blank1 blank2 (fun x => decide ((2 : Int) ≤ x.kids.length) && decide ((x.kids.length : Int) ≤ 2)) := by
  intro nm n cs ks _
  show ((nm == []) && ((decide (0 ≤ n) && decide (n ≤ 0)) && ((cs.isEmpty) && (decide ((2 : Int) ≤ ks.length) && decide ((ks.length : Int) ≤ 2))))) = shapeM made 10 nm n cs ks
  rw [num_zero n, len_i2 ks]
  simp only [shapeM, Int.reduceEq, ↓reduceIte]
  rw [bool4]
theorem fits_11 (made : Bool) : RowFits made 11 (fun x => (nameM made) x.name) blank1 (fun x => decide ((1 : Int) ≤ x.cons.length) && decide ((x.cons.length : Int) ≤ 1) && x.cons.all (conM made)) (fun x => decide ((1 : Int) ≤ x.kids.length) && decide ((x.kids.length : Int) ≤ 1)) := by
  intro nm n cs ks _
  show (((nameM made) nm) && ((decide (0 ≤ n) && decide (n ≤ 0)) && ((decide ((1 : Int) ≤ cs.length) && decide ((cs.length : Int) ≤ 1) && cs.all (conM made)) && (decide ((1 : Int) ≤ ks.length) && decide ((ks.length : Int) ≤ 1))))) = shapeM made 11 nm n cs ks
  rw [num_zero n, len_i1 ks, allM_eq cs 1 1 1 1 rfl rfl]
  simp only [shapeM, Int.reduceEq, ↓reduceIte]
  rw [bool4]
theorem fits_12 (made : Bool) : RowFits made 12 (fun x => (nameM made) x.name) blank1 (fun x => decide ((1 : Int) ≤ x.cons.length) && decide ((x.cons.length : Int) ≤ 8) && x.cons.all (conM made)) (fun x => x.kids.length == x.cons.length) := by
  intro nm n cs ks _
  show (((nameM made) nm) && ((decide (0 ≤ n) && decide (n ≤ 0)) && ((decide ((1 : Int) ≤ cs.length) && decide ((cs.length : Int) ≤ 8) && cs.all (conM made)) && (ks.length == cs.length)))) = shapeM made 12 nm n cs ks
  rw [num_zero n, allM_eq cs 1 8 1 8 rfl rfl]
  simp only [shapeM, Int.reduceEq, ↓reduceIte]
  rw [bool4]
theorem fits_13 (made : Bool) : RowFits made 13 (fun x => (nameM made) x.name) blank1 (fun x => decide ((1 : Int) ≤ x.cons.length) && decide ((x.cons.length : Int) ≤ 8) && x.cons.all (conM made)) (fun x => x.kids.length == x.cons.length) := by
  intro nm n cs ks _
  show (((nameM made) nm) && ((decide (0 ≤ n) && decide (n ≤ 0)) && ((decide ((1 : Int) ≤ cs.length) && decide ((cs.length : Int) ≤ 8) && cs.all (conM made)) && (ks.length == cs.length)))) = shapeM made 13 nm n cs ks
  rw [num_zero n, allM_eq cs 1 8 1 8 rfl rfl]
  simp only [shapeM, Int.reduceEq, ↓reduceIte]
  rw [bool4]
theorem fits_14 (made : Bool) : RowFits made 14 (fun x => (nameM made) x.name) blank1 (fun x => decide ((0 : Int) ≤ x.cons.length) && decide ((x.cons.length : Int) ≤ 6) && x.cons.all (nameM made)) (fun x => decide ((1 : Int) ≤ x.kids.length) && decide ((x.kids.length : Int) ≤ 6)) := by
  intro nm n cs ks _
  show (((nameM made) nm) && ((decide (0 ≤ n) && decide (n ≤ 0)) && ((decide ((0 : Int) ≤ cs.length) && decide ((cs.length : Int) ≤ 6) && cs.all (nameM made)) && (decide ((1 : Int) ≤ ks.length) && decide ((ks.length : Int) ≤ 6))))) = shapeM made 14 nm n cs ks
  rw [num_zero n, len_16 ks, allM_eq cs 0 6 0 6 rfl rfl]
  simp only [shapeM, Int.reduceEq, ↓reduceIte]
  rw [bool4]
theorem fits_15 (made : Bool) : RowFits made 15 blank0 blank1 blank2 (fun x => x.kids.length == 2 && (x.kids.headD noneX).op == 14) := by
  intro nm n cs ks _
  show ((nm == []) && ((decide (0 ≤ n) && decide (n ≤ 0)) && ((cs.isEmpty) && (ks.length == 2 && (ks.headD noneX).op == 14)))) = shapeM made 15 nm n cs ks
  rw [num_zero n]
  simp only [shapeM, Int.reduceEq, ↓reduceIte]
  rw [bool4]
  rfl

/-- what row answers -/
def RowPost (made : Bool) (op : Int) (w : World) (e : Ending) (w' : World) : Prop :=
  (∃ P0 P1 P2 P3, RowFits made op P0 P1 P2 P3 ∧ RowYes P0 P1 P2 P3 w e w') ∨
  (e = .returned (.tuple #[.agg #[.nilFunc, .nilFunc, .nilFunc, .nilFunc], .bool false]) ∧ Below w.heap.size w w' ∧ ∀ nm n cs ks, shapeM made op nm n cs ks = false)
set_option maxHeartbeats 1000000 in
theorem row_none {gn gc : FuncId} {cn cc : Array Value} (en it op : Int) (w : World) (h1 : op ≠ 1) (h2 : op ≠ 2) (h3 : op ≠ 3) (h4 : op ≠ 4) (h5 : op ≠ 5) (h6 : op ≠ 6) (h7 : op ≠ 7) (h8 : op ≠ 8) (h9 : op ≠ 9) (h10 : op ≠ 10) (h11 : op ≠ 11) (h12 : op ≠ 12) (h13 : op ≠ 13) (h14 : op ≠ 14) (h15 : op ≠ 15) :
    Calls Tryz.prog 137 #[.agg #[.func (.func gn) #[] cn, .func (.func gc) #[] cc, .int .i64 en, .int .i64 it], .int .i64 op] w fun e w' => e = .returned (.tuple #[.agg #[.nilFunc, .nilFunc, .nilFunc, .nilFunc], .bool false]) ∧ Below w.heap.size w w' := by
  go_enter Tryz.func137, Tryz.ntmps137
  go_wp2_with (go_at_call 140; refine (blank_mk _).mono ?_; rintro e w' ⟨rfl, rfl⟩)
  exact bodyPost_ret (row_results rfl rfl (by simp only [heap_push, Array.getElem?_push, Array.size_push]; repeat (first | rfl | rw [if_neg (by omega)] | rw [if_pos (by omega)]))) rfl ⟨rfl, by repeat (first | exact Below.refl _ _ | refine Below.drew ?_ | refine Below.alloc ?_ (by simp <;> omega) _)⟩
theorem row_any {made : Bool} {rv : Value} {w0 w : World} (hr : RulesAt w0 made rv) (hw : Below w0.heap.size w0 w) (op : Int) : Calls Tryz.prog 137 #[rv, .int .i64 op] w (RowPost made op w) := by
  obtain ⟨nf, cf, rfl, hn, hc⟩ := hr
  have hn := hn.under hw
  have hc := hc.under hw
  by_cases h1 : op = 1
  · subst h1
    exact (row_1 _ _ w hn hc).mono fun e w' h => .inl ⟨_, _, _, _, fits_1 made, h⟩
  by_cases h2 : op = 2
  · subst h2
    exact (row_2 _ _ w hn hc).mono fun e w' h => .inl ⟨_, _, _, _, fits_2 made, h⟩
  by_cases h3 : op = 3
  · subst h3
    exact (row_3 _ _ w hn hc).mono fun e w' h => .inl ⟨_, _, _, _, fits_3 made, h⟩
  by_cases h4 : op = 4
  · subst h4
    exact (row_4 _ _ w hn hc).mono fun e w' h => .inl ⟨_, _, _, _, fits_4 made, h⟩
  by_cases h5 : op = 5
  · subst h5
    exact (row_5 _ _ w hn hc).mono fun e w' h => .inl ⟨_, _, _, _, fits_5 made, h⟩
  by_cases h6 : op = 6
  · subst h6
    exact (row_6 _ _ w hn hc).mono fun e w' h => .inl ⟨_, _, _, _, fits_6 made, h⟩
  by_cases h7 : op = 7
  · subst h7
    exact (row_7 _ _ w hn hc).mono fun e w' h => .inl ⟨_, _, _, _, fits_7 made, h⟩
  by_cases h8 : op = 8
  · subst h8
    exact (row_8 _ _ w hn hc).mono fun e w' h => .inl ⟨_, _, _, _, fits_8 made, h⟩
  by_cases h9 : op = 9
  · subst h9
    exact (row_9 _ _ w hn hc).mono fun e w' h => .inl ⟨_, _, _, _, fits_9 made, h⟩
  by_cases h10 : op = 10
  · subst h10
    exact (row_10 _ _ w hn hc).mono fun e w' h => .inl ⟨_, _, _, _, fits_10 made, h⟩
  by_cases h11 : op = 11
  · subst h11
    exact (row_11 _ _ w hn hc).mono fun e w' h => .inl ⟨_, _, _, _, fits_11 made, h⟩
  by_cases h12 : op = 12
  · subst h12
    exact (row_12 _ _ w hn hc).mono fun e w' h => .inl ⟨_, _, _, _, fits_12 made, h⟩
  by_cases h13 : op = 13
  · subst h13
    exact (row_13 _ _ w hn hc).mono fun e w' h => .inl ⟨_, _, _, _, fits_13 made, h⟩
  by_cases h14 : op = 14
  · subst h14
    exact (row_14 _ _ w hn hc).mono fun e w' h => .inl ⟨_, _, _, _, fits_14 made, h⟩
  by_cases h15 : op = 15
  · subst h15
    exact (row_15 _ _ w hn hc).mono fun e w' h => .inl ⟨_, _, _, _, fits_15 made, h⟩
  obtain ⟨gn, cn, rfl, _⟩ := hn
  obtain ⟨gc, cc, rfl, _⟩ := hc
  refine (row_none _ _ op w h1 h2 h3 h4 h5 h6 h7 h8 h9 h10 h11 h12 h13 h14 h15).mono fun e w' h => .inr ⟨h.1, h.2, fun nm n cs ks => ?_⟩
  simp only [shapeM, h1, h2, h3, h4, h5, h6, h7, h8, h9, h10, h11, h12, h13, h14, h15, if_false]
set_option maxHeartbeats 2000000 in
theorem shape_any {w0 : World} {v0 v1 v2 v3 : Value} {P0 P1 P2 P3 : Ex → Bool} {x : Ex} {L : List Value} (h0 : ExFn w0 v0 P0) (h1 : ExFn w0 v1 P1) (h2 : ExFn w0 v2 P2) (h3 : ExFn w0 v3 P3) (hL : ExAt w0 L x) :
    ∀ w, Below w0.heap.size w0 w → Calls Tryz.prog 138 #[.agg #[v0, v1, v2, v3], .agg L.toArray] w (BoolPost (P0 x && (P1 x && (P2 x && P3 x))) w) := by
    intro w hw
    obtain ⟨g0, c0, rfl, e0, h0⟩ := h0
    obtain ⟨g1, c1, rfl, e1, h1⟩ := h1
    obtain ⟨g2, c2, rfl, e2, h2⟩ := h2
    obtain ⟨g3, c3, rfl, e3, h3⟩ := h3
    have e0 : ∀ (args : Array Value) (W : World), (callFunc g0 args).run Tryz.prog W = .ok (.enter g0 args) W := e0
    have e1 : ∀ (args : Array Value) (W : World), (callFunc g1 args).run Tryz.prog W = .ok (.enter g1 args) W := e1
    have e2 : ∀ (args : Array Value) (W : World), (callFunc g2 args).run Tryz.prog W = .ok (.enter g2 args) W := e2
    have e3 : ∀ (args : Array Value) (W : World), (callFunc g3 args).run Tryz.prog W = .ok (.enter g3 args) W := e3
    have H0 := Lib.hid (fun w hw => h0 x L w hw (hL.under hw))
    have H1 := Lib.hid (fun w hw => h1 x L w hw (hL.under hw))
    have H2 := Lib.hid (fun w hw => h2 x L w hw (hL.under hw))
    have H3 := Lib.hid (fun w hw => h3 x L w hw (hL.under hw))
    obtain ⟨o1, s1, n1, A1, m1, k1, A2, m2, k2, rfl⟩ := hL.shape
    have HW := Lib.hid hw
    have hsz := hw.size
    clear hw h0 h1 h2 h3 hL
    go_enter Tryz.func138, Tryz.ntmps138
    go_wp2_with (first | (go_at_fn g0; (refine (H0.out _ ?hB).mono ?_); (case hB => exact (HW.out.alloc (by omega) _).alloc (by simp; omega) _); rintro e w1 ⟨rfl, hb1⟩; have hs1 := hb1.size; simp at hs1; have HB1 := Lib.hid (((HW.out.alloc (by omega) _).alloc (by simp; omega) _).trans (hb1.mono (by simp; omega))); have HC1 := Lib.hid ((((Below.refl _ _).alloc (Nat.le_refl _) _).alloc (by simp) _).trans (hb1.mono (by simp; omega))); have ba1 := box_a hb1; have bb1 := box_b hb1; obtain ⟨x1_0, x1_1, x1_2, x1_3⟩ := row4c ba1; obtain ⟨y1_0, y1_1, y1_2, y1_3, y1_4⟩ := row5 bb1; have BA1 := Lib.hid ba1; have BB1 := Lib.hid bb1; clear ba1 bb1; clear hb1) | (go_at_fn g1; (refine (H1.out _ ?hB).mono ?_); (case hB => exact HB1.out); rintro e w2 ⟨rfl, hb2⟩; have hs2 := hb2.size; have HB2 := Lib.hid ((HB1.out).trans (hb2.mono (by omega))); have HC2 := Lib.hid ((HC1.out).trans (hb2.mono (by omega))); have ba2 := box_next hb2 BA1.out; have bb2 := box_next hb2 BB1.out; obtain ⟨x2_0, x2_1, x2_2, x2_3⟩ := row4c ba2; obtain ⟨y2_0, y2_1, y2_2, y2_3, y2_4⟩ := row5 bb2; have BA2 := Lib.hid ba2; have BB2 := Lib.hid bb2; clear ba2 bb2; clear hb2) | (go_at_fn g2; (refine (H2.out _ ?hB).mono ?_); (case hB => exact HB2.out); rintro e w3 ⟨rfl, hb3⟩; have hs3 := hb3.size; have HB3 := Lib.hid ((HB2.out).trans (hb3.mono (by omega))); have HC3 := Lib.hid ((HC2.out).trans (hb3.mono (by omega))); have ba3 := box_next hb3 BA2.out; have bb3 := box_next hb3 BB2.out; obtain ⟨x3_0, x3_1, x3_2, x3_3⟩ := row4c ba3; obtain ⟨y3_0, y3_1, y3_2, y3_3, y3_4⟩ := row5 bb3; have BA3 := Lib.hid ba3; have BB3 := Lib.hid bb3; clear ba3 bb3; clear hb3) | (go_at_fn g3; (refine (H3.out _ ?hB).mono ?_); (case hB => exact HB3.out); rintro e w4 ⟨rfl, hb4⟩; have hs4 := hb4.size; have HB4 := Lib.hid ((HB3.out).trans (hb4.mono (by omega))); have HC4 := Lib.hid ((HC3.out).trans (hb4.mono (by omega))); clear hb4))
    all_goals go_ret
    all_goals refine ⟨ret_bool ?_, ?_⟩
    all_goals first | exact HC4.out | exact HC3.out | exact HC2.out | exact HC1.out | exact ((Below.refl _ _).alloc (Nat.le_refl _) _).alloc (by simp) _ | skip
    all_goals simp_all
set_option maxHeartbeats 2000000 in
theorem expr_any {made : Bool} {rv : Value} {w0 : World} (hr : RulesAt w0 made rv) : ∀ (x : Ex) (L : List Value), ExAt w0 L x → ∀ w, Below w0.heap.size w0 w → Calls Tryz.prog 127 #[rv, .agg L.toArray] w (BoolPost (rightX made x) w) := by
  intro x
  induction x using Ex.ind with
  | h op nm n cs ks ih =>
    intro L hL w hw
    obtain ⟨cv, kv, rfl, hop, hnm, hn, hcs, hks⟩ := hL.open_
    have HR := Lib.hid (fun w hw => row_any hr hw op (w := w))
    have HS := Lib.hid (fun w (hw : Below w0.heap.size w0 w) => hL.under hw)
    have hA0 := fun w hw => bool_as (allM_eq _ 0 9223372036854775807 0 9223372036854775807 rfl rfl) (all_Expr (lo := 0) (hi := 9223372036854775807) (f := rightX made) (rv := rv) hks (fun y hy L hx => ih y hy L hx) w hw)
    have hle : ks.length ≤ 9223372036854775807 := by obtain ⟨_, _, _, h1, h2, _⟩ := hks; unfold maxLen at h2; omega
    have hA := Lib.hid (fun w hw => bool_as (show allM ks 0 9223372036854775807 (rightX made) = rightXs made ks by rw [rightXs_all, allM]; simp [hle]) (hA0 w hw))
    have HN := Lib.hid hn
    obtain ⟨nf, cf, rfl, ⟨gn, cn, rfl, _⟩, ⟨gc, cc, rfl, _⟩⟩ := hr
    obtain ⟨A1, n1, k1, rfl⟩ := SliceAt.shape hcs
    obtain ⟨A2, n2, k2, rfl⟩ := SliceAt.shape hks
    have HW := Lib.hid hw
    have hsz := hw.size
    generalize ((itemsM made : Nat) : Int) = NI at *
    generalize ((enumsM made : Nat) : Int) = NE at *
    clear hw hcs hks hL ih hA0 hn hop hnm hle
    go_enter Tryz.func127, Tryz.ntmps127
    go_wp2_with (first | (go_at_call 137; refine (HR.out _ ((HW.out.alloc (by omega) _).alloc (by simp; omega) _)).mono ?_; intro e w1 hrow; rcases hrow with ⟨P0, P1, P2, P3, hfit, v0, v1, v2, v3, rfl, hb1, f0, f1, f2, f3⟩ | ⟨rfl, hb1, hno⟩ <;> (have hs1 := hb1.size; simp at hs1; have hlt0 : w.heap.size < w1.heap.size := (by omega); have hlt1 : w.heap.size + 1 < w1.heap.size := (by omega); have hne0 : w.heap.size ≠ w1.heap.size := (by omega); have hne1 : w.heap.size + 1 ≠ w1.heap.size := (by omega); have HB1 := Lib.hid (((HW.out.alloc (by omega) _).alloc (by simp; omega) _).trans (hb1.mono (by simp; omega))); have HC1 := Lib.hid ((((Below.refl _ _).alloc (Nat.le_refl _) _).alloc (by simp) _).trans (hb1.mono (by simp; omega))); have ba1 := box_a hb1; have bb1 := box_b hb1; obtain ⟨x1_0, x1_1, x1_2, x1_3⟩ := row4c ba1; obtain ⟨y1_0, y1_1, y1_2, y1_3, y1_4⟩ := row5 bb1; have BA1 := Lib.hid ba1; have BB1 := Lib.hid bb1; clear ba1 bb1 hb1) <;> first | (have HFT := Lib.hid (fun w' hw' => bool_as (hfit nm n cs ks HN.out) (shape_any f0 f1 f2 f3 (HS.out w1 HB1.out) w' hw')); obtain ⟨g0, c0, rfl, _⟩ := f0; obtain ⟨g1, c1, rfl, _⟩ := f1; obtain ⟨g2, c2, rfl, _⟩ := f2; obtain ⟨g3, c3, rfl, _⟩ := f3; clear hfit) | (have hno1 := hno nm n cs ks; clear hno)) | (go_at_call 138; refine (HFT.out _ ((Below.refl _ _).alloc (Nat.le_refl _) _)).mono ?_; rintro e w2 ⟨rfl, hb2⟩; have hs2 := hb2.size; simp at hs2; have HB2 := Lib.hid ((HB1.out.alloc (by omega) _).trans (hb2.mono (by simp; omega))); have HC2 := Lib.hid ((HC1.out.alloc (by omega) _).trans (hb2.mono (by simp; omega))); have ba2 := (hb2.block _ (by simp; omega)).trans ((Below.heap_alloc w1 _ _ (lt_of_heap BA1.out)).trans BA1.out); have bb2 := (hb2.block _ (by simp; omega)).trans ((Below.heap_alloc w1 _ _ (lt_of_heap BB1.out)).trans BB1.out); obtain ⟨x2_0, x2_1, x2_2, x2_3⟩ := row4c ba2; obtain ⟨y2_0, y2_1, y2_2, y2_3, y2_4⟩ := row5 bb2; clear ba2 bb2 hb2) | (go_at_call 139; refine (hA.out _ HB2.out).mono ?_; rintro e w3 ⟨rfl, hb3⟩; have HC3 := Lib.hid (HC2.out.trans (hb3.mono (by omega))); clear hb3))
    all_goals go_ret
    all_goals refine ⟨ret_bool ?_, ?_⟩
    all_goals first | exact HC3.out | exact HC2.out | exact HC1.out.alloc (by omega) _ | skip
    all_goals simp_all [rightX]
end Go.Proofs.YtbpbnebcbjacdaaGreat
