/-
  Texts joined.
-/
import Derived.WalkLawsBesides
import Derived.Test.YtlhmdjhfmhkllaaGreatDoorKb03
import Derived.Test.YtlhmdjhfmhkllaaGreatDoorKb19
namespace Go.Proofs.YtlhmdjhfmhkllaaGreatDoor
open Go.RowKit
/-- a token's cells -/
def TokCell (L : List Value) (t : Tok) : Prop := L = t.cells ∧ t.text.length ≤ maxLen ∧ i64B t.num
/-- the parser's block -/
def PRow (w : World) (N : Nat) (A : Option Addr) (n c o : Nat) : Prop := w.heap[N]? = some (.cells #[.slice A n c, .int .i64 o] 91 (0, 0))
/-- the parser stands ahead of these tokens, which lie in block G; so many unary are open -/
def PState (w : World) (N G : Nat) (ts : List Tok) (o : Nat) : Prop := (ts.length ≤ 1048576 ∧ o ≤ 100) ∧ G ≠ N ∧ G < w.heap.size ∧ ∃ a c, a.block = G ∧ PRow w N (some a) ts.length c o ∧ SliceAt w TokCell (.slice (some a) ts.length c) ts
theorem PRow.lt {w : World} {N : Nat} {A : Option Addr} {n c o : Nat} (h : PRow w N A n c o) : N < w.heap.size := lt_of_heap h
section
variable {w w' : World} {N G o : Nat} {t : Tok} {ts r : List Tok}
theorem PState.lt (h : PState w N G ts o) : N < w.heap.size := by obtain ⟨_, _, _, a, c, _, h, _⟩ := h; exact h.lt
theorem PState.same (h : PState w N G ts o) (hs : w.heap.size ≤ w'.heap.size) (h1 : w'.heap[N]? = w.heap[N]?) (h2 : w'.heap[G]? = w.heap[G]?) : PState w' N G ts o := by
  obtain ⟨hl, hne, hlt, a, c, ha, h3, h4⟩ := h; refine ⟨hl, hne, Nat.lt_of_lt_of_le hlt hs, a, c, ha, h1.trans h3, ?_⟩; obtain ⟨A', c', e, hc, hm, he⟩ := h4; injection e with e1 _ e3; subst e1 e3; refine ⟨_, _, rfl, hc, hm, fun i x hx => ?_⟩; obtain ⟨L, ⟨a', ea, hL⟩, hT⟩ := he i x hx; cases ea; refine ⟨L, ⟨_, rfl, fun j u hu => ?_⟩, hT⟩; have hb : ((a.add (i * L.length)).add j).block = G := (by rw [add_block, add_block, ha]); rw [World.cell?_of_block (w := w) (w' := w') (by rw [hb]; exact h2)]; exact hL j u hu
theorem PState.under (h : PState w N G ts o) (hb : Below w.heap.size w w') : PState w' N G ts o := h.same hb.size (hb.block N h.lt) (hb.block G h.2.2.1)
theorem PState.set (h : PState w N G ts o) {a : Addr} (h1 : a.block ≠ N) (h2 : a.block ≠ G) (u : Value) : PState (w.setCell a u) N G ts o :=
  h.same ((Below.refl 0 w).setCell (p := a) (Nat.zero_le _) u).size (Below.heap_setCell _ _ _ _ (fun e => h1 e.symm)) (Below.heap_setCell _ _ _ _ (fun e => h2 e.symm))
theorem PState.head (h : PState w N G (t :: r) o) : ∃ a c, PRow w N (some a) (r.length + 1) c o ∧ a.block = G ∧ a.block < w.heap.size ∧
    w.cell? a = some (.int .i64 t.sort) ∧ w.cell? { block := a.block, off := a.off + 1 } = some (.string (str t.text)) ∧ w.cell? { block := a.block, off := a.off + 2 } = some (.int .i64 t.num) ∧ w.cell? { block := a.block, off := a.off + 3 } = some (.int .i64 t.line) ∧ w.cell? { block := a.block, off := a.off + 4 } = some (.int .i64 t.col) ∧
    r.length + 1 ≤ c ∧ c ≤ maxLen ∧ t.text.length ≤ maxLen ∧ i64B t.num := by
  obtain ⟨hl, hne, hlt, a, c, ha, h1, h2⟩ := h; obtain ⟨A', c', e, hc, hm, he⟩ := h2; injection e with e1 _ e3; subst e1 e3; obtain ⟨L, hE, rfl, ht, hn⟩ := he 0 t rfl; obtain ⟨a', ea, h3, _, d0, d1, d2, d3, d4⟩ := elem5 hE; cases ea; rw [Nat.zero_mul, add_zero] at d0 d1 d2 d3 d4; exact ⟨a, c, h1, ha, h3, d0, d1, d2, d3, d4, hc, hm, ht, hn⟩
theorem addr_sum (a : Addr) (i j : Nat) : (a.add i).add j = a.add (i + j) := add_add a i j
/-- a token is passed -/
theorem PState.moved {o' : Nat} (h : PState w N G (t :: r) o) {a : Addr} {c : Nat} (hr : PRow w N (some a) (r.length + 1) c o) (hk : KeptN N w w') (hrow : PRow w' N (some (a.add 5)) r.length (c - 1) o') (ho : o' ≤ 100) : PState w' N G r o' := by
  obtain ⟨hl, hne, hlt, a', c', ha, h1, h2⟩ := h; have e := h1.symm.trans hr; injection e with e; injection e with e _; have e1 : (.slice (some a') (t :: r).length c' : Value) = .slice (some a) (r.length + 1) c := by
    have := congrArg (fun x : Array Value => x[0]?) e; simpa using this
  injection e1 with e1 _ e3; cases e1; subst e3; have hG : w'.heap[G]? = w.heap[G]? := hk.block G hlt hne; refine ⟨⟨by simp only [List.length_cons] at hl; omega, ho⟩, hne, Nat.lt_of_lt_of_le hlt hk.size, _, _, by rw [add_block]; exact ha, hrow, ?_⟩; obtain ⟨A', c'', e, hc, hm, he⟩ := h2; injection e with e1 _ e3; subst e1 e3; refine ⟨_, _, rfl, by simp only [List.length_cons] at hc; omega, by omega, fun i x hx => ?_⟩; obtain ⟨L, ⟨a', ea, hL⟩, hT⟩ := he (i + 1) x (by simpa using hx); cases ea; refine ⟨L, ⟨_, rfl, fun j u hu => ?_⟩, hT⟩; have h3 := hL j u hu; have h4 : (a.add ((i + 1) * L.length)) = (a.add 5).add (i * L.length) := by
    rw [addr_sum]; obtain ⟨rfl, _⟩ := hT; congr 1
    simp [Tok.cells]; omega
  rw [h4] at h3; have hb : (((a.add 5).add (i * L.length)).add j).block = G := (by rw [add_block, add_block, add_block, ha]); rw [World.cell?_of_block (w := w) (w' := w') (by rw [hb]; exact hG)]; exact h3
end
theorem add5 (a : Addr) : ({ block := a.block, off := a.off + 5 } : Addr) = a.add 5 := by simp [Addr.add]
theorem tokres_info : (Tryz.prog.info? 64).map (·.size) = some 5 := by kernel_rfl
set_option maxRecDepth 100000 in
theorem next_results {tmps : Array Value} {w : World} {N : Nat} {x0 x1 x2 x3 x4 : Value} (hp : tmps.getD 2 undef = .pointer (some ⟨N, 0, none⟩)) (hg : w.heap[N]? = some (.cells #[x0, x1, x2, x3, x4] 64 (0, 0))) :
    (results Tryz.f40 tmps).run Tryz.prog w = .ok (.agg #[x0, x1, x2, x3, x4]) w :=
  results_cell_row Tryz.results40 tmps w N 64 _ (0, 0) _ hp hg Tryz.underlying64 rfl tokres_info
/-- what the calls leave -/
def NextPost (t : Tok) (w : World) (e : Ending) (w' : World) : Prop := e = .returned (.agg t.cells.toArray) ∧ Below w.heap.size w w'
set_option maxHeartbeats 1000000 in
theorem next_any {w : World} {N G : Nat} {t : Tok} {r : List Tok} {o : Nat} (h : PState w N G (t :: r) o) : Calls Tryz.prog 40 #[.pointer (some ⟨N, 0, none⟩)] w (NextPost t w) := by
  obtain ⟨a, c, hrow, hG, hlt, d0, d1, d2, d3, d4, hc, hm, _, _⟩ := h.head; clear hG; obtain ⟨p0, p1⟩ := row2 hrow; have hN := hrow.lt; clear h hrow; go_enter Tryz.func40, Tryz.ntmps40
  go_wp2_with fail
  exact bodyPost_ret (next_results rfl (heap_alloc_new w _)) rfl ⟨rfl, (Below.refl _ w).alloc (Nat.le_refl _) _⟩
theorem set_row3 {w : World} {N : Nat} {T0 : TypeId} {a b c : Value} (x y z : Value) (h : w.heap[N]? = some (.cells #[a, b, c] T0 (0, 0))) : (((w.setCell ⟨N, 0, none⟩ x).setCell ⟨N, 1, none⟩ y).setCell ⟨N, 2, none⟩ z).heap[N]? = some (.cells #[x, y, z] T0 (0, 0)) := by
  have h1 := heap_setCell_same w N 0 _ _ x h; have h2 := heap_setCell_same _ N 1 _ _ y h1; have h3 := heap_setCell_same _ N 2 _ _ z h2; simpa using h3
theorem set_row5 {w : World} {N : Nat} {T0 : TypeId} {a b c d e : Value} (x y z u v : Value) (h : w.heap[N]? = some (.cells #[a, b, c, d, e] T0 (0, 0))) : (((((w.setCell ⟨N, 0, none⟩ x).setCell ⟨N, 1, none⟩ y).setCell ⟨N, 2, none⟩ z).setCell ⟨N, 3, none⟩ u).setCell ⟨N, 4, none⟩ v).heap[N]? = some (.cells #[x, y, z, u, v] T0 (0, 0)) := by
  have h1 := heap_setCell_same w N 0 _ _ x h; have h2 := heap_setCell_same _ N 1 _ _ y h1; have h3 := heap_setCell_same _ N 2 _ _ z h2; have h4 := heap_setCell_same _ N 3 _ _ u h3; have h5 := heap_setCell_same _ N 4 _ _ v h4; simpa using h5
theorem row_frozen {w : World} {N : Nat} {cs : Array Value} {T0 : TypeId} (h : w.heap[N]? = some (.cells cs T0 (0, 0))) (j : Nat) : w.frozen? ⟨N, j, none⟩ = false := by simp [World.frozen?, h]
theorem below_set3 {B : Nat} {a w : World} {N : Nat} (h : Below B a w) (hN : B ≤ N) (x y z : Value) : Below B a (((w.setCell ⟨N, 0, none⟩ x).setCell ⟨N, 1, none⟩ y).setCell ⟨N, 2, none⟩ z) := ((h.setCell hN x).setCell hN y).setCell hN z
theorem tok_f0 (a n l c : Int) (s : ByteArray) (w : World) : (Instr.field 64 (.agg #[.int .i64 a, .string s, .int .i64 n, .int .i64 l, .int .i64 c]) 0).run Tryz.prog w = .ok (.int .i64 a) w := by kernel_rfl
theorem tok_f1 (a n l c : Int) (s : ByteArray) (w : World) : (Instr.field 64 (.agg #[.int .i64 a, .string s, .int .i64 n, .int .i64 l, .int .i64 c]) 1).run Tryz.prog w = .ok (.string s) w := by kernel_rfl
theorem tok_f2 (a n l c : Int) (s : ByteArray) (w : World) : (Instr.field 64 (.agg #[.int .i64 a, .string s, .int .i64 n, .int .i64 l, .int .i64 c]) 2).run Tryz.prog w = .ok (.int .i64 n) w := by kernel_rfl
theorem tok_f3 (a n l c : Int) (s : ByteArray) (w : World) : (Instr.field 64 (.agg #[.int .i64 a, .string s, .int .i64 n, .int .i64 l, .int .i64 c]) 3).run Tryz.prog w = .ok (.int .i64 l) w := by kernel_rfl
theorem tok_f4 (a n l c : Int) (s : ByteArray) (w : World) : (Instr.field 64 (.agg #[.int .i64 a, .string s, .int .i64 n, .int .i64 l, .int .i64 c]) 4).run Tryz.prog w = .ok (.int .i64 c) w := by kernel_rfl
theorem faultres_info : (Tryz.prog.info? 29).map (·.size) = some 3 := by kernel_rfl
set_option maxRecDepth 100000 in
theorem pfault_results {tmps : Array Value} {w : World} {N : Nat} {x0 x1 x2 : Value} (hp : tmps.getD 4 undef = .pointer (some ⟨N, 0, none⟩)) (hg : w.heap[N]? = some (.cells #[x0, x1, x2] 29 (0, 0))) :
    (results Tryz.f41 tmps).run Tryz.prog w = .ok (.agg #[x0, x1, x2]) w :=
  results_cell_row Tryz.results41 tmps w N 29 _ (0, 0) _ hp hg Tryz.underlying29 rfl faultres_info
def FltPost (f : Flt) (w : World) (e : Ending) (w' : World) : Prop := e = .returned (.agg #[.int .i64 f.1, .int .i64 f.2.1, .int .i64 f.2.2]) ∧ Below w.heap.size w w'
set_option maxHeartbeats 1000000 in
theorem pfault_any {w : World} {N G : Nat} {t : Tok} {r : List Tok} {o : Nat} (h : PState w N G (t :: r) o) (x : Int) : Calls Tryz.prog 41 #[.pointer (some ⟨N, 0, none⟩), .int .i64 x] w (FltPost (faultT x t) w) := by
  have HP := Lib.hid h; have f3 := tok_f3; have f4 := tok_f4; have HA := Lib.hid ((Below.refl w.heap.size w).alloc (Nat.le_refl _) (.cells #[.int .i64 0, .int .i64 0, .int .i64 0] 29)); have BF := Lib.hid (heap_alloc_new w (.cells #[.int .i64 0, .int .i64 0, .int .i64 0] 29)); obtain ⟨k, s, n, l, c⟩ := t; clear h; go_enter Tryz.func41, Tryz.ntmps41
  go_wp2_with (first
    | (go_at_call 40; (with_reducible refine (next_any (HP.out.under HA.out)).mono ?_); rintro e w7 ⟨rfl, hb7⟩; obtain ⟨V, rfl⟩ : ∃ W, W = w7 := ⟨_, rfl⟩; have HV := Lib.hid (HA.out.trans (hb7.mono HA.out.size)); have BF1 := Lib.hid (box_next hb7 BF.out); simp only [Tok.cells]; clear hb7)
    | (go_at_call 40; (with_reducible refine (next_any (HP.out.under HV.out)).mono ?_); rintro e w8 ⟨rfl, hb8⟩; obtain ⟨V2, rfl⟩ : ∃ W, W = w8 := ⟨_, rfl⟩; have HV2 := Lib.hid (HV.out.trans (hb8.mono HV.out.size)); have BF2 := Lib.hid (box_next hb8 BF1.out); obtain ⟨q0, q1, q2⟩ := row3 BF2.out; have g0 := row_frozen BF2.out 0; have g1 := row_frozen BF2.out 1; have g2 := row_frozen BF2.out 2; simp only [Tok.cells]; clear hb8))
  exact bodyPost_ret (pfault_results rfl (set_row3 _ _ _ BF2.out)) rfl ⟨rfl, below_set3 HV2.out (Nat.le_refl _) _ _ _⟩
def TakePost (N G : Nat) (t : Tok) (r : List Tok) (o : Nat) (w : World) (e : Ending) (w' : World) : Prop := e = .returned (.agg t.cells.toArray) ∧ PState w' N G r o ∧ KeptN N w w'
set_option maxRecDepth 100000 in
theorem take_results {tmps : Array Value} {w : World} {N : Nat} {x0 x1 x2 x3 x4 : Value} (hp : tmps.getD 2 undef = .pointer (some ⟨N, 0, none⟩)) (hg : w.heap[N]? = some (.cells #[x0, x1, x2, x3, x4] 64 (0, 0))) :
    (results Tryz.f113 tmps).run Tryz.prog w = .ok (.agg #[x0, x1, x2, x3, x4]) w :=
  results_cell_row Tryz.results113 tmps w N 64 _ (0, 0) _ hp hg Tryz.underlying64 rfl tokres_info
set_option maxHeartbeats 1000000 in
theorem take_any {w : World} {N G : Nat} {t : Tok} {r : List Tok} {o : Nat} (h : PState w N G (t :: r) o) (hr : r ≠ []) : Calls Tryz.prog 113 #[.pointer (some ⟨N, 0, none⟩)] w (TakePost N G t r o w) := by
  have HP := Lib.hid h; have HA := Lib.hid ((Below.refl w.heap.size w).alloc (Nat.le_refl _) (.cells #[.int .i64 0, .string ⟨#[]⟩, .int .i64 0, .int .i64 0, .int .i64 0] 64)); have BF := Lib.hid (heap_alloc_new w (.cells #[.int .i64 0, .string ⟨#[]⟩, .int .i64 0, .int .i64 0, .int .i64 0] 64)); have hN0 := h.lt; have hr1 := List.length_pos_iff.2 hr; clear h hr; go_enter Tryz.func113, Tryz.ntmps113
  go_wp2_with (go_at_call 40
               (with_reducible refine (next_any (HP.out.under HA.out)).mono ?_); rintro e w7 ⟨rfl, hb7⟩; obtain ⟨V, rfl⟩ : ∃ W, W = w7 := ⟨_, rfl⟩; have HV := Lib.hid (HA.out.trans (hb7.mono HA.out.size)); have BF1 := Lib.hid (box_next hb7 BF.out); obtain ⟨a, c, hrow, hG, _, _, _, _, _, _, hc, hm, _, _⟩ := (HP.out.under HV.out).head; clear hG; have HROW := Lib.hid hrow; obtain ⟨p0, p1⟩ := row2 hrow; have hN := hrow.lt; have hc1 : ¬ c = 1 := (by omega); have BZ := Lib.hid (show ((V.setCell ⟨N, 0, none⟩ (.slice (some { block := a.block, off := a.off + 5 }) r.length (c - 1))).alloc (.cells #[.int .i64 t.sort, .string (str t.text), .int .i64 t.num, .int .i64 t.line, .int .i64 t.col] 64)).heap[w.heap.size]? = some (.cells #[.int .i64 0, .string ⟨#[]⟩, .int .i64 0, .int .i64 0, .int .i64 0] 64 (0, 0)) from alloc_below ((Below.heap_setCell _ _ _ _ (by simp; omega)).trans BF1.out)); obtain ⟨q0, q1, q2, q3, q4⟩ := row5 BZ.out; have g0 := row_frozen BZ.out 0; have g1 := row_frozen BZ.out 1; have g2 := row_frozen BZ.out 2; have g3 := row_frozen BZ.out 3; have g4 := row_frozen BZ.out 4; have hz := row_frozen hrow 0; simp only [Tok.cells]; clear hb7 hrow)
  have hr0 := (HV.out.block N hN0).symm.trans HROW.out; have K1 := (((((((KeptN.of_below (N := N) HV.out).setCell (a := ⟨N, 0, none⟩) rfl (.slice (some { block := a.block, off := a.off + 5 }) r.length (c - 1))).alloc (.cells #[.int .i64 t.sort, .string (str t.text), .int .i64 t.num, .int .i64 t.line, .int .i64 t.col] 64)).setNew (a := ⟨w.heap.size, 0, none⟩) (Nat.le_refl _) (.int .i64 t.sort)).setNew (a := ⟨w.heap.size, 1, none⟩) (Nat.le_refl _) (.string (str t.text))).setNew (a := ⟨w.heap.size, 2, none⟩) (Nat.le_refl _) (.int .i64 t.num)).setNew (a := ⟨w.heap.size, 3, none⟩) (Nat.le_refl _) (.int .i64 t.line)).setNew (a := ⟨w.heap.size, 4, none⟩) (Nat.le_refl _) (.int .i64 t.col); have R1 := heap_setCell_same V N 0 _ _ (.slice (some { block := a.block, off := a.off + 5 }) r.length (c - 1)) HROW.out; refine bodyPost_ret (take_results rfl (set_row5 _ _ _ _ _ BZ.out)) rfl ⟨rfl, HP.out.moved hr0 K1 ?_ HP.out.1.2, K1⟩; have hne : N ≠ w.heap.size := (by omega); unfold PRow; rw [Below.heap_setCell _ _ _ _ hne, Below.heap_setCell _ _ _ _ hne, Below.heap_setCell _ _ _ _ hne, Below.heap_setCell _ _ _ _ hne, Below.heap_setCell _ _ _ _ hne, ← add5]; exact alloc_below (by simpa using R1)
set_option maxHeartbeats 1000000 in
theorem at_any {w : World} {N G : Nat} {t : Tok} {r : List Tok} {o : Nat} (h : PState w N G (t :: r) o) (s : Tx) : Calls Tryz.prog 134 #[.pointer (some ⟨N, 0, none⟩), .string (str s)] w (BoolPost (decide (t.text = s)) w) := by
  have H := Lib.hid (next_any h); have f1 := tok_f1; clear h; by_cases hs : t.text = s
  · have HN := Lib.hid (show decide (t.text = s) = true from decide_eq_true hs); have hb : ((str t.text).toList == (str s).toList) = true := (by rw [hs]; simp); clear hs; go_enter Tryz.func134, Tryz.ntmps134
    go_wp2_with (go_at_call 40
                 (with_reducible refine H.out.mono ?_); rintro e w7 ⟨rfl, hb7⟩; have HB := Lib.hid hb7; simp only [Tok.cells]; clear hb7)
    go_ret; exact ⟨ret_bool HN.out.symm, HB.out⟩
  · have HN := Lib.hid (show decide (t.text = s) = false from decide_eq_false hs); have hb : ((str t.text).toList == (str s).toList) = false := (by rw [str_toL, str_toL]; simpa using hs); clear hs; go_enter Tryz.func134, Tryz.ntmps134
    go_wp2_with (go_at_call 40
                 (with_reducible refine H.out.mono ?_); rintro e w7 ⟨rfl, hb7⟩; have HB := Lib.hid hb7; simp only [Tok.cells]; clear hb7)
    go_ret; exact ⟨ret_bool HN.out.symm, HB.out⟩
def SkipPost (N G : Nat) (r : List Tok) (o : Nat) (w : World) (e : Ending) (w' : World) : Prop := e = .returned (.bool true) ∧ PState w' N G r o ∧ KeptN N w w'
set_option maxHeartbeats 1000000 in
theorem skip_no {w : World} {N G : Nat} {t : Tok} {r : List Tok} {o : Nat} (h : PState w N G (t :: r) o) {s : Tx} (hs : t.text ≠ s) : Calls Tryz.prog 132 #[.pointer (some ⟨N, 0, none⟩), .string (str s)] w (BoolPost false w) := by
  have H := Lib.hid (at_any h s); rw [decide_eq_false hs] at H; clear h hs; go_enter Tryz.func132, Tryz.ntmps132
  go_wp2_with (go_at_call 134
               (with_reducible refine H.out.mono ?_); rintro e w7 ⟨rfl, hb7⟩; have HB := Lib.hid hb7; clear hb7)
  go_ret; exact ⟨rfl, HB.out⟩
set_option maxHeartbeats 1000000 in
theorem skip_yes {w : World} {N G : Nat} {t : Tok} {r : List Tok} {o : Nat} (h : PState w N G (t :: r) o) {s : Tx} (hs : t.text = s) (hr : r ≠ []) : Calls Tryz.prog 132 #[.pointer (some ⟨N, 0, none⟩), .string (str s)] w (SkipPost N G r o w) := by
  have H := Lib.hid (at_any h s); rw [decide_eq_true hs] at H; have HP := Lib.hid h; have HR := Lib.hid hr; clear h hs hr; go_enter Tryz.func132, Tryz.ntmps132
  go_wp2_with (first
    | (go_at_call 134; (with_reducible refine H.out.mono ?_); rintro e w7 ⟨rfl, hb7⟩; obtain ⟨V, rfl⟩ : ∃ W, W = w7 := ⟨_, rfl⟩; have HB := Lib.hid hb7; clear hb7)
    | (go_at_call 113; (with_reducible refine (take_any (HP.out.under HB.out) HR.out).mono ?_); rintro e w8 ⟨rfl, hp8, hk8⟩; have HP8 := Lib.hid hp8; have HK8 := Lib.hid ((KeptN.of_below HB.out).trans hk8); clear hp8 hk8))
  go_ret; exact ⟨rfl, HP8.out, HK8.out⟩
/-- what a part leaves: a thing and the parser behind it, or a panic with the fault -/
def PPost {X : Type} (R : World → Value → X → Prop) (N G o : Nat) (q : Out X) (w : World) (e : Ending) (w' : World) : Prop :=
  match q with
  | .ok x ts => ∃ v, e = .returned v ∧ R (newW w.heap.size w') v x ∧ PState w' N G ts o ∧ KeptN N w w'
  | .bad f => e = .panicked [{ v := .iface 29 (.agg #[.int .i64 f.1, .int .i64 f.2.1, .int .i64 f.2.2]), recovered := false }] ∧ KeptN N w w'
def RUnit (_ : World) (v : Value) (_ : Unit) : Prop := v = .tuple #[]
def RStr (_ : World) (v : Value) (x : Tx) : Prop := v = .string (str x) ∧ x.length ≤ maxLen
def RStrs (w : World) (v : Value) (l : List Tx) : Prop := StrsAt w v l
def REx (w : World) (v : Value) (x : Ex) : Prop := ∃ L : List Value, v = .agg L.toArray ∧ ExAt w L x
/-- a part's contract: a method of the parser, or a method's value -/
abbrev PartOk {X : Type} (g : FuncId) (R : World → Value → X → Prop) (P : Nat → List Tok → Pr X) : Prop := ∀ (N G o : Nat) (ts : List Tok) (q : Out X), P o ts = some q → ∀ w, PState w N G ts o → Calls Tryz.prog g #[.pointer (some ⟨N, 0, none⟩)] w (PPost R N G o q w)
set_option maxHeartbeats 1000000 in
theorem want_any (s : Tx) (N G o : Nat) (ts : List Tok) (q : Out Unit) (hq : wantP s ts = some q) (w : World) (h : PState w N G ts o) : Calls Tryz.prog 82 #[.pointer (some ⟨N, 0, none⟩), .string (str s)] w (PPost RUnit N G o q w) := by
  cases ts with
  | nil => cases hq
  | cons t r =>
    have hq : (if t.text = s then (if r = [] then none else some (.ok () r)) else some (.bad (faultT 3 t))) = some q := hq; have HP := Lib.hid h; by_cases hs : t.text = s
    · rw [if_pos hs] at hq; by_cases hr : r = []
      · rw [if_pos hr] at hq; cases hq
      · rw [if_neg hr] at hq; cases hq; have H := Lib.hid (skip_yes h hs hr); clear h hs hr; go_enter Tryz.func82, Tryz.ntmps82
        go_wp2_with (go_at_call 132
                     (with_reducible refine H.out.mono ?_); rintro e w7 ⟨rfl, hp7, hk7⟩; have HP7 := Lib.hid hp7; have HK7 := Lib.hid hk7; clear hp7 hk7)
        go_end0
        exact ⟨_, rfl, rfl, HP7.out, HK7.out⟩
    · rw [if_neg hs] at hq; cases hq; have H := Lib.hid (skip_no h hs); clear h hs; go_enter Tryz.func82, Tryz.ntmps82
      go_wp2_with (first
        | (go_at_call 132; (with_reducible refine H.out.mono ?_); rintro e w7 ⟨rfl, hb7⟩; obtain ⟨V, rfl⟩ : ∃ W, W = w7 := ⟨_, rfl⟩; have HV := Lib.hid hb7; clear hb7)
        | (go_at_call 41; (with_reducible refine (pfault_any (HP.out.under HV.out) 3).mono ?_); rintro e w8 ⟨rfl, hb8⟩; have HB := Lib.hid (HV.out.trans (hb8.mono HV.out.size)); clear hb8))
      exact ⟨rfl, rfl, KeptN.of_below HB.out⟩
set_option maxHeartbeats 1000000 in
theorem text_any (k : Int) (N G o : Nat) (ts : List Tok) (q : Out Tx) (hq : textP k ts = some q) (w : World) (h : PState w N G ts o) : Calls Tryz.prog 133 #[.pointer (some ⟨N, 0, none⟩), .int .i64 k] w (PPost RStr N G o q w) := by
  cases ts with
  | nil => cases hq
  | cons t r =>
    have hq : (if t.sort = k then (if r = [] then none else some (.ok t.text r)) else some (.bad (faultT 3 t))) = some q := hq; have HP := Lib.hid h; have H := Lib.hid (next_any h); have f0 := tok_f0; have f1 := tok_f1; have hN := h.lt; by_cases hs : t.sort = k
    · rw [if_pos hs] at hq; by_cases hr : r = []
      · rw [if_pos hr] at hq; cases hq
      · rw [if_neg hr] at hq; cases hq; have HR := Lib.hid hr; have HTL := Lib.hid (show t.text.length ≤ maxLen by obtain ⟨_, _, _, _, _, _, _, _, _, _, _, _, h1, _⟩ := h.head; exact h1); have hd : (t.sort != k) = false := (by simp [hs]); clear h hs hr; go_enter Tryz.func133, Tryz.ntmps133
        go_wp2_with (first
          | (go_at_call 40; (with_reducible refine H.out.mono ?_); rintro e w7 ⟨rfl, hb7⟩; obtain ⟨V, rfl⟩ : ∃ W, W = w7 := ⟨_, rfl⟩; have HV := Lib.hid hb7; simp only [Tok.cells]; clear hb7)
          | (go_at_call 113; (with_reducible refine (take_any (HP.out.under HV.out) HR.out).mono ?_); rintro e w8 ⟨rfl, hp8, hk8⟩; have HP8 := Lib.hid hp8; have HK8 := Lib.hid ((KeptN.of_below HV.out).trans hk8); simp only [Tok.cells]; clear hp8 hk8))
        go_ret; exact ⟨_, rfl, ⟨rfl, HTL.out⟩, HP8.out, HK8.out⟩
    · rw [if_neg hs] at hq; cases hq; have hd : (t.sort != k) = true := (by simp [hs]); clear h hs; go_enter Tryz.func133, Tryz.ntmps133
      go_wp2_with (first
        | (go_at_call 40; (with_reducible refine H.out.mono ?_); rintro e w7 ⟨rfl, hb7⟩; obtain ⟨V, rfl⟩ : ∃ W, W = w7 := ⟨_, rfl⟩; have HV := Lib.hid hb7; simp only [Tok.cells]; clear hb7)
        | (go_at_call 41; (with_reducible refine (pfault_any (HP.out.under HV.out) 3).mono ?_); rintro e w8 ⟨rfl, hb8⟩; have HB := Lib.hid (HV.out.trans (hb8.mono HV.out.size)); clear hb8))
      exact ⟨rfl, rfl, KeptN.of_below HB.out⟩
theorem name_any : PartOk 83 RStr (fun _ => nameP) := by
  intro N G o ts q hq w h; have H := Lib.hid (text_any 1 N G o ts q hq w h); clear h hq; cases q with
  | bad f =>
    go_enter Tryz.func83, Tryz.ntmps83
    go_wp2_with (go_at_call 133
                 (with_reducible refine H.out.mono ?_); rintro e w7 ⟨rfl, hk7⟩; have HK := Lib.hid hk7; clear hk7)
    exact ⟨rfl, rfl, HK.out⟩
  | ok x r =>
    go_enter Tryz.func83, Tryz.ntmps83
    go_wp2_with (go_at_call 133
                 (with_reducible refine H.out.mono ?_); rintro e w7 ⟨v, rfl, ⟨rfl, hx⟩, hp, hk⟩; have HX := Lib.hid hx; have HP := Lib.hid hp; have HK := Lib.hid hk; clear hx hp hk)
    go_ret; exact ⟨_, rfl, ⟨rfl, HX.out⟩, HP.out, HK.out⟩
theorem con_any : PartOk 85 RStr (fun _ => conP) := by
  intro N G o ts q hq w h; have H := Lib.hid (text_any 2 N G o ts q hq w h); clear h hq; cases q with
  | bad f =>
    go_enter Tryz.func85, Tryz.ntmps85
    go_wp2_with (go_at_call 133
                 (with_reducible refine H.out.mono ?_); rintro e w7 ⟨rfl, hk7⟩; have HK := Lib.hid hk7; clear hk7)
    exact ⟨rfl, rfl, HK.out⟩
  | ok x r =>
    go_enter Tryz.func85, Tryz.ntmps85
    go_wp2_with (go_at_call 133
                 (with_reducible refine H.out.mono ?_); rintro e w7 ⟨v, rfl, ⟨rfl, hx⟩, hp, hk⟩; have HX := Lib.hid hx; have HP := Lib.hid hp; have HK := Lib.hid hk; clear hx hp hk)
    go_ret; exact ⟨_, rfl, ⟨rfl, HX.out⟩, HP.out, HK.out⟩
/- a row of five is set -/
section
variable {w w' : World} {N G o K : Nat} {ts : List Tok}
theorem PState.set5 (h : PState w N G ts o) (h1 : K ≠ N) (h2 : K ≠ G) (x y z u v : Value) : PState (((((w.setCell ⟨K, 0, none⟩ x).setCell ⟨K, 1, none⟩ y).setCell ⟨K, 2, none⟩ z).setCell ⟨K, 3, none⟩ u).setCell ⟨K, 4, none⟩ v) N G ts o :=
  ((((h.set (a := ⟨K, 0, none⟩) h1 h2 x).set (a := ⟨K, 1, none⟩) h1 h2 y).set (a := ⟨K, 2, none⟩) h1 h2 z).set (a := ⟨K, 3, none⟩) h1 h2 u).set (a := ⟨K, 4, none⟩) h1 h2 v
theorem KeptN.set5 (h : KeptN N w w') (hK : w.heap.size ≤ K) (x y z u v : Value) : KeptN N w (((((w'.setCell ⟨K, 0, none⟩ x).setCell ⟨K, 1, none⟩ y).setCell ⟨K, 2, none⟩ z).setCell ⟨K, 3, none⟩ u).setCell ⟨K, 4, none⟩ v) :=
  ((((h.setNew (a := ⟨K, 0, none⟩) hK x).setNew (a := ⟨K, 1, none⟩) hK y).setNew (a := ⟨K, 2, none⟩) hK z).setNew (a := ⟨K, 3, none⟩) hK u).setNew (a := ⟨K, 4, none⟩) hK v
theorem Same.set5 {B : Nat} (h : Same B w w') (hK : K < B ∨ w.heap.size ≤ K) (x y z u v : Value) : Same B w (((((w'.setCell ⟨K, 0, none⟩ x).setCell ⟨K, 1, none⟩ y).setCell ⟨K, 2, none⟩ z).setCell ⟨K, 3, none⟩ u).setCell ⟨K, 4, none⟩ v) :=
  ((((h.set (a := ⟨K, 0, none⟩) hK x).set (a := ⟨K, 1, none⟩) hK y).set (a := ⟨K, 2, none⟩) hK z).set (a := ⟨K, 3, none⟩) hK u).set (a := ⟨K, 4, none⟩) hK v
theorem RStrs.lift {B B' : Nat} {v : Value} {l : List Tx} (h : RStrs (newW B w) v l) (hs : Same B w w') (hB : B' ≤ B) : RStrs (newW B' w') v l := (StrsAt.sub h hs.sub).sub (new_mono hB w')
theorem ExAt.lift {B B' : Nat} {L : List Value} {x : Ex} (h : ExAt (newW B w) L x) (hs : Same B w w') (hB : B' ≤ B) : ExAt (newW B' w') L x := (h.sub hs.sub).sub (new_mono hB w')
end
end Go.Proofs.YtlhmdjhfmhkllaaGreatDoor
