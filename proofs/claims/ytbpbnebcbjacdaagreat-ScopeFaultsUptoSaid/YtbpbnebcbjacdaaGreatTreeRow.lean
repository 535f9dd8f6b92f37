/-
  What makes the closures of an expression's fields, and the rows of the table.
-/
import Derived.Test.YtbpbnebcbjacdaaGreatTreeFld
import Derived.Deep.RegionWith
import Derived.Laws.EntriesVeiled
namespace Go.Proofs.YtbpbnebcbjacdaaGreat
open Go.RowKit

theorem heap_push (w : World) (o : Obj) : (w.alloc o).heap = w.heap.push o := rfl
/- the makers, to the block -/
theorem nameIs_mk (g : FuncId) (cap : Array Value) (w : World) : Calls Tryz.prog 142 #[.func (.func g) #[] cap] w fun e w' => e = .returned (.func (.func 151) #[] #[.pointer (some ⟨w.heap.size, 0, none⟩)]) ∧ w.alloc (.cells #[.func (.func g) #[] cap] 75) = w' := by
  go_enter Tryz.func142, Tryz.ntmps142
  go_wp2_with fail
  go_ret
  exact ⟨rfl, rfl⟩
theorem within_mk (lo hi : Int) (w : World) : Calls Tryz.prog 141 #[.int .i64 lo, .int .i64 hi] w fun e w' => e = .returned (.func (.func 150) #[] #[.pointer (some ⟨w.heap.size, 0, none⟩), .pointer (some ⟨w.heap.size + 1, 0, none⟩)]) ∧ (w.alloc (.cells #[.int .i64 lo] 2)).alloc (.cells #[.int .i64 hi] 2) = w' := by
  go_enter Tryz.func141, Tryz.ntmps141
  go_wp2_with fail
  go_ret
  exact ⟨rfl, rfl⟩
theorem kids_mk (lo hi : Int) (w : World) : Calls Tryz.prog 144 #[.int .i64 lo, .int .i64 hi] w fun e w' => e = .returned (.func (.func 153) #[] #[.pointer (some ⟨w.heap.size, 0, none⟩), .pointer (some ⟨w.heap.size + 1, 0, none⟩)]) ∧ (w.alloc (.cells #[.int .i64 lo] 3)).alloc (.cells #[.int .i64 hi] 3) = w' := by
  go_enter Tryz.func144, Tryz.ntmps144
  go_wp2_with fail
  go_ret
  exact ⟨rfl, rfl⟩
theorem cons_mk (lo hi : Int) (g : FuncId) (cap : Array Value) (w : World) : Calls Tryz.prog 145 #[.int .i64 lo, .int .i64 hi, .func (.func g) #[] cap] w fun e w' => e = .returned (.func (.func 154) #[] #[.pointer (some ⟨w.heap.size, 0, none⟩), .pointer (some ⟨w.heap.size + 1, 0, none⟩), .pointer (some ⟨w.heap.size + 2, 0, none⟩)]) ∧ ((w.alloc (.cells #[.int .i64 lo] 3)).alloc (.cells #[.int .i64 hi] 3)).alloc (.cells #[.func (.func g) #[] cap] 75) = w' := by
  go_enter Tryz.func145, Tryz.ntmps145
  go_wp2_with fail
  go_ret
  exact ⟨rfl, rfl⟩
theorem oneOf_mk (A : Option Addr) (n c : Nat) (w : World) : Calls Tryz.prog 143 #[.slice A n c] w fun e w' => e = .returned (.func (.func 152) #[] #[.pointer (some ⟨w.heap.size, 0, none⟩)]) ∧ w.alloc (.cells #[.slice A n c] 37) = w' := by
  go_enter Tryz.func143, Tryz.ntmps143
  go_wp2_with fail
  go_ret
  exact ⟨rfl, rfl⟩

/- what they decide -/
theorem cell0 {w : World} {N : Nat} {T : TypeId} {v : Value} (h : w.heap[N]? = some (.cells #[v] T (0, 0))) : w.cell? ⟨N, 0, none⟩ = some v := by simp [World.cell?, h]
theorem heap_next {w w1 : World} {g : Nat} {o : Obj} (h : w.heap[g]? = some o) (hb : Below w.heap.size w w1) : w1.heap[g]? = some o := (hb.block g (lt_of_heap h)).trans h
theorem nameIs_fn {w0 w : World} {fv : Value} {p : Tx → Bool} (hs : StrFn w0 fv p) {b : Nat} (hw : Below w0.heap.size w0 w) (hc : w.heap[b]? = some (.cells #[fv] 75 (0, 0))) :
    ExFn w (.func (.func 151) #[] #[.pointer (some ⟨b, 0, none⟩)]) (fun x => p x.name) :=
  ⟨_, _, rfl, enters_of Tryz.func151 (by kernel_rfl) rfl, fun _ _ _ hW hx => nameIs1_any hs (hw.trans (hW.mono hw.size)) (cell0 (heap_next hc hW)) hx⟩
theorem within_fn {w : World} {lo hi : Int} {b c : Nat} (hb : w.heap[b]? = some (.cells #[.int .i64 lo] 2 (0, 0))) (hc : w.heap[c]? = some (.cells #[.int .i64 hi] 2 (0, 0))) :
    ExFn w (.func (.func 150) #[] #[.pointer (some ⟨b, 0, none⟩), .pointer (some ⟨c, 0, none⟩)]) (fun x => decide (lo ≤ x.num) && decide (x.num ≤ hi)) :=
  ⟨_, _, rfl, enters_of Tryz.func150 (by kernel_rfl) rfl, fun _ _ _ hW hx => within1_any (cell0 (heap_next hb hW)) (cell0 (heap_next hc hW)) hx⟩
theorem kids_fn {w : World} {lo hi : Int} {b c : Nat} (hb : w.heap[b]? = some (.cells #[.int .i64 lo] 3 (0, 0))) (hc : w.heap[c]? = some (.cells #[.int .i64 hi] 3 (0, 0))) :
    ExFn w (.func (.func 153) #[] #[.pointer (some ⟨b, 0, none⟩), .pointer (some ⟨c, 0, none⟩)]) (fun x => decide (lo ≤ x.kids.length) && decide ((x.kids.length : Int) ≤ hi)) :=
  ⟨_, _, rfl, enters_of Tryz.func153 (by kernel_rfl) rfl, fun _ _ _ hW hx => kids1_any (cell0 (heap_next hb hW)) (cell0 (heap_next hc hW)) hx⟩
theorem cons_fn {w0 w : World} {fv : Value} {p : Tx → Bool} (hs : StrFn w0 fv p) {lo hi : Int} {b c d : Nat} (hw : Below w0.heap.size w0 w) (hb : w.heap[b]? = some (.cells #[.int .i64 lo] 3 (0, 0))) (hc : w.heap[c]? = some (.cells #[.int .i64 hi] 3 (0, 0))) (hd : w.heap[d]? = some (.cells #[fv] 75 (0, 0))) :
    ExFn w (.func (.func 154) #[] #[.pointer (some ⟨b, 0, none⟩), .pointer (some ⟨c, 0, none⟩), .pointer (some ⟨d, 0, none⟩)]) (fun x => decide (lo ≤ x.cons.length) && decide ((x.cons.length : Int) ≤ hi) && x.cons.all p) :=
  ⟨_, _, rfl, enters_of Tryz.func154 (by kernel_rfl) rfl, fun _ _ _ hW hx => cons1_any hs (hw.trans (hW.mono hw.size)) (cell0 (heap_next hb hW)) (cell0 (heap_next hc hW)) (cell0 (heap_next hd hW)) hx⟩
theorem oneOf_fn {w : World} {va : Value} {l : List Tx} {b : Nat} (ha : StrsAt w va l) (hb : w.heap[b]? = some (.cells #[va] 37 (0, 0))) :
    StrFn w (.func (.func 152) #[] #[.pointer (some ⟨b, 0, none⟩)]) (fun x => l.contains x) :=
  ⟨_, _, rfl, enters_of Tryz.func152 (by kernel_rfl) rfl, fun _ _ _ hW => oneOf1_any (cell0 (heap_next hb hW)) (ha.under hW) _⟩

theorem shape_info : (Tryz.prog.info? 156).map (·.size) = some 4 := by kernel_rfl
theorem blank_results {tmps : Array Value} {w : World} {N : Nat} {x0 x1 x2 x3 : Value} (hp : tmps.getD 0 undef = .pointer (some ⟨N, 0, none⟩)) (hg : w.heap[N]? = some (.cells #[x0, x1, x2, x3] 156 (0, 0))) :
    (results Tryz.f140 tmps).run Tryz.prog w = .ok (.agg #[x0, x1, x2, x3]) w :=
  results_cell_row Tryz.results140 tmps w N 156 _ (0, 0) _ hp hg Tryz.underlying156 rfl shape_info
theorem row4 {X : World} {N : Nat} {T : TypeId} {x0 x1 x2 x3 : Value} (h : X.heap[N]? = some (.cells #[x0, x1, x2, x3] T (0, 0))) (v0 v1 v2 v3 : Value) :
    ((((X.setCell ⟨N, 0, none⟩ v0).setCell ⟨N, 1, none⟩ v1).setCell ⟨N, 2, none⟩ v2).setCell ⟨N, 3, none⟩ v3).heap[N]? = some (.cells #[v0, v1, v2, v3] T (0, 0)) := by
  have h0 := heap_setCell_same X N 0 _ T v0 h
  have h1 := heap_setCell_same _ N 1 _ T v1 h0
  have h2 := heap_setCell_same _ N 2 _ T v2 h1
  have h3 := heap_setCell_same _ N 3 _ T v3 h2
  simpa using h3
set_option maxHeartbeats 1000000 in
theorem blank_mk (w : World) : Calls Tryz.prog 140 #[] w fun e w' => e = .returned (.agg #[.func (.func 151) #[] #[.pointer (some ⟨w.heap.size + 1, 0, none⟩)], .func (.func 150) #[] #[.pointer (some ⟨w.heap.size + 1 + 1, 0, none⟩), .pointer (some ⟨w.heap.size + 1 + 1 + 1, 0, none⟩)], .func (.func 149) #[] #[], .func (.func 153) #[] #[.pointer (some ⟨w.heap.size + 1 + 1 + 1 + 1, 0, none⟩), .pointer (some ⟨w.heap.size + 1 + 1 + 1 + 1 + 1, 0, none⟩)]]) ∧ ((((((w.alloc (.cells #[.func (.func 151) #[] #[.pointer (some ⟨w.heap.size + 1, 0, none⟩)], .func (.func 150) #[] #[.pointer (some ⟨w.heap.size + 1 + 1, 0, none⟩), .pointer (some ⟨w.heap.size + 1 + 1 + 1, 0, none⟩)], .func (.func 149) #[] #[], .func (.func 153) #[] #[.pointer (some ⟨w.heap.size + 1 + 1 + 1 + 1, 0, none⟩), .pointer (some ⟨w.heap.size + 1 + 1 + 1 + 1 + 1, 0, none⟩)]] 156)).alloc (.cells #[.func (.func 148) #[] #[]] 75)).alloc (.cells #[.int .i64 0] 2)).alloc (.cells #[.int .i64 0] 2)).alloc (.cells #[.int .i64 0] 3)).alloc (.cells #[.int .i64 0] 3)) = w' := by
  go_enter Tryz.func140, Tryz.ntmps140
  go_wp2_with (first | (go_at_call 142; refine (nameIs_mk _ _ _).mono ?_; rintro e w' ⟨rfl, rfl⟩) | (go_at_call 141; refine (within_mk _ _ _).mono ?_; rintro e w' ⟨rfl, rfl⟩) | (go_at_call 144; refine (kids_mk _ _ _).mono ?_; rintro e w' ⟨rfl, rfl⟩))
  exact bodyPost_ret (v := .agg #[.func (.func 151) #[] #[.pointer (some ⟨w.heap.size + 1, 0, none⟩)], .func (.func 150) #[] #[.pointer (some ⟨w.heap.size + 1 + 1, 0, none⟩), .pointer (some ⟨w.heap.size + 1 + 1 + 1, 0, none⟩)], .func (.func 149) #[] #[], .func (.func 153) #[] #[.pointer (some ⟨w.heap.size + 1 + 1 + 1 + 1, 0, none⟩), .pointer (some ⟨w.heap.size + 1 + 1 + 1 + 1 + 1, 0, none⟩)]]) (blank_results rfl (by simp only [heap_push, Array.getElem?_push, Array.size_push]; repeat (first | rfl | rw [if_neg (by omega)] | rw [if_pos (by omega)]))) rfl ⟨rfl, rfl⟩
theorem row_results {tmps : Array Value} {w : World} {N : Nat} {b x0 x1 x2 x3 : Value} (hp : tmps.getD 4 undef = .pointer (some ⟨N, 0, none⟩)) (hv : tmps.getD 5 undef = b) (hg : w.heap[N]? = some (.cells #[x0, x1, x2, x3] 156 (0, 0))) :
    (results Tryz.f137 tmps).run Tryz.prog w = .ok (.tuple #[.agg #[x0, x1, x2, x3], b]) w := by
  have hl := run_loadVar_row (P := Tryz.prog) w N 156 156 #[x0, x1, x2, x3] (0, 0) _ hg Tryz.underlying156 rfl shape_info
  have hp' : tmps[4]?.getD undef = .pointer (some ⟨N, 0, none⟩) := by simpa using hp
  have hv' : tmps[5]?.getD undef = b := by simpa using hv
  simp [results, Tryz.results137, hp', hv', asAddr, hl]
/-- four functions -/
def RowYes (P0 P1 P2 P3 : Ex → Bool) (w : World) (e : Ending) (w' : World) : Prop :=
  ∃ v0 v1 v2 v3, e = .returned (.tuple #[.agg #[v0, v1, v2, v3], .bool true]) ∧ Below w.heap.size w w' ∧ ExFn w' v0 P0 ∧ ExFn w' v1 P1 ∧ ExFn w' v2 P2 ∧ ExFn w' v3 P3
def blank0 : Ex → Bool := fun x => x.name == []
def blank1 : Ex → Bool := fun x => decide (0 ≤ x.num) && decide (x.num ≤ 0)
def blank2 : Ex → Bool := fun x => x.cons.isEmpty
def blank3 : Ex → Bool := fun x => decide ((0 : Int) ≤ x.kids.length) && decide ((x.kids.length : Int) ≤ 0)
theorem heap_drew (w : World) : (w.drew).heap = w.heap := rfl
theorem strs_block {w : World} {b : Nat} {T : TypeId} {l : List Tx} (hl : l.length ≤ 1000) (hs : ∀ x ∈ l, x.length ≤ 1000) (h : w.heap[b]? = some (.cells (l.map fun x => .string (str x)).toArray T (0, 0))) : StrsAt w (.slice (some ⟨b, 0, none⟩) l.length l.length) l := by
  refine ⟨_, _, rfl, Nat.le_refl _, by unfold maxLen; omega, fun i x hx => ⟨[.string (str x)], ⟨_, rfl, fun j u hu => ?_⟩, rfl, by have := hs x (List.mem_of_getElem? hx); unfold maxLen; omega⟩⟩
  match j, hu with
  | 0, hu =>
    simp at hu
    subst hu
    rw [add_add]
    have e : (⟨b, 0, none⟩ : Addr).add (i * [Value.string (str x)].length + 0) = ⟨b, i, none⟩ := by unfold Addr.add; split <;> simp_all
    rw [e]
    simp [World.cell?, h, hx]
theorem one_fn {w : World} {b c d : Nat} {T : TypeId} {l : List Tx} (hc : w.heap[c]? = some (.cells #[.func (.func 152) #[] #[.pointer (some ⟨b, 0, none⟩)]] 75 (0, 0)))
    (hb : w.heap[b]? = some (.cells #[.slice (some ⟨d, 0, none⟩) l.length l.length] 37 (0, 0))) (hd : w.heap[d]? = some (.cells (l.map fun x => .string (str x)).toArray T (0, 0))) (hl : l.length ≤ 1000) (hs : ∀ x ∈ l, x.length ≤ 1000) :
    ExFn w (.func (.func 151) #[] #[.pointer (some ⟨c, 0, none⟩)]) (fun x => l.contains x.name) :=
  nameIs_fn (oneOf_fn (strs_block hl hs hd) hb) (Below.refl _ _) hc
set_option maxHeartbeats 4000000 in
theorem row_1 {nf cf : Value} {pn pc : Tx → Bool} (en it : Int) (w : World) (hn0 : StrFn w nf pn) (hc0 : StrFn w cf pc) :
    Calls Tryz.prog 137 #[.agg #[nf, cf, .int .i64 en, .int .i64 it], .int .i64 1] w (RowYes blank0 (fun x => decide (0 ≤ x.num) && decide (x.num ≤ 9223372036854775807)) blank2 blank3 w) := by
  obtain ⟨gn, cn, rfl, hn'⟩ := hn0
  obtain ⟨gc, cc, rfl, hc'⟩ := hc0
  have hn : StrFn w (.func (.func gn) #[] cn) pn := ⟨gn, cn, rfl, hn'⟩
  have hc : StrFn w (.func (.func gc) #[] cc) pc := ⟨gc, cc, rfl, hc'⟩
  clear hn' hc'
  clear hn hc
  go_enter Tryz.func137, Tryz.ntmps137
  go_wp2_with (first | (go_at_call 140; refine (blank_mk _).mono ?_; rintro e w' ⟨rfl, rfl⟩) | (go_at_call 142; refine (nameIs_mk _ _ _).mono ?_; rintro e w' ⟨rfl, rfl⟩) | (go_at_call 141; refine (within_mk _ _ _).mono ?_; rintro e w' ⟨rfl, rfl⟩) | (go_at_call 144; refine (kids_mk _ _ _).mono ?_; rintro e w' ⟨rfl, rfl⟩) | (go_at_call 145; refine (cons_mk _ _ _ _ _).mono ?_; rintro e w' ⟨rfl, rfl⟩) | (go_at_call 143; refine (oneOf_mk _ _ _ _).mono ?_; rintro e w' ⟨rfl, rfl⟩))
  exact bodyPost_ret (row_results rfl rfl (by simp only [heap_push, Array.getElem?_push, Array.size_push]; repeat (first | rfl | rw [if_neg (by omega)] | rw [if_pos (by omega)]))) rfl ⟨_, _, _, _, rfl, by repeat (first | exact Below.refl _ _ | refine Below.drew ?_ | refine Below.alloc ?_ (by simp <;> omega) _), nameIs_fn (w0 := w) (blank1_fn w) (by repeat (first | exact Below.refl _ _ | refine Below.drew ?_ | refine Below.alloc ?_ (by simp <;> omega) _)) (by simp only [heap_push, Array.getElem?_push, Array.size_push]; repeat (first | rfl | rw [if_neg (by omega)] | rw [if_pos (by omega)])), within_fn (by simp only [heap_push, Array.getElem?_push, Array.size_push]; repeat (first | rfl | rw [if_neg (by omega)] | rw [if_pos (by omega)])) (by simp only [heap_push, Array.getElem?_push, Array.size_push]; repeat (first | rfl | rw [if_neg (by omega)] | rw [if_pos (by omega)])), blank2_fn _, kids_fn (by simp only [heap_push, Array.getElem?_push, Array.size_push]; repeat (first | rfl | rw [if_neg (by omega)] | rw [if_pos (by omega)])) (by simp only [heap_push, Array.getElem?_push, Array.size_push]; repeat (first | rfl | rw [if_neg (by omega)] | rw [if_pos (by omega)]))⟩
set_option maxHeartbeats 4000000 in
theorem row_2 {nf cf : Value} {pn pc : Tx → Bool} (en it : Int) (w : World) (hn0 : StrFn w nf pn) (hc0 : StrFn w cf pc) :
    Calls Tryz.prog 137 #[.agg #[nf, cf, .int .i64 en, .int .i64 it], .int .i64 2] w (RowYes blank0 (fun x => decide (0 ≤ x.num) && decide (x.num ≤ 1)) blank2 blank3 w) := by
  obtain ⟨gn, cn, rfl, hn'⟩ := hn0
  obtain ⟨gc, cc, rfl, hc'⟩ := hc0
  have hn : StrFn w (.func (.func gn) #[] cn) pn := ⟨gn, cn, rfl, hn'⟩
  have hc : StrFn w (.func (.func gc) #[] cc) pc := ⟨gc, cc, rfl, hc'⟩
  clear hn' hc'
  clear hn hc
  go_enter Tryz.func137, Tryz.ntmps137
  go_wp2_with (first | (go_at_call 140; refine (blank_mk _).mono ?_; rintro e w' ⟨rfl, rfl⟩) | (go_at_call 142; refine (nameIs_mk _ _ _).mono ?_; rintro e w' ⟨rfl, rfl⟩) | (go_at_call 141; refine (within_mk _ _ _).mono ?_; rintro e w' ⟨rfl, rfl⟩) | (go_at_call 144; refine (kids_mk _ _ _).mono ?_; rintro e w' ⟨rfl, rfl⟩) | (go_at_call 145; refine (cons_mk _ _ _ _ _).mono ?_; rintro e w' ⟨rfl, rfl⟩) | (go_at_call 143; refine (oneOf_mk _ _ _ _).mono ?_; rintro e w' ⟨rfl, rfl⟩))
  exact bodyPost_ret (row_results rfl rfl (by simp only [heap_push, Array.getElem?_push, Array.size_push]; repeat (first | rfl | rw [if_neg (by omega)] | rw [if_pos (by omega)]))) rfl ⟨_, _, _, _, rfl, by repeat (first | exact Below.refl _ _ | refine Below.drew ?_ | refine Below.alloc ?_ (by simp <;> omega) _), nameIs_fn (w0 := w) (blank1_fn w) (by repeat (first | exact Below.refl _ _ | refine Below.drew ?_ | refine Below.alloc ?_ (by simp <;> omega) _)) (by simp only [heap_push, Array.getElem?_push, Array.size_push]; repeat (first | rfl | rw [if_neg (by omega)] | rw [if_pos (by omega)])), within_fn (by simp only [heap_push, Array.getElem?_push, Array.size_push]; repeat (first | rfl | rw [if_neg (by omega)] | rw [if_pos (by omega)])) (by simp only [heap_push, Array.getElem?_push, Array.size_push]; repeat (first | rfl | rw [if_neg (by omega)] | rw [if_pos (by omega)])), blank2_fn _, kids_fn (by simp only [heap_push, Array.getElem?_push, Array.size_push]; repeat (first | rfl | rw [if_neg (by omega)] | rw [if_pos (by omega)])) (by simp only [heap_push, Array.getElem?_push, Array.size_push]; repeat (first | rfl | rw [if_neg (by omega)] | rw [if_pos (by omega)]))⟩
set_option maxHeartbeats 4000000 in
theorem row_3 {nf cf : Value} {pn pc : Tx → Bool} (en it : Int) (w : World) (hn0 : StrFn w nf pn) (hc0 : StrFn w cf pc) :
    Calls Tryz.prog 137 #[.agg #[nf, cf, .int .i64 en, .int .i64 it], .int .i64 3] w (RowYes (fun x => pc x.name) blank1 blank2 blank3 w) := by
  obtain ⟨gn, cn, rfl, hn'⟩ := hn0
  obtain ⟨gc, cc, rfl, hc'⟩ := hc0
  have hn : StrFn w (.func (.func gn) #[] cn) pn := ⟨gn, cn, rfl, hn'⟩
  have hc : StrFn w (.func (.func gc) #[] cc) pc := ⟨gc, cc, rfl, hc'⟩
  clear hn' hc'
  clear hn
  go_enter Tryz.func137, Tryz.ntmps137
  go_wp2_with (first | (go_at_call 140; refine (blank_mk _).mono ?_; rintro e w' ⟨rfl, rfl⟩) | (go_at_call 142; refine (nameIs_mk _ _ _).mono ?_; rintro e w' ⟨rfl, rfl⟩) | (go_at_call 141; refine (within_mk _ _ _).mono ?_; rintro e w' ⟨rfl, rfl⟩) | (go_at_call 144; refine (kids_mk _ _ _).mono ?_; rintro e w' ⟨rfl, rfl⟩) | (go_at_call 145; refine (cons_mk _ _ _ _ _).mono ?_; rintro e w' ⟨rfl, rfl⟩) | (go_at_call 143; refine (oneOf_mk _ _ _ _).mono ?_; rintro e w' ⟨rfl, rfl⟩))
  exact bodyPost_ret (row_results rfl rfl (by simp only [heap_push, Array.getElem?_push, Array.size_push]; repeat (first | rfl | rw [if_neg (by omega)] | rw [if_pos (by omega)]))) rfl ⟨_, _, _, _, rfl, by repeat (first | exact Below.refl _ _ | refine Below.drew ?_ | refine Below.alloc ?_ (by simp <;> omega) _), nameIs_fn (w0 := w) hc (by repeat (first | exact Below.refl _ _ | refine Below.drew ?_ | refine Below.alloc ?_ (by simp <;> omega) _)) (by simp only [heap_push, Array.getElem?_push, Array.size_push]; repeat (first | rfl | rw [if_neg (by omega)] | rw [if_pos (by omega)])), within_fn (by simp only [heap_push, Array.getElem?_push, Array.size_push]; repeat (first | rfl | rw [if_neg (by omega)] | rw [if_pos (by omega)])) (by simp only [heap_push, Array.getElem?_push, Array.size_push]; repeat (first | rfl | rw [if_neg (by omega)] | rw [if_pos (by omega)])), blank2_fn _, kids_fn (by simp only [heap_push, Array.getElem?_push, Array.size_push]; repeat (first | rfl | rw [if_neg (by omega)] | rw [if_pos (by omega)])) (by simp only [heap_push, Array.getElem?_push, Array.size_push]; repeat (first | rfl | rw [if_neg (by omega)] | rw [if_pos (by omega)]))⟩
set_option maxHeartbeats 4000000 in
theorem row_4 {nf cf : Value} {pn pc : Tx → Bool} (en it : Int) (w : World) (hn0 : StrFn w nf pn) (hc0 : StrFn w cf pc) :
    Calls Tryz.prog 137 #[.agg #[nf, cf, .int .i64 en, .int .i64 it], .int .i64 4] w (RowYes (fun x => pn x.name) blank1 blank2 blank3 w) := by
  obtain ⟨gn, cn, rfl, hn'⟩ := hn0
  obtain ⟨gc, cc, rfl, hc'⟩ := hc0
  have hn : StrFn w (.func (.func gn) #[] cn) pn := ⟨gn, cn, rfl, hn'⟩
  have hc : StrFn w (.func (.func gc) #[] cc) pc := ⟨gc, cc, rfl, hc'⟩
  clear hn' hc'
  clear hc
  go_enter Tryz.func137, Tryz.ntmps137
  go_wp2_with (first | (go_at_call 140; refine (blank_mk _).mono ?_; rintro e w' ⟨rfl, rfl⟩) | (go_at_call 142; refine (nameIs_mk _ _ _).mono ?_; rintro e w' ⟨rfl, rfl⟩) | (go_at_call 141; refine (within_mk _ _ _).mono ?_; rintro e w' ⟨rfl, rfl⟩) | (go_at_call 144; refine (kids_mk _ _ _).mono ?_; rintro e w' ⟨rfl, rfl⟩) | (go_at_call 145; refine (cons_mk _ _ _ _ _).mono ?_; rintro e w' ⟨rfl, rfl⟩) | (go_at_call 143; refine (oneOf_mk _ _ _ _).mono ?_; rintro e w' ⟨rfl, rfl⟩))
  exact bodyPost_ret (row_results rfl rfl (by simp only [heap_push, Array.getElem?_push, Array.size_push]; repeat (first | rfl | rw [if_neg (by omega)] | rw [if_pos (by omega)]))) rfl ⟨_, _, _, _, rfl, by repeat (first | exact Below.refl _ _ | refine Below.drew ?_ | refine Below.alloc ?_ (by simp <;> omega) _), nameIs_fn (w0 := w) hn (by repeat (first | exact Below.refl _ _ | refine Below.drew ?_ | refine Below.alloc ?_ (by simp <;> omega) _)) (by simp only [heap_push, Array.getElem?_push, Array.size_push]; repeat (first | rfl | rw [if_neg (by omega)] | rw [if_pos (by omega)])), within_fn (by simp only [heap_push, Array.getElem?_push, Array.size_push]; repeat (first | rfl | rw [if_neg (by omega)] | rw [if_pos (by omega)])) (by simp only [heap_push, Array.getElem?_push, Array.size_push]; repeat (first | rfl | rw [if_neg (by omega)] | rw [if_pos (by omega)])), blank2_fn _, kids_fn (by simp only [heap_push, Array.getElem?_push, Array.size_push]; repeat (first | rfl | rw [if_neg (by omega)] | rw [if_pos (by omega)])) (by simp only [heap_push, Array.getElem?_push, Array.size_push]; repeat (first | rfl | rw [if_neg (by omega)] | rw [if_pos (by omega)]))⟩
set_option maxHeartbeats 4000000 in
theorem row_5 {nf cf : Value} {pn pc : Tx → Bool} (en it : Int) (w : World) (hn0 : StrFn w nf pn) (hc0 : StrFn w cf pc) :
    Calls Tryz.prog 137 #[.agg #[nf, cf, .int .i64 en, .int .i64 it], .int .i64 5] w (RowYes (fun x => [[110, 111, 116], [45]].contains x.name) blank1 blank2 (fun x => decide ((1 : Int) ≤ x.kids.length) && decide ((x.kids.length : Int) ≤ 1)) w) := by
  obtain ⟨gn, cn, rfl, hn'⟩ := hn0
  obtain ⟨gc, cc, rfl, hc'⟩ := hc0
  have hn : StrFn w (.func (.func gn) #[] cn) pn := ⟨gn, cn, rfl, hn'⟩
  have hc : StrFn w (.func (.func gc) #[] cc) pc := ⟨gc, cc, rfl, hc'⟩
  clear hn' hc'
  clear hn hc
  go_enter Tryz.func137, Tryz.ntmps137
  go_wp2_with (first | (go_at_call 140; refine (blank_mk _).mono ?_; rintro e w' ⟨rfl, rfl⟩) | (go_at_call 142; refine (nameIs_mk _ _ _).mono ?_; rintro e w' ⟨rfl, rfl⟩) | (go_at_call 141; refine (within_mk _ _ _).mono ?_; rintro e w' ⟨rfl, rfl⟩) | (go_at_call 144; refine (kids_mk _ _ _).mono ?_; rintro e w' ⟨rfl, rfl⟩) | (go_at_call 145; refine (cons_mk _ _ _ _ _).mono ?_; rintro e w' ⟨rfl, rfl⟩) | (go_at_call 143; refine (oneOf_mk _ _ _ _).mono ?_; rintro e w' ⟨rfl, rfl⟩))
  exact bodyPost_ret (row_results rfl rfl (by simp only [heap_push, Array.getElem?_push, Array.size_push]; repeat (first | rfl | rw [if_neg (by omega)] | rw [if_pos (by omega)]))) rfl ⟨_, _, _, _, rfl, by repeat (first | exact Below.refl _ _ | refine Below.drew ?_ | refine Below.alloc ?_ (by simp <;> omega) _), one_fn (l := [[110, 111, 116], [45]]) (by simp only [heap_push, Array.getElem?_push, Array.size_push]; repeat (first | rfl | rw [if_neg (by omega)] | rw [if_pos (by omega)])) (by simp only [heap_push, Array.getElem?_push, Array.size_push]; repeat (first | rfl | rw [if_neg (by omega)] | rw [if_pos (by omega)])) (by simp only [heap_push, Array.getElem?_push, Array.size_push]; repeat (first | rfl | rw [if_neg (by omega)] | rw [if_pos (by omega)])) (by decide) (by decide), within_fn (by simp only [heap_push, Array.getElem?_push, Array.size_push]; repeat (first | rfl | rw [if_neg (by omega)] | rw [if_pos (by omega)])) (by simp only [heap_push, Array.getElem?_push, Array.size_push]; repeat (first | rfl | rw [if_neg (by omega)] | rw [if_pos (by omega)])), blank2_fn _, kids_fn (by simp only [heap_push, Array.getElem?_push, Array.size_push]; repeat (first | rfl | rw [if_neg (by omega)] | rw [if_pos (by omega)])) (by simp only [heap_push, Array.getElem?_push, Array.size_push]; repeat (first | rfl | rw [if_neg (by omega)] | rw [if_pos (by omega)]))⟩
set_option maxHeartbeats 4000000 in
theorem row_6 {nf cf : Value} {pn pc : Tx → Bool} (en it : Int) (w : World) (hn0 : StrFn w nf pn) (hc0 : StrFn w cf pc) :
    Calls Tryz.prog 137 #[.agg #[nf, cf, .int .i64 en, .int .i64 it], .int .i64 6] w (RowYes (fun x => binsL.contains x.name) blank1 blank2 (fun x => decide ((2 : Int) ≤ x.kids.length) && decide ((x.kids.length : Int) ≤ 2)) w) := by
  obtain ⟨gn, cn, rfl, hn'⟩ := hn0
  obtain ⟨gc, cc, rfl, hc'⟩ := hc0
  have hn : StrFn w (.func (.func gn) #[] cn) pn := ⟨gn, cn, rfl, hn'⟩
  have hc : StrFn w (.func (.func gc) #[] cc) pc := ⟨gc, cc, rfl, hc'⟩
  clear hn' hc'
  clear hn hc
  go_enter Tryz.func137, Tryz.ntmps137
  go_wp2_with (first | (go_at_call 140; refine (blank_mk _).mono ?_; rintro e w' ⟨rfl, rfl⟩) | (go_at_call 142; refine (nameIs_mk _ _ _).mono ?_; rintro e w' ⟨rfl, rfl⟩) | (go_at_call 141; refine (within_mk _ _ _).mono ?_; rintro e w' ⟨rfl, rfl⟩) | (go_at_call 144; refine (kids_mk _ _ _).mono ?_; rintro e w' ⟨rfl, rfl⟩) | (go_at_call 145; refine (cons_mk _ _ _ _ _).mono ?_; rintro e w' ⟨rfl, rfl⟩) | (go_at_call 143; refine (oneOf_mk _ _ _ _).mono ?_; rintro e w' ⟨rfl, rfl⟩))
  exact bodyPost_ret (row_results rfl rfl (by simp only [heap_push, Array.getElem?_push, Array.size_push]; repeat (first | rfl | rw [if_neg (by omega)] | rw [if_pos (by omega)]))) rfl ⟨_, _, _, _, rfl, by repeat (first | exact Below.refl _ _ | refine Below.drew ?_ | refine Below.alloc ?_ (by simp <;> omega) _), one_fn (l := binsL) (by simp only [heap_push, Array.getElem?_push, Array.size_push]; repeat (first | rfl | rw [if_neg (by omega)] | rw [if_pos (by omega)])) (by simp only [heap_push, Array.getElem?_push, Array.size_push]; repeat (first | rfl | rw [if_neg (by omega)] | rw [if_pos (by omega)])) (by simp only [heap_push, Array.getElem?_push, Array.size_push]; repeat (first | rfl | rw [if_neg (by omega)] | rw [if_pos (by omega)])) (by decide) (by decide), within_fn (by simp only [heap_push, Array.getElem?_push, Array.size_push]; repeat (first | rfl | rw [if_neg (by omega)] | rw [if_pos (by omega)])) (by simp only [heap_push, Array.getElem?_push, Array.size_push]; repeat (first | rfl | rw [if_neg (by omega)] | rw [if_pos (by omega)])), blank2_fn _, kids_fn (by simp only [heap_push, Array.getElem?_push, Array.size_push]; repeat (first | rfl | rw [if_neg (by omega)] | rw [if_pos (by omega)])) (by simp only [heap_push, Array.getElem?_push, Array.size_push]; repeat (first | rfl | rw [if_neg (by omega)] | rw [if_pos (by omega)]))⟩
set_option maxHeartbeats 4000000 in
theorem row_7 {nf cf : Value} {pn pc : Tx → Bool} (en it : Int) (w : World) (hn0 : StrFn w nf pn) (hc0 : StrFn w cf pc) :
    Calls Tryz.prog 137 #[.agg #[nf, cf, .int .i64 en, .int .i64 it], .int .i64 7] w (RowYes blank0 blank1 blank2 (fun x => decide ((3 : Int) ≤ x.kids.length) && decide ((x.kids.length : Int) ≤ 3)) w) := by
  obtain ⟨gn, cn, rfl, hn'⟩ := hn0
  obtain ⟨gc, cc, rfl, hc'⟩ := hc0
  have hn : StrFn w (.func (.func gn) #[] cn) pn := ⟨gn, cn, rfl, hn'⟩
  have hc : StrFn w (.func (.func gc) #[] cc) pc := ⟨gc, cc, rfl, hc'⟩
  clear hn' hc'
  clear hn hc
  go_enter Tryz.func137, Tryz.ntmps137
  go_wp2_with (first | (go_at_call 140; refine (blank_mk _).mono ?_; rintro e w' ⟨rfl, rfl⟩) | (go_at_call 142; refine (nameIs_mk _ _ _).mono ?_; rintro e w' ⟨rfl, rfl⟩) | (go_at_call 141; refine (within_mk _ _ _).mono ?_; rintro e w' ⟨rfl, rfl⟩) | (go_at_call 144; refine (kids_mk _ _ _).mono ?_; rintro e w' ⟨rfl, rfl⟩) | (go_at_call 145; refine (cons_mk _ _ _ _ _).mono ?_; rintro e w' ⟨rfl, rfl⟩) | (go_at_call 143; refine (oneOf_mk _ _ _ _).mono ?_; rintro e w' ⟨rfl, rfl⟩))
  exact bodyPost_ret (row_results rfl rfl (by simp only [heap_push, Array.getElem?_push, Array.size_push]; repeat (first | rfl | rw [if_neg (by omega)] | rw [if_pos (by omega)]))) rfl ⟨_, _, _, _, rfl, by repeat (first | exact Below.refl _ _ | refine Below.drew ?_ | refine Below.alloc ?_ (by simp <;> omega) _), nameIs_fn (w0 := w) (blank1_fn w) (by repeat (first | exact Below.refl _ _ | refine Below.drew ?_ | refine Below.alloc ?_ (by simp <;> omega) _)) (by simp only [heap_push, Array.getElem?_push, Array.size_push]; repeat (first | rfl | rw [if_neg (by omega)] | rw [if_pos (by omega)])), within_fn (by simp only [heap_push, Array.getElem?_push, Array.size_push]; repeat (first | rfl | rw [if_neg (by omega)] | rw [if_pos (by omega)])) (by simp only [heap_push, Array.getElem?_push, Array.size_push]; repeat (first | rfl | rw [if_neg (by omega)] | rw [if_pos (by omega)])), blank2_fn _, kids_fn (by simp only [heap_push, Array.getElem?_push, Array.size_push]; repeat (first | rfl | rw [if_neg (by omega)] | rw [if_pos (by omega)])) (by simp only [heap_push, Array.getElem?_push, Array.size_push]; repeat (first | rfl | rw [if_neg (by omega)] | rw [if_pos (by omega)]))⟩
set_option maxHeartbeats 4000000 in
theorem row_8 {nf cf : Value} {pn pc : Tx → Bool} (en it : Int) (w : World) (hn0 : StrFn w nf pn) (hc0 : StrFn w cf pc) :
    Calls Tryz.prog 137 #[.agg #[nf, cf, .int .i64 en, .int .i64 it], .int .i64 8] w (RowYes blank0 blank1 blank2 (fun x => decide ((2 : Int) ≤ x.kids.length) && decide ((x.kids.length : Int) ≤ 2)) w) := by
  obtain ⟨gn, cn, rfl, hn'⟩ := hn0
  obtain ⟨gc, cc, rfl, hc'⟩ := hc0
  have hn : StrFn w (.func (.func gn) #[] cn) pn := ⟨gn, cn, rfl, hn'⟩
  have hc : StrFn w (.func (.func gc) #[] cc) pc := ⟨gc, cc, rfl, hc'⟩
  clear hn' hc'
  clear hn hc
  go_enter Tryz.func137, Tryz.ntmps137
  go_wp2_with (first | (go_at_call 140; refine (blank_mk _).mono ?_; rintro e w' ⟨rfl, rfl⟩) | (go_at_call 142; refine (nameIs_mk _ _ _).mono ?_; rintro e w' ⟨rfl, rfl⟩) | (go_at_call 141; refine (within_mk _ _ _).mono ?_; rintro e w' ⟨rfl, rfl⟩) | (go_at_call 144; refine (kids_mk _ _ _).mono ?_; rintro e w' ⟨rfl, rfl⟩) | (go_at_call 145; refine (cons_mk _ _ _ _ _).mono ?_; rintro e w' ⟨rfl, rfl⟩) | (go_at_call 143; refine (oneOf_mk _ _ _ _).mono ?_; rintro e w' ⟨rfl, rfl⟩))
  exact bodyPost_ret (row_results rfl rfl (by simp only [heap_push, Array.getElem?_push, Array.size_push]; repeat (first | rfl | rw [if_neg (by omega)] | rw [if_pos (by omega)]))) rfl ⟨_, _, _, _, rfl, by repeat (first | exact Below.refl _ _ | refine Below.drew ?_ | refine Below.alloc ?_ (by simp <;> omega) _), nameIs_fn (w0 := w) (blank1_fn w) (by repeat (first | exact Below.refl _ _ | refine Below.drew ?_ | refine Below.alloc ?_ (by simp <;> omega) _)) (by simp only [heap_push, Array.getElem?_push, Array.size_push]; repeat (first | rfl | rw [if_neg (by omega)] | rw [if_pos (by omega)])), within_fn (by simp only [heap_push, Array.getElem?_push, Array.size_push]; repeat (first | rfl | rw [if_neg (by omega)] | rw [if_pos (by omega)])) (by simp only [heap_push, Array.getElem?_push, Array.size_push]; repeat (first | rfl | rw [if_neg (by omega)] | rw [if_pos (by omega)])), blank2_fn _, kids_fn (by simp only [heap_push, Array.getElem?_push, Array.size_push]; repeat (first | rfl | rw [if_neg (by omega)] | rw [if_pos (by omega)])) (by simp only [heap_push, Array.getElem?_push, Array.size_push]; repeat (first | rfl | rw [if_neg (by omega)] | rw [if_pos (by omega)]))⟩
set_option maxHeartbeats 4000000 in
theorem row_9 {nf cf : Value} {pn pc : Tx → Bool} (en it : Int) (w : World) (hn0 : StrFn w nf pn) (hc0 : StrFn w cf pc) :
    Calls Tryz.prog 137 #[.agg #[nf, cf, .int .i64 en, .int .i64 it], .int .i64 9] w (RowYes blank0 blank1 blank2 (fun x => decide ((1 : Int) ≤ x.kids.length) && decide ((x.kids.length : Int) ≤ 1)) w) := by
  obtain ⟨gn, cn, rfl, hn'⟩ := hn0
  obtain ⟨gc, cc, rfl, hc'⟩ := hc0
  have hn : StrFn w (.func (.func gn) #[] cn) pn := ⟨gn, cn, rfl, hn'⟩
  have hc : StrFn w (.func (.func gc) #[] cc) pc := ⟨gc, cc, rfl, hc'⟩
  clear hn' hc'
  clear hn hc
  go_enter Tryz.func137, Tryz.ntmps137
  go_wp2_with (first | (go_at_call 140; refine (blank_mk _).mono ?_; rintro e w' ⟨rfl, rfl⟩) | (go_at_call 142; refine (nameIs_mk _ _ _).mono ?_; rintro e w' ⟨rfl, rfl⟩) | (go_at_call 141; refine (within_mk _ _ _).mono ?_; rintro e w' ⟨rfl, rfl⟩) | (go_at_call 144; refine (kids_mk _ _ _).mono ?_; rintro e w' ⟨rfl, rfl⟩) | (go_at_call 145; refine (cons_mk _ _ _ _ _).mono ?_; rintro e w' ⟨rfl, rfl⟩) | (go_at_call 143; refine (oneOf_mk _ _ _ _).mono ?_; rintro e w' ⟨rfl, rfl⟩))
  exact bodyPost_ret (row_results rfl rfl (by simp only [heap_push, Array.getElem?_push, Array.size_push]; repeat (first | rfl | rw [if_neg (by omega)] | rw [if_pos (by omega)]))) rfl ⟨_, _, _, _, rfl, by repeat (first | exact Below.refl _ _ | refine Below.drew ?_ | refine Below.alloc ?_ (by simp <;> omega) _), nameIs_fn (w0 := w) (blank1_fn w) (by repeat (first | exact Below.refl _ _ | refine Below.drew ?_ | refine Below.alloc ?_ (by simp <;> omega) _)) (by simp only [heap_push, Array.getElem?_push, Array.size_push]; repeat (first | rfl | rw [if_neg (by omega)] | rw [if_pos (by omega)])), within_fn (by simp only [heap_push, Array.getElem?_push, Array.size_push]; repeat (first | rfl | rw [if_neg (by omega)] | rw [if_pos (by omega)])) (by simp only [heap_push, Array.getElem?_push, Array.size_push]; repeat (first | rfl | rw [if_neg (by omega)] | rw [if_pos (by omega)])), blank2_fn _, kids_fn (by simp only [heap_push, Array.getElem?_push, Array.size_push]; repeat (first | rfl | rw [if_neg (by omega)] | rw [if_pos (by omega)])) (by simp only [heap_push, Array.getElem?_push, Array.size_push]; repeat (first | rfl | rw [if_neg (by omega)] | rw [if_pos (by omega)]))⟩
set_option maxHeartbeats 4000000 in
theorem row_10 {nf cf : Value} {pn pc : Tx → Bool} (en it : Int) (w : World) (hn0 : StrFn w nf pn) (hc0 : StrFn w cf pc) :
    Calls Tryz.prog 137 #[.agg #[nf, cf, .int .i64 en, .int .i64 it], .int .i64 10] w (RowYes blank0 blank1 blank2 (fun x => decide ((2 : Int) ≤ x.kids.length) && decide ((x.kids.length : Int) ≤ 2)) w) := by
  obtain ⟨gn, cn, rfl, hn'⟩ := hn0
  obtain ⟨gc, cc, rfl, hc'⟩ := hc0
  have hn : StrFn w (.func (.func gn) #[] cn) pn := ⟨gn, cn, rfl, hn'⟩
  have hc : StrFn w (.func (.func gc) #[] cc) pc := ⟨gc, cc, rfl, hc'⟩
  clear hn' hc'
  clear hn hc
  go_enter Tryz.func137, Tryz.ntmps137
  go_wp2_with (first | (go_at_call 140; refine (blank_mk _).mono ?_; rintro e w' ⟨rfl, rfl⟩) | (go_at_call 142; refine (nameIs_mk _ _ _).mono ?_; rintro e w' ⟨rfl, rfl⟩) | (go_at_call 141; refine (within_mk _ _ _).mono ?_; rintro e w' ⟨rfl, rfl⟩) | (go_at_call 144; refine (kids_mk _ _ _).mono ?_; rintro e w' ⟨rfl, rfl⟩) | (go_at_call 145; refine (cons_mk _ _ _ _ _).mono ?_; rintro e w' ⟨rfl, rfl⟩) | (go_at_call 143; refine (oneOf_mk _ _ _ _).mono ?_; rintro e w' ⟨rfl, rfl⟩))
  exact bodyPost_ret (row_results rfl rfl (by simp only [heap_push, Array.getElem?_push, Array.size_push]; repeat (first | rfl | rw [if_neg (by omega)] | rw [if_pos (by omega)]))) rfl ⟨_, _, _, _, rfl, by repeat (first | exact Below.refl _ _ | refine Below.drew ?_ | refine Below.alloc ?_ (by simp <;> omega) _), nameIs_fn (w0 := w) (blank1_fn w) (by repeat (first | exact Below.refl _ _ | refine Below.drew ?_ | refine Below.alloc ?_ (by simp <;> omega) _)) (by simp only [heap_push, Array.getElem?_push, Array.size_push]; repeat (first | rfl | rw [if_neg (by omega)] | rw [if_pos (by omega)])), within_fn (by simp only [heap_push, Array.getElem?_push, Array.size_push]; repeat (first | rfl | rw [if_neg (by omega)] | rw [if_pos (by omega)])) (by simp only [heap_push, Array.getElem?_push, Array.size_push]; repeat (first | rfl | rw [if_neg (by omega)] | rw [if_pos (by omega)])), blank2_fn _, kids_fn (by simp only [heap_push, Array.getElem?_push, Array.size_push]; repeat (first | rfl | rw [if_neg (by omega)] | rw [if_pos (by omega)])) (by simp only [heap_push, Array.getElem?_push, Array.size_push]; repeat (first | rfl | rw [if_neg (by omega)] | rw [if_pos (by omega)]))⟩
set_option maxHeartbeats 4000000 in
theorem row_15 {nf cf : Value} {pn pc : Tx → Bool} (en it : Int) (w : World) (hn0 : StrFn w nf pn) (hc0 : StrFn w cf pc) :
    Calls Tryz.prog 137 #[.agg #[nf, cf, .int .i64 en, .int .i64 it], .int .i64 15] w (RowYes blank0 blank1 blank2 (fun x => x.kids.length == 2 && (x.kids.headD noneX).op == 14) w) := by
  obtain ⟨gn, cn, rfl, hn'⟩ := hn0
  obtain ⟨gc, cc, rfl, hc'⟩ := hc0
  have hn : StrFn w (.func (.func gn) #[] cn) pn := ⟨gn, cn, rfl, hn'⟩
  have hc : StrFn w (.func (.func gc) #[] cc) pc := ⟨gc, cc, rfl, hc'⟩
  clear hn' hc'
  clear hn hc
  go_enter Tryz.func137, Tryz.ntmps137
  go_wp2_with (first | (go_at_call 140; refine (blank_mk _).mono ?_; rintro e w' ⟨rfl, rfl⟩) | (go_at_call 142; refine (nameIs_mk _ _ _).mono ?_; rintro e w' ⟨rfl, rfl⟩) | (go_at_call 141; refine (within_mk _ _ _).mono ?_; rintro e w' ⟨rfl, rfl⟩) | (go_at_call 144; refine (kids_mk _ _ _).mono ?_; rintro e w' ⟨rfl, rfl⟩) | (go_at_call 145; refine (cons_mk _ _ _ _ _).mono ?_; rintro e w' ⟨rfl, rfl⟩) | (go_at_call 143; refine (oneOf_mk _ _ _ _).mono ?_; rintro e w' ⟨rfl, rfl⟩))
  exact bodyPost_ret (row_results rfl rfl (by simp only [heap_push, Array.getElem?_push, Array.size_push]; repeat (first | rfl | rw [if_neg (by omega)] | rw [if_pos (by omega)]))) rfl ⟨_, _, _, _, rfl, by repeat (first | exact Below.refl _ _ | refine Below.drew ?_ | refine Below.alloc ?_ (by simp <;> omega) _), nameIs_fn (w0 := w) (blank1_fn w) (by repeat (first | exact Below.refl _ _ | refine Below.drew ?_ | refine Below.alloc ?_ (by simp <;> omega) _)) (by simp only [heap_push, Array.getElem?_push, Array.size_push]; repeat (first | rfl | rw [if_neg (by omega)] | rw [if_pos (by omega)])), within_fn (by simp only [heap_push, Array.getElem?_push, Array.size_push]; repeat (first | rfl | rw [if_neg (by omega)] | rw [if_pos (by omega)])) (by simp only [heap_push, Array.getElem?_push, Array.size_push]; repeat (first | rfl | rw [if_neg (by omega)] | rw [if_pos (by omega)])), blank2_fn _, row2_fn _⟩
end Go.Proofs.YtbpbnebcbjacdaaGreat
