/-
  The laws' own look that the program lives: one, lives.
-/
import Derived.Test.YtbpbnebcbjacdaaGreatScopeChk
import Derived.Test.YtbpbnebcbjacdaaGreatScopeVars
import Derived.Laws.StructEq
namespace Go.Proofs.YtbpbnebcbjacdaaGreat
open Go.RowKit

def oneN (x : Ex) : QNode := ⟨[102], [], [[120]], [[121]], [⟨⟨[[121]], x⟩, []⟩]⟩
def oneP (x : Ex) : QProg := ⟨[], [oneN x]⟩
theorem prog_size : (Tryz.prog.info? 25).map (·.size) = some 2 := by kernel_rfl
set_option maxRecDepth 100000 in
theorem one_results {tmps : Array Value} {w : World} {N : Nat} {x0 x1 : Value} (hp : tmps.getD 2 undef = .pointer (some ⟨N, 0, none⟩)) (hg : w.heap[N]? = some (.cells #[x0, x1] 25 (0, 0))) :
    (results Tryz.f22 tmps).run Tryz.prog w = .ok (.agg #[x0, x1]) w :=
  results_cell_row Tryz.results22 tmps w N 25 _ (0, 0) _ hp hg Tryz.underlying25 rfl prog_size
def OnePost (x : Ex) (w : World) (e : Ending) (w' : World) : Prop := ∃ N, e = .returned (.agg #[.slice none 0 0, .slice (some ⟨N, 0, none⟩) 1 1]) ∧ (∃ L : List Value, w'.heap[N]? = some (.cells L.toArray 41 (0, 0)) ∧ NodeAt w' L (oneN x)) ∧ Below w.heap.size w w'
set_option maxHeartbeats 2000000 in
set_option maxRecDepth 100000 in
theorem one_any {w0 : World} {L : List Value} {x : Ex} (hx : ExAt w0 L x) : ∀ w, Below w0.heap.size w0 w → Calls Tryz.prog 22 #[.agg L.toArray] w (OnePost x w) := by
  intro w hb
  have HX := Lib.hid (hx.under hb)
  obtain ⟨o, s, n, A1, n1, k1, A2, n2, k2, rfl⟩ := hx.shape
  clear hx hb
  go_enter Tryz.func22, Tryz.ntmps22
  go_wp2_with fail
  generalize hW : (((((((w.alloc (.cells #[.int .i64 o, .string s, .int .i64 n, .slice A1 n1 k1, .slice A2 n2 k2] 50)).alloc (.cells #[.slice none 0 0, .slice (some ⟨w.heap.size + 1 + 1 + 1 + 1 + 1 + 1, 0, none⟩) 1 1] 25)).alloc (.cells #[.string ⟨#[120]⟩] 9)).alloc (.cells #[.string ⟨#[121]⟩] 9)).alloc (.cells #[.string ⟨#[121]⟩] 9)).alloc (.cells #[.slice (some ⟨w.heap.size + 1 + 1 + 1 + 1, 0, none⟩) 1 1, .int .i64 o, .string s, .int .i64 n, .slice A1 n1 k1, .slice A2 n2 k2, .slice none 0 0] 55)).alloc (.cells #[.string ⟨#[102]⟩, .slice none 0 0, .slice (some ⟨w.heap.size + 1 + 1, 0, none⟩) 1 1, .slice (some ⟨w.heap.size + 1 + 1 + 1, 0, none⟩) 1 1, .slice (some ⟨w.heap.size + 1 + 1 + 1 + 1 + 1, 0, none⟩) 1 1] 41)) = W
  have h1 : W.heap[w.heap.size + 1]? = some (.cells #[.slice none 0 0, .slice (some ⟨w.heap.size + 1 + 1 + 1 + 1 + 1 + 1, 0, none⟩) 1 1] 25 (0, 0)) := by rw [← hW]; exact alloc_below (alloc_below (alloc_below (alloc_below (alloc_below (alloc_at (by simp))))))
  have h2 : W.heap[w.heap.size + 1 + 1]? = some (.cells #[.string ⟨#[120]⟩] 9 (0, 0)) := by rw [← hW]; exact alloc_below (alloc_below (alloc_below (alloc_below (alloc_at (by simp)))))
  have h3 : W.heap[w.heap.size + 1 + 1 + 1]? = some (.cells #[.string ⟨#[121]⟩] 9 (0, 0)) := by rw [← hW]; exact alloc_below (alloc_below (alloc_below (alloc_at (by simp))))
  have h4 : W.heap[w.heap.size + 1 + 1 + 1 + 1]? = some (.cells #[.string ⟨#[121]⟩] 9 (0, 0)) := by rw [← hW]; exact alloc_below (alloc_below (alloc_at (by simp)))
  have h5 : W.heap[w.heap.size + 1 + 1 + 1 + 1 + 1]? = some (.cells #[.slice (some ⟨w.heap.size + 1 + 1 + 1 + 1, 0, none⟩) 1 1, .int .i64 o, .string s, .int .i64 n, .slice A1 n1 k1, .slice A2 n2 k2, .slice none 0 0] 55 (0, 0)) := by rw [← hW]; exact alloc_below (alloc_at (by simp))
  have h6 : W.heap[w.heap.size + 1 + 1 + 1 + 1 + 1 + 1]? = some (.cells #[.string ⟨#[102]⟩, .slice none 0 0, .slice (some ⟨w.heap.size + 1 + 1, 0, none⟩) 1 1, .slice (some ⟨w.heap.size + 1 + 1 + 1, 0, none⟩) 1 1, .slice (some ⟨w.heap.size + 1 + 1 + 1 + 1 + 1, 0, none⟩) 1 1] 41 (0, 0)) := by rw [← hW]; exact alloc_at (by simp)
  have hB : Below w.heap.size w W := by rw [← hW]; exact ((((((((Below.refl w.heap.size w).alloc (Nat.le_refl _) _).alloc (by simp <;> omega) _).alloc (by simp <;> omega) _).alloc (by simp <;> omega) _).alloc (by simp <;> omega) _).alloc (by simp <;> omega) _).alloc (by simp <;> omega) _)
  have s2 : StrsAt W (.slice (some ⟨w.heap.size + 1 + 1, 0, none⟩) 1 1) [[120]] := made1 h2 ⟨rfl, len_small (by decide)⟩ rfl
  have s3 : StrsAt W (.slice (some ⟨w.heap.size + 1 + 1 + 1, 0, none⟩) 1 1) [[121]] := made1 h3 ⟨rfl, len_small (by decide)⟩ rfl
  have s4 : StrsAt W (.slice (some ⟨w.heap.size + 1 + 1 + 1 + 1, 0, none⟩) 1 1) [[121]] := made1 h4 ⟨rfl, len_small (by decide)⟩ rfl
  have i5 : ItemAt W [.slice (some ⟨w.heap.size + 1 + 1 + 1 + 1, 0, none⟩) 1 1, .int .i64 o, .string s, .int .i64 n, .slice A1 n1 k1, .slice A2 n2 k2, .slice none 0 0] ⟨⟨[[121]], x⟩, []⟩ :=
    ⟨[.slice (some ⟨w.heap.size + 1 + 1 + 1 + 1, 0, none⟩) 1 1, .int .i64 o, .string s, .int .i64 n, .slice A1 n1 k1, .slice A2 n2 k2], .slice none 0 0, rfl, ⟨_, _, rfl, s4, HX.out.under hB⟩, none, 0, rfl, Nat.le_refl _, by unfold maxLen; omega, fun i x h => by simp at h⟩
  have n6 : NodeAt W [.string ⟨#[102]⟩, .slice none 0 0, .slice (some ⟨w.heap.size + 1 + 1, 0, none⟩) 1 1, .slice (some ⟨w.heap.size + 1 + 1 + 1, 0, none⟩) 1 1, .slice (some ⟨w.heap.size + 1 + 1 + 1 + 1 + 1, 0, none⟩) 1 1] (oneN x) :=
    ⟨_, _, _, _, rfl, show ([102] : Tx).length ≤ maxLen from len_small (by decide), strs_none W, s2, s3, made1 h5 i5 rfl⟩
  exact bodyPost_ret (one_results rfl h1) rfl ⟨_, rfl, ⟨_, h6, n6⟩, hB⟩
theorem one_prog {w : World} {N : Nat} {L : List Value} {x : Ex} (h : w.heap[N]? = some (.cells L.toArray 41 (0, 0))) (hn : NodeAt w L (oneN x)) : ProgAt w [.slice none 0 0, .slice (some ⟨N, 0, none⟩) 1 1] (oneP x) :=
  ⟨_, _, rfl, ⟨none, 0, rfl, Nat.le_refl _, by unfold maxLen; omega, fun i x h => by simp [oneP] at h⟩, made1 h hn (by simp)⟩
theorem one_few (x : Ex) : ∀ y ∈ (oneP x).nodes, (nodeX y).length ≤ 1048576 := by intro y hy; simp [oneP] at hy; subst hy; simp [nodeX, oneN, itemX]
def vX : Ex := .mk 4 [120] 0 [] []
def vZ : Ex := .mk 4 [122] 0 [] []
def v0 : Ex := .mk 0 [] 0 [] []
theorem chk_x : checkQ false (oneP vX) = (0, 0, 0) := by kernel_rfl
theorem chk_z : checkQ false (oneP vZ) = (4, 0, 0) := by kernel_rfl
theorem vars_0 : varsQ (oneN v0) = [[120], [121]] := by kernel_rfl
theorem eq_fault (a b c : Int) (w : World) : (binOp .eql 29 (.agg #[.int .i64 a, .int .i64 b, .int .i64 c]) (.agg #[.int .i64 a, .int .i64 b, .int .i64 c])).run Tryz.prog w = .ok (.bool true) w := by
  rw [run_eql_struct, run_equalIn_agg w _ _ _ _ (by kernel_rfl) (by kernel_rfl)]
  simp [Program.fieldsOf, Tryz.underlying29, Op.eqFields, part, go_sem, Tryz.underlying3, Tryz.underlying27]
theorem field_prog (A B : Option Addr) (n c m d : Nat) (w : World) : (Instr.field 25 (.agg #[.slice A n c, .slice B m d]) 1).run Tryz.prog w = .ok (.slice B m d) w := by kernel_rfl
theorem field_fault (a b c : Int) (w : World) : (Instr.field 29 (.agg #[.int .i64 a, .int .i64 b, .int .i64 c]) 0).run Tryz.prog w = .ok (.int .i64 a) w := by kernel_rfl
set_option maxHeartbeats 4000000 in
set_option maxRecDepth 100000 in
theorem lives_any (w : World) : Calls Tryz.prog 9 #[] w (BoolPost true w) := by
  have hx1 : ExAt w [.int .i64 4, .string (str [120]), .int .i64 0, .slice none 0 0, .slice none 0 0] vX := ex_leaf w (i64_small (by omega)) (i64_small (by omega)) (len_small (by decide))
  have hx2 : ∀ w, ExAt w [.int .i64 4, .string (str [122]), .int .i64 0, .slice none 0 0, .slice none 0 0] vZ := fun w => ex_leaf w (i64_small (by omega)) (i64_small (by omega)) (len_small (by decide))
  have hx3 : ∀ w, ExAt w [.int .i64 0, .string (str []), .int .i64 0, .slice none 0 0, .slice none 0 0] v0 := fun w => ex_leaf w (i64_small (by omega)) (i64_small (by omega)) (len_small (by decide))
  have HX1 := Lib.hid (show Calls Tryz.prog 22 #[.agg #[.int .i64 4, .string ⟨#[120]⟩, .int .i64 0, .slice none 0 0, .slice none 0 0]] w (OnePost vX w) from one_any hx1 w (Below.refl _ _))
  have HX2 := Lib.hid (show ∀ w, Calls Tryz.prog 22 #[.agg #[.int .i64 4, .string ⟨#[122]⟩, .int .i64 0, .slice none 0 0, .slice none 0 0]] w (OnePost vZ w) from fun w => one_any (hx2 w) w (Below.refl _ _))
  have HX3 := Lib.hid (show ∀ w, Calls Tryz.prog 22 #[.agg #[.int .i64 0, .string ⟨#[]⟩, .int .i64 0, .slice none 0 0, .slice none 0 0]] w (OnePost v0 w) from fun w => one_any (hx3 w) w (Below.refl _ _))
  clear hx1 hx2 hx3
  have heq0 := eq_fault 0 0 0
  have heq4 := eq_fault 4 0 0
  have hfp := field_prog
  go_enter Tryz.func9, Tryz.ntmps9
  go_wp2_with (first
    | (go_at_call 22
       (with_reducible refine HX1.out.mono ?_)
       rintro e w1 ⟨N1, rfl, ⟨L1, hb1, hn1⟩, hB1⟩
       obtain ⟨W1, rfl⟩ : ∃ W, W = w1 := ⟨_, rfl⟩
       have HP1 := Lib.hid (one_prog hb1 hn1)
       have HB1 := Lib.hid hB1
       clear hb1 hn1 hB1)
    | (go_at_call 10
       (with_reducible refine (check_any false HP1.out (one_few _) _ (Below.refl _ _)).mono ?_)
       rintro e w2 ⟨he, hb2⟩
       rw [chk_x] at he
       subst he
       obtain ⟨W2, rfl⟩ : ∃ W, W = w2 := ⟨_, rfl⟩
       have HB2a := Lib.hid (HB1.out.trans (hb2.mono HB1.out.size))
       have HB2 := Lib.hid (HB2a.out.alloc HB2a.out.size (.cells #[.int .i64 0, .int .i64 0, .int .i64 0] 29))
       have BX1 := Lib.hid (heap_alloc_new W2 (.cells #[.int .i64 0, .int .i64 0, .int .i64 0] 29))
       clear hb2)
    | (go_at_call 22
       (with_reducible refine (HX2.out _).mono ?_)
       rintro e w3 ⟨N3, rfl, ⟨L3, hb3, hn3⟩, hB3⟩
       obtain ⟨W3, rfl⟩ : ∃ W, W = w3 := ⟨_, rfl⟩
       have HP3 := Lib.hid (one_prog hb3 hn3)
       have HB3 := Lib.hid (HB2.out.trans (hB3.mono HB2.out.size))
       have BX3 := Lib.hid (box_next hB3 BX1.out)
       clear hb3 hn3 hB3)
    | (go_at_call 10
       (with_reducible refine (check_any false HP3.out (one_few _) _ (Below.refl _ _)).mono ?_)
       rintro e w4 ⟨he, hb4⟩
       rw [chk_z] at he
       subst he
       obtain ⟨W4, rfl⟩ : ∃ W, W = w4 := ⟨_, rfl⟩
       have HB4a := Lib.hid (HB3.out.trans (hb4.mono HB3.out.size))
       have HB4 := Lib.hid (HB4a.out.alloc HB4a.out.size (.cells #[.int .i64 4, .int .i64 0, .int .i64 0] 29))
       have BX4 := Lib.hid (box_next hb4 BX3.out)
       obtain ⟨_, _, _⟩ := row3 BX4.out
       obtain ⟨_, _, _⟩ := row3 (alloc_below (o := .cells #[.int .i64 4, .int .i64 0, .int .i64 0] 29) BX4.out)
       clear hb4)
    | (go_at_call 22
       (with_reducible refine (HX3.out _).mono ?_)
       rintro e w5 ⟨N5, rfl, ⟨L5, hb5, hn5⟩, hB5⟩
       obtain ⟨W5, rfl⟩ : ∃ W, W = w5 := ⟨_, rfl⟩
       have HN5 := Lib.hid hn5
       have HB5 := Lib.hid (HB4.out.trans (hB5.mono HB4.out.size))
       obtain ⟨s0, A1, m1, k1, A2, m2, k2, A3, m3, k3, A4, m4, k4, rfl⟩ := hn5.shape
       obtain ⟨_, _, _, _, _⟩ := row5 hb5
       clear hb5 hn5 hB5)
    | (go_at_call 17
       (with_reducible refine (vars_any HN5.out (by rw [vars_0]; decide) _ (Below.refl _ _)).mono ?_)
       rintro e w6 ⟨v6, rfl, ho6, hb6⟩
       obtain ⟨A6, n6, c6, rfl, hn6⟩ := ho6.shape
       rw [vars_0] at hn6
       replace hn6 : n6 = 2 := hn6
       subst hn6
       have HB6 := Lib.hid (HB5.out.trans (hb6.mono HB5.out.size))
       clear hb6 ho6))
  go_ret
  exact ⟨rfl, HB6.out⟩
end Go.Proofs.YtbpbnebcbjacdaaGreat
