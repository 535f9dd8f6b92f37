/-
  The laws' own look that the program lives: one, lives.
  ScopeFirst: the first nodes alone are well: the mathematics, and the walk.
  ScopeVars: what a node without a fault defines: the mathematics, and the walk.
  ScopeFinds: Con of scope; the reference's Con, Node, Defines, Vars; the walk.
-/
import Derived.Test.YtbpbnebcbjacdaaGreatScopeChk
import Derived.Test.YtbpbnebcbjacdaaGreatScopeVars
import Derived.Laws.StructEq
import Derived.Test.YtbpbnebcbjacdaaGreatHeld
import Derived.Test.YtbpbnebcbjacdaaGreatTreeOpen
import Derived.IntWalk
import Derived.Test.YtbpbnebcbjacdaaGreatTreeRSame
namespace Go.Proofs.YtbpbnebcbjacdaaGreat
open Go.RowKit

def oneN (x : Ex) : QNode := ⟨[102], [], [[120]], [[121]], [⟨⟨[[121]], x⟩, []⟩]⟩
def oneP (x : Ex) : QProg := ⟨[], [oneN x]⟩
theorem prog_size : (Tryz.prog.info? 25).map (·.size) = some 2 := by kernel_rfl
set_option maxRecDepth 100000 in
theorem one_results {tmps : Array Value} {w : World} {N : Nat} {x0 x1 : Value} (hp : tmps.getD 2 undef = .pointer (some ⟨N, 0, none⟩)) (hg : w.heap[N]? = some (.cells #[x0, x1] 25 (0, 0))) :
    (results Tryz.f22 tmps).run Tryz.prog w = .ok (.agg #[x0, x1]) w :=
  results_cell_row Tryz.results22 tmps w N 25 _ (0, 0) _ hp hg Tryz.underlying25 rfl prog_size
def OnePost (x : Ex) (w : World) (e : Ending) (w' : World) : Prop := ∃ N, e = .returned (.agg #[.slice none 0 0, .slice (some ⟨N, 0, none⟩) 1 1]) ∧ (∃ L : List Value, w'.heap[N]? = some (.cells L.toArray 41 (0, 0)) ∧ NodeAt w' L (oneN x)) ∧ Below w.heap.size w w'
set_option maxHeartbeats 2000000 in
set_option maxRecDepth 100000 in
theorem one_any {w0 : World} {L : List Value} {x : Ex} (hx : ExAt w0 L x) : ∀ w, Below w0.heap.size w0 w → Calls Tryz.prog 22 #[.agg L.toArray] w (OnePost x w) := by
  intro w hb
  have HX := Lib.hid (hx.under hb)
  obtain ⟨o, s, n, A1, n1, k1, A2, n2, k2, rfl⟩ := hx.shape
  clear hx hb
  go_enter Tryz.func22, Tryz.ntmps22
  go_wp2_with fail
  generalize hW : (((((((w.alloc (.cells #[.int .i64 o, .string s, .int .i64 n, .slice A1 n1 k1, .slice A2 n2 k2] 50)).alloc (.cells #[.slice none 0 0, .slice (some ⟨w.heap.size + 1 + 1 + 1 + 1 + 1 + 1, 0, none⟩) 1 1] 25)).alloc (.cells #[.string ⟨#[120]⟩] 9)).alloc (.cells #[.string ⟨#[121]⟩] 9)).alloc (.cells #[.string ⟨#[121]⟩] 9)).alloc (.cells #[.slice (some ⟨w.heap.size + 1 + 1 + 1 + 1, 0, none⟩) 1 1, .int .i64 o, .string s, .int .i64 n, .slice A1 n1 k1, .slice A2 n2 k2, .slice none 0 0] 55)).alloc (.cells #[.string ⟨#[102]⟩, .slice none 0 0, .slice (some ⟨w.heap.size + 1 + 1, 0, none⟩) 1 1, .slice (some ⟨w.heap.size + 1 + 1 + 1, 0, none⟩) 1 1, .slice (some ⟨w.heap.size + 1 + 1 + 1 + 1 + 1, 0, none⟩) 1 1] 41)) = W
  have h1 : W.heap[w.heap.size + 1]? = some (.cells #[.slice none 0 0, .slice (some ⟨w.heap.size + 1 + 1 + 1 + 1 + 1 + 1, 0, none⟩) 1 1] 25 (0, 0)) := by rw [← hW]; exact alloc_below (alloc_below (alloc_below (alloc_below (alloc_below (alloc_at (by simp))))))
  have h2 : W.heap[w.heap.size + 1 + 1]? = some (.cells #[.string ⟨#[120]⟩] 9 (0, 0)) := by rw [← hW]; exact alloc_below (alloc_below (alloc_below (alloc_below (alloc_at (by simp)))))
  have h3 : W.heap[w.heap.size + 1 + 1 + 1]? = some (.cells #[.string ⟨#[121]⟩] 9 (0, 0)) := by rw [← hW]; exact alloc_below (alloc_below (alloc_below (alloc_at (by simp))))
  have h4 : W.heap[w.heap.size + 1 + 1 + 1 + 1]? = some (.cells #[.string ⟨#[121]⟩] 9 (0, 0)) := by rw [← hW]; exact alloc_below (alloc_below (alloc_at (by simp)))
  have h5 : W.heap[w.heap.size + 1 + 1 + 1 + 1 + 1]? = some (.cells #[.slice (some ⟨w.heap.size + 1 + 1 + 1 + 1, 0, none⟩) 1 1, .int .i64 o, .string s, .int .i64 n, .slice A1 n1 k1, .slice A2 n2 k2, .slice none 0 0] 55 (0, 0)) := by rw [← hW]; exact alloc_below (alloc_at (by simp))
  have h6 : W.heap[w.heap.size + 1 + 1 + 1 + 1 + 1 + 1]? = some (.cells #[.string ⟨#[102]⟩, .slice none 0 0, .slice (some ⟨w.heap.size + 1 + 1, 0, none⟩) 1 1, .slice (some ⟨w.heap.size + 1 + 1 + 1, 0, none⟩) 1 1, .slice (some ⟨w.heap.size + 1 + 1 + 1 + 1 + 1, 0, none⟩) 1 1] 41 (0, 0)) := by rw [← hW]; exact alloc_at (by simp)
  have hB : Below w.heap.size w W := by rw [← hW]; exact ((((((((Below.refl w.heap.size w).alloc (Nat.le_refl _) _).alloc (by simp <;> omega) _).alloc (by simp <;> omega) _).alloc (by simp <;> omega) _).alloc (by simp <;> omega) _).alloc (by simp <;> omega) _).alloc (by simp <;> omega) _)
  have s2 : StrsAt W (.slice (some ⟨w.heap.size + 1 + 1, 0, none⟩) 1 1) [[120]] := made1 h2 ⟨rfl, len_small (by decide)⟩ rfl
  have s3 : StrsAt W (.slice (some ⟨w.heap.size + 1 + 1 + 1, 0, none⟩) 1 1) [[121]] := made1 h3 ⟨rfl, len_small (by decide)⟩ rfl
  have s4 : StrsAt W (.slice (some ⟨w.heap.size + 1 + 1 + 1 + 1, 0, none⟩) 1 1) [[121]] := made1 h4 ⟨rfl, len_small (by decide)⟩ rfl
  have i5 : ItemAt W [.slice (some ⟨w.heap.size + 1 + 1 + 1 + 1, 0, none⟩) 1 1, .int .i64 o, .string s, .int .i64 n, .slice A1 n1 k1, .slice A2 n2 k2, .slice none 0 0] ⟨⟨[[121]], x⟩, []⟩ :=
    ⟨[.slice (some ⟨w.heap.size + 1 + 1 + 1 + 1, 0, none⟩) 1 1, .int .i64 o, .string s, .int .i64 n, .slice A1 n1 k1, .slice A2 n2 k2], .slice none 0 0, rfl, ⟨_, _, rfl, s4, HX.out.under hB⟩, none, 0, rfl, Nat.le_refl _, by unfold maxLen; omega, fun i x h => by simp at h⟩
  have n6 : NodeAt W [.string ⟨#[102]⟩, .slice none 0 0, .slice (some ⟨w.heap.size + 1 + 1, 0, none⟩) 1 1, .slice (some ⟨w.heap.size + 1 + 1 + 1, 0, none⟩) 1 1, .slice (some ⟨w.heap.size + 1 + 1 + 1 + 1 + 1, 0, none⟩) 1 1] (oneN x) :=
    ⟨_, _, _, _, rfl, show ([102] : Tx).length ≤ maxLen from len_small (by decide), strs_none W, s2, s3, made1 h5 i5 rfl⟩
  exact bodyPost_ret (one_results rfl h1) rfl ⟨_, rfl, ⟨_, h6, n6⟩, hB⟩
theorem one_prog {w : World} {N : Nat} {L : List Value} {x : Ex} (h : w.heap[N]? = some (.cells L.toArray 41 (0, 0))) (hn : NodeAt w L (oneN x)) : ProgAt w [.slice none 0 0, .slice (some ⟨N, 0, none⟩) 1 1] (oneP x) :=
  ⟨_, _, rfl, ⟨none, 0, rfl, Nat.le_refl _, by unfold maxLen; omega, fun i x h => by simp [oneP] at h⟩, made1 h hn (by simp)⟩
theorem one_few (x : Ex) : ∀ y ∈ (oneP x).nodes, (nodeX y).length ≤ 1048576 := by intro y hy; simp [oneP] at hy; subst hy; simp [nodeX, oneN, itemX]
def vX : Ex := .mk 4 [120] 0 [] []
def vZ : Ex := .mk 4 [122] 0 [] []
def v0 : Ex := .mk 0 [] 0 [] []
theorem chk_x : checkQ false (oneP vX) = (0, 0, 0) := by kernel_rfl
theorem chk_z : checkQ false (oneP vZ) = (4, 0, 0) := by kernel_rfl
theorem vars_0 : varsQ (oneN v0) = [[120], [121]] := by kernel_rfl
theorem eq_fault (a b c : Int) (w : World) : (binOp .eql 29 (.agg #[.int .i64 a, .int .i64 b, .int .i64 c]) (.agg #[.int .i64 a, .int .i64 b, .int .i64 c])).run Tryz.prog w = .ok (.bool true) w := by
  rw [run_eql_struct, run_equalIn_agg w _ _ _ _ (by kernel_rfl) (by kernel_rfl)]
  simp [Program.fieldsOf, Tryz.underlying29, Op.eqFields, part, go_sem, Tryz.underlying3, Tryz.underlying27]
theorem field_prog (A B : Option Addr) (n c m d : Nat) (w : World) : (Instr.field 25 (.agg #[.slice A n c, .slice B m d]) 1).run Tryz.prog w = .ok (.slice B m d) w := by kernel_rfl
theorem field_fault (a b c : Int) (w : World) : (Instr.field 29 (.agg #[.int .i64 a, .int .i64 b, .int .i64 c]) 0).run Tryz.prog w = .ok (.int .i64 a) w := by kernel_rfl
set_option maxHeartbeats 4000000 in
set_option maxRecDepth 100000 in
theorem lives_any (w : World) : Calls Tryz.prog 9 #[] w (BoolPost true w) := by
  have hx1 : ExAt w [.int .i64 4, .string (str [120]), .int .i64 0, .slice none 0 0, .slice none 0 0] vX := ex_leaf w (i64_small (by omega)) (i64_small (by omega)) (len_small (by decide))
  have hx2 : ∀ w, ExAt w [.int .i64 4, .string (str [122]), .int .i64 0, .slice none 0 0, .slice none 0 0] vZ := fun w => ex_leaf w (i64_small (by omega)) (i64_small (by omega)) (len_small (by decide))
  have hx3 : ∀ w, ExAt w [.int .i64 0, .string (str []), .int .i64 0, .slice none 0 0, .slice none 0 0] v0 := fun w => ex_leaf w (i64_small (by omega)) (i64_small (by omega)) (len_small (by decide))
  have HX1 := Lib.hid (show Calls Tryz.prog 22 #[.agg #[.int .i64 4, .string ⟨#[120]⟩, .int .i64 0, .slice none 0 0, .slice none 0 0]] w (OnePost vX w) from one_any hx1 w (Below.refl _ _))
  have HX2 := Lib.hid (show ∀ w, Calls Tryz.prog 22 #[.agg #[.int .i64 4, .string ⟨#[122]⟩, .int .i64 0, .slice none 0 0, .slice none 0 0]] w (OnePost vZ w) from fun w => one_any (hx2 w) w (Below.refl _ _))
  have HX3 := Lib.hid (show ∀ w, Calls Tryz.prog 22 #[.agg #[.int .i64 0, .string ⟨#[]⟩, .int .i64 0, .slice none 0 0, .slice none 0 0]] w (OnePost v0 w) from fun w => one_any (hx3 w) w (Below.refl _ _))
  clear hx1 hx2 hx3
  have heq0 := eq_fault 0 0 0
  have heq4 := eq_fault 4 0 0
  have hfp := field_prog
  go_enter Tryz.func9, Tryz.ntmps9
  go_wp2_with (first
    | (go_at_call 22
       (with_reducible refine HX1.out.mono ?_)
       rintro e w1 ⟨N1, rfl, ⟨L1, hb1, hn1⟩, hB1⟩
       obtain ⟨W1, rfl⟩ : ∃ W, W = w1 := ⟨_, rfl⟩
       have HP1 := Lib.hid (one_prog hb1 hn1)
       have HB1 := Lib.hid hB1
       clear hb1 hn1 hB1)
    | (go_at_call 10
       (with_reducible refine (check_any false HP1.out (one_few _) _ (Below.refl _ _)).mono ?_)
       rintro e w2 ⟨he, hb2⟩
       rw [chk_x] at he
       subst he
       obtain ⟨W2, rfl⟩ : ∃ W, W = w2 := ⟨_, rfl⟩
       have HB2a := Lib.hid (HB1.out.trans (hb2.mono HB1.out.size))
       have HB2 := Lib.hid (HB2a.out.alloc HB2a.out.size (.cells #[.int .i64 0, .int .i64 0, .int .i64 0] 29))
       have BX1 := Lib.hid (heap_alloc_new W2 (.cells #[.int .i64 0, .int .i64 0, .int .i64 0] 29))
       clear hb2)
    | (go_at_call 22
       (with_reducible refine (HX2.out _).mono ?_)
       rintro e w3 ⟨N3, rfl, ⟨L3, hb3, hn3⟩, hB3⟩
       obtain ⟨W3, rfl⟩ : ∃ W, W = w3 := ⟨_, rfl⟩
       have HP3 := Lib.hid (one_prog hb3 hn3)
       have HB3 := Lib.hid (HB2.out.trans (hB3.mono HB2.out.size))
       have BX3 := Lib.hid (box_next hB3 BX1.out)
       clear hb3 hn3 hB3)
    | (go_at_call 10
       (with_reducible refine (check_any false HP3.out (one_few _) _ (Below.refl _ _)).mono ?_)
       rintro e w4 ⟨he, hb4⟩
       rw [chk_z] at he
       subst he
       obtain ⟨W4, rfl⟩ : ∃ W, W = w4 := ⟨_, rfl⟩
       have HB4a := Lib.hid (HB3.out.trans (hb4.mono HB3.out.size))
       have HB4 := Lib.hid (HB4a.out.alloc HB4a.out.size (.cells #[.int .i64 4, .int .i64 0, .int .i64 0] 29))
       have BX4 := Lib.hid (box_next hb4 BX3.out)
       obtain ⟨_, _, _⟩ := row3 BX4.out
       obtain ⟨_, _, _⟩ := row3 (alloc_below (o := .cells #[.int .i64 4, .int .i64 0, .int .i64 0] 29) BX4.out)
       clear hb4)
    | (go_at_call 22
       (with_reducible refine (HX3.out _).mono ?_)
       rintro e w5 ⟨N5, rfl, ⟨L5, hb5, hn5⟩, hB5⟩
       obtain ⟨W5, rfl⟩ : ∃ W, W = w5 := ⟨_, rfl⟩
       have HN5 := Lib.hid hn5
       have HB5 := Lib.hid (HB4.out.trans (hB5.mono HB4.out.size))
       obtain ⟨s0, A1, m1, k1, A2, m2, k2, A3, m3, k3, A4, m4, k4, rfl⟩ := hn5.shape
       obtain ⟨_, _, _, _, _⟩ := row5 hb5
       clear hb5 hn5 hB5)
    | (go_at_call 17
       (with_reducible refine (vars_any HN5.out (by rw [vars_0]; decide) _ (Below.refl _ _)).mono ?_)
       rintro e w6 ⟨v6, rfl, ho6, hb6⟩
       obtain ⟨A6, n6, c6, rfl, hn6⟩ := ho6.shape
       rw [vars_0] at hn6
       replace hn6 : n6 = 2 := hn6
       subst hn6
       have HB6 := Lib.hid (HB5.out.trans (hb6.mono HB5.out.size))
       clear hb6 ho6))
  go_ret
  exact ⟨rfl, HB6.out⟩
end Go.Proofs.YtbpbnebcbjacdaaGreat
namespace Go.Proofs.YtbpbnebcbjacdaaGreat
open Go.RowKit

theorem nodesF_cases (l : List QNode) : ∀ (k : Int) (s : SProg), (nodesF k s l).1 = 0 → nodesF k s l = (0, 0, 0) := by
  induction l with
  | nil => intro k s _; rfl
  | cons n r ih =>
    intro k s h
    cases hs : nodeStep s n with
    | inr b => rw [nodesF_no hs] at h; cases h
    | inl s' => rw [nodesF_yes hs] at h ⊢; exact ih _ _ h
theorem check_zero {made : Bool} {p : QProg} (h : (checkQ made p).1 = 0) : checkQ made p = (0, 0, 0) ∧ rightL made p = 0 ∧ ∃ s, enumsF 0 .new p.enums = .inl s ∧ nodesF 0 s p.nodes = (0, 0, 0) := by
  by_cases h0 : rightL made p = 0
  · cases he : enumsF 0 .new p.enums with
    | inr i => rw [check_enum h0 he] at h; cases h
    | inl s =>
      rw [check_nodes h0 he] at h ⊢
      have := nodesF_cases _ _ _ h
      exact ⟨this, h0, s, rfl, this⟩
  · rw [check_bad h0] at h; exact absurd h h0
theorem nodesF_take (l : List QNode) : ∀ (j : Nat) (k : Int) (s : SProg), nodesF k s l = (0, 0, 0) → nodesF k s (l.take j) = (0, 0, 0) := by
  induction l with
  | nil => intro j k s _; simp [nodesF]
  | cons n r ih =>
    intro j k s h
    cases j with
    | zero => rfl
    | succ j =>
      cases hs : nodeStep s n with
      | inr b => rw [nodesF_no hs] at h; cases h
      | inl s' =>
        rw [nodesF_yes hs] at h
        rw [List.take_succ_cons, nodesF_yes hs]
        exact ih j _ _ h
theorem right_pos {made : Bool} {p : QProg} (h : rightL made p = 0) : 1 ≤ p.nodes.length ∧ p.nodes.length ≤ 16 := by
  have h1 := (rightL_zero h).1
  unfold rightP at h1
  rw [Bool.and_eq_true] at h1
  have h2 := allM_len h1.2
  exact ⟨h2.1, h2.2.1⟩
theorem allM_mk {X : Type} {l : List X} {a b : Nat} {f : X → Bool} (h1 : a ≤ l.length) (h2 : l.length ≤ b) (h3 : ∀ x ∈ l, f x = true) : allM l a b f = true := by
  unfold allM
  rw [Bool.and_eq_true, Bool.and_eq_true, decide_eq_true_eq, decide_eq_true_eq, List.all_eq_true]
  exact ⟨⟨h1, h2⟩, h3⟩
theorem right_sub {made : Bool} {p : QProg} (h : rightL made p = 0) {l : List QNode} (h1 : 1 ≤ l.length) (h2 : l.length ≤ 16) (hs : ∀ n ∈ l, n ∈ p.nodes) : rightL made ⟨p.enums, l⟩ = 0 := by
  obtain ⟨hp, hl⟩ := rightL_zero h
  have hp' := hp
  unfold rightP at hp'
  rw [Bool.and_eq_true] at hp'
  have h3 : rightP made ⟨p.enums, l⟩ = true := by
    unfold rightP
    rw [Bool.and_eq_true]
    exact ⟨hp'.1, allM_mk h1 h2 (fun n hn => (allM_len hp'.2).2.2 n (hs n hn))⟩
  have h4 : l.any largeN = false := by
    rw [List.any_eq_false] at hl ⊢
    exact fun n hn => hl n (hs n hn)
  show (if rightP made ⟨p.enums, l⟩ = true then (if l.any largeN = true then (9 : Int) else 0) else 10) = 0
  rw [if_pos h3, h4]; rfl
theorem first_ok {made : Bool} {p : QProg} (h : (checkQ made p).1 = 0) {k : Nat} (hk : 1 ≤ k) : checkQ made ⟨p.enums, p.nodes.take k⟩ = (0, 0, 0) := by
  obtain ⟨_, h0, s, he, hn⟩ := check_zero h
  obtain ⟨h1, h2⟩ := right_pos h0
  have h3 := right_sub (l := p.nodes.take k) h0 (by rw [List.length_take]; omega) (by rw [List.length_take]; omega) (fun n hn => List.mem_of_mem_take hn)
  rw [check_nodes (p := ⟨p.enums, p.nodes.take k⟩) h3 he]
  exact nodesF_take _ _ _ _ hn
theorem SliceAt.take {X : Type} {w : World} {R : List Value → X → Prop} {A : Option Addr} {c : Nat} {l : List X} (h : SliceAt w R (.slice A l.length c) l) {k : Nat} (hk : k ≤ l.length) : SliceAt w R (.slice A k c) (l.take k) := by
  obtain ⟨A', c', e, h1, h2, h3⟩ := h
  injection e with e1 _ e3
  subst e1 e3
  exact ⟨A, c, by rw [List.length_take, Nat.min_eq_left hk], by rw [List.length_take]; omega, h2, fun i x hx => h3 i x (by
    rw [List.getElem?_take] at hx
    split at hx
    · exact hx
    · cases hx)⟩
/-- what a law's walk ends in -/
def Lived (W : World) (e : Ending) (W' : World) : Prop := e = .returned (.bool true) ∧ Below W.heap.size W W'
theorem prog_shape {w : World} {L : List Value} {p : QProg} (h : ProgAt w L p) : ∃ A1 n1 k1 A2 n2 k2, L = [.slice A1 n1 k1, .slice A2 n2 k2] := by
  obtain ⟨ev, nv, rfl, h1, h2⟩ := h
  obtain ⟨_, _, _, rfl⟩ := SliceAt.shape h1
  obtain ⟨_, _, _, rfl⟩ := SliceAt.shape h2
  exact ⟨_, _, _, _, _, _, rfl⟩
end Go.Proofs.YtbpbnebcbjacdaaGreat
namespace Go.Proofs.YtbpbnebcbjacdaaGreat
open Go.RowKit

theorem itemsF_vars (l : List QItem) : ∀ (b : Int) (s : SProg) (vars : List Tx) (s' : SProg) (vars' : List Tx), vars.Nodup → itemsF b s vars l = .inl (s', vars') → vars' = vars ++ l.flatMap definedQ ∧ vars'.Nodup := by
  induction l with
  | nil => intro b s vars s' vars' hv h; cases h; exact ⟨by simp, hv⟩
  | cons i r ih =>
    intro b s vars s' vars' hv h
    rw [itemsF_cons] at h
    split at h
    · rename_i hok
      rw [itemOk, Bool.and_eq_true] at hok
      have hn := (recOk_iff _ _ hv).1 hok.1
      obtain ⟨h1, h2⟩ := ih _ _ _ _ _ hn h
      exact ⟨by rw [h1, List.flatMap_cons, List.append_assoc], h2⟩
    · cases h
theorem usesF_none (s : SNode) (l : List QItem) : ∀ b, usesF s b l = none → ∀ i ∈ l, usesItem s i = true := by
  induction l with
  | nil => intro b _ i hi; cases hi
  | cons x r ih =>
    intro b h i hi
    rw [usesF_cons] at h
    split at h
    · rename_i hx
      rcases List.mem_cons.1 hi with rfl | hi
      · exact hx
      · exact ih _ h i hi
    · cases h
theorem step_parts {s s' : SProg} {n : QNode} (h : nodeStep s n = .inl s') : headOk s n = true ∧ ∃ s1 vars, itemsF 0 s n.ins n.items = .inl (s1, vars) ∧ (n.outs.all (n.items.flatMap definedQ).contains) = true ∧ usesF ⟨s1, n.funs, vars⟩ 0 n.items = none ∧ s' = { s1 with nodes := s1.nodes ++ [(n.name, n)] } := by
  cases hh : headOk s n
  · rw [step_head hh] at h; cases h
  · refine ⟨rfl, ?_⟩
    cases hi : itemsF 0 s n.ins n.items with
    | inr b => rw [step_items hh hi] at h; cases h
    | inl x =>
      obtain ⟨s1, vars⟩ := x
      cases ho : n.outs.all (n.items.flatMap definedQ).contains
      · rw [step_outs hh hi ho] at h; cases h
      · cases hu : usesF ⟨s1, n.funs, vars⟩ 0 n.items with
        | some b => rw [step_uses hh hi ho hu] at h; cases h
        | none =>
          rw [step_ok hh hi ho hu] at h
          cases h
          exact ⟨s1, vars, rfl, rfl, hu, rfl⟩
theorem head_ins {s : SProg} {n : QNode} (h : headOk s n = true) : n.ins.Nodup := by
  unfold headOk at h
  simp only [Bool.and_eq_true] at h
  have h1 := rec_right h.2.1
  rw [recOk_iff _ _ List.nodup_nil] at h1
  simpa using h1
/-- what is true of a node without a fault -/
structure NodeWell (n : QNode) : Prop where
  nodup : (varsQ n).Nodup
  outs : ∀ o ∈ n.outs, o ∈ varsQ n ∧ o ∉ n.ins
  var : ∀ i ∈ n.items, i.states = [] → ∀ op nm m cs ks, i.eq.e = .mk op nm m cs ks → op = 4 → nm ∈ varsQ n
theorem node_well {s s' : SProg} {n : QNode} (h : nodeStep s n = .inl s') : NodeWell n := by
  obtain ⟨hh, s1, vars, hi, ho, hu, _⟩ := step_parts h
  obtain ⟨hv, hn⟩ := itemsF_vars _ _ _ _ _ _ (head_ins hh) hi
  have hV : vars = varsQ n := hv
  subst hV
  refine ⟨hn, fun o hoo => ?_, fun i hit hst op nm m cs ks he hop => ?_⟩
  · have h1 := List.all_eq_true.1 ho o hoo
    rw [List.contains_iff_mem] at h1
    refine ⟨List.mem_append_right _ h1, fun h2 => ?_⟩
    exact (List.nodup_append.1 hn).2.2 o h2 o h1 rfl
  · have h1 := usesF_none _ _ _ hu i hit
    rw [usesItem, if_pos hst, he, uses_mk, Bool.and_eq_true] at h1
    have h2 := h1.1
    rw [usesName, if_pos hop] at h2
    exact List.contains_iff_mem.1 h2
theorem nodesF_well (l : List QNode) : ∀ (k : Int) (s : SProg), nodesF k s l = (0, 0, 0) → ∀ n ∈ l, NodeWell n := by
  induction l with
  | nil => intro k s _ n hn; cases hn
  | cons x r ih =>
    intro k s h n hn
    cases hs : nodeStep s x with
    | inr b => rw [nodesF_no hs] at h; cases h
    | inl s' =>
      rw [nodesF_yes hs] at h
      rcases List.mem_cons.1 hn with rfl | hn
      · exact node_well hs
      · exact ih _ _ h n hn
theorem check_well {made : Bool} {p : QProg} (h : (checkQ made p).1 = 0) : ∀ n ∈ p.nodes, NodeWell n := by
  obtain ⟨_, _, s, _, hn⟩ := check_zero h
  exact nodesF_well _ _ _ hn
theorem defined_few (i : QItem) : (definedQ i).length ≤ wItem i := by
  obtain ⟨⟨nm, e⟩, sts⟩ := i
  cases sts with
  | nil =>
    have := len_wN nm
    show nm.length ≤ _
    simp only [wItem, wEq, wL]
    omega
  | cons z r =>
    have h1 := len_flat (f := QEq.names) (g := wEq) (l := z.eqs) (fun q _ => by have := len_wN q.names; simp only [wEq]; omega)
    show (z.eqs.flatMap QEq.names).length ≤ _
    simp only [wItem, wL, wState]
    omega
theorem vars_few {p : QProg} (hp : wProg p ≤ 1048576) {n : QNode} (hn : n ∈ p.nodes) : (varsQ n).length ≤ 2097152 := by
  have h1 := wL_mem (f := wNode) hn
  have h2 := len_flat (f := definedQ) (g := wItem) (l := n.items) (fun i _ => defined_few i)
  have h3 := len_wN n.ins
  unfold wProg at hp
  unfold varsQ
  rw [List.length_append]
  simp only [wNode] at h1
  omega
theorem nodup_take {l : List Tx} (h : l.Nodup) {i : Nat} {x : Tx} (hx : l[i]? = some x) : (l.take i).contains x = false := by
  rw [← Bool.not_eq_true, List.contains_iff_mem]
  intro hm
  obtain ⟨j, hj⟩ := List.getElem?_of_mem hm
  rw [List.getElem?_take] at hj
  split at hj
  · rename_i hji
    have h1 := (List.getElem?_inj (List.getElem?_eq_some_iff.1 hj).1 h).1 (hj.trans hx.symm)
    omega
  · cases hj
end Go.Proofs.YtbpbnebcbjacdaaGreat
namespace Go.Proofs.YtbpbnebcbjacdaaGreat
open Go.RowKit

/-- the enum and the place of a constructor -/
def conF (k : Int) (s : Tx) : List QEnum → Int × Int × Bool
  | [] => (0, 0, false)
  | e :: r => if 0 ≤ idxL e.cons s then (k, idxL e.cons s, true) else conF (k + 1) s r
def conQ (p : QProg) (s : Tx) : Int × Int × Bool := if 0 ≤ idxL boolsL s then (-1, idxL boolsL s, true) else conF 0 s p.enums
def ConRet (r : Int × Int × Bool) (w : World) (e : Ending) (w' : World) : Prop := e = .returned (.tuple #[.int .i64 r.1, .int .i64 r.2.1, .bool r.2.2]) ∧ Below w.heap.size w w'
set_option maxHeartbeats 4000000 in
theorem rnode_any {w0 : World} {L : List Value} {p : QProg} (hL : ProgAt w0 L p) (s : Tx) : ∀ w, Below w0.heap.size w0 w → Calls Tryz.prog 15 #[.agg L.toArray, .string (str s)] w (NodeRet (nodeF 0 s p.nodes) w) := by
  intro w hb
  have HB := Lib.hid hb
  have hsz := hb.size
  obtain ⟨ev, nv, rfl, he, hn⟩ := hL
  obtain ⟨E, en, ek, rfl⟩ := SliceAt.shape he
  obtain ⟨C, ck, rfl, hcc, hmc, hce⟩ := hn
  have hnl : p.nodes.length ≤ 9223372036854775807 := by have h : p.nodes.length ≤ ck := hcc; unfold maxLen at hmc; omega
  have HCE := Lib.hid hce
  have HV := Lib.hid ((Below.refl w.heap.size w).alloc (Nat.le_refl _) (.cells #[.slice E en ek, .slice C p.nodes.length ck] 25))
  have BP := Lib.hid (heap_alloc_new w (.cells #[.slice E en ek, .slice C p.nodes.length ck] 25))
  clear hb he hcc hmc hce
  go_enter Tryz.func15, Tryz.ntmps15
  go_wp2_with fail
  generalize w.alloc (.cells #[.slice E en ek, .slice C p.nodes.length ck] 25) = V at *
  go_loopg [6] p.nodes.length (fun g v wr => ∃ k : Nat, k + g = p.nodes.length ∧ v = .int .i64 k ∧ nodeF 0 s p.nodes = nodeF k s (p.nodes.drop k) ∧ Below V.heap.size V wr)
  case atStart => exact ⟨0, by omega, rfl, rfl, Below.refl _ _⟩
  case round =>
    obtain ⟨wq, rfl⟩ : ∃ W, W = wr := ⟨_, rfl⟩
    obtain ⟨k, hkg, rfl, hr, hbw⟩ := hrel
    have HK := Lib.hid hkg
    have HR := Lib.hid hr
    have HW := Lib.hid hbw
    have HVW := Lib.hid (HV.out.trans (hbw.mono HV.out.size))
    have HBQ := Lib.hid (HB.out.trans (HVW.out.mono hsz))
    obtain ⟨p0, p1⟩ := row2 (box_next hbw BP.out)
    have hkl : k ≤ p.nodes.length := by omega
    clear hkg hr hbw
    by_cases hlt : k < p.nodes.length
    · obtain ⟨n, hn⟩ : ∃ n, p.nodes[k]? = some n := ⟨_, List.getElem?_eq_getElem hlt⟩
      have HDR := Lib.hid (drop_consS hn)
      obtain ⟨Ln, hEn, fv, iv, ov, xv, rfl, _, hfu, hin, hou, hit⟩ := HCE.out k n hn
      obtain ⟨a, ea, ha, haa, d0, d1, d2, d3, d4⟩ := elem5 (hEn.under HBQ.out)
      subst ea
      clear hn hEn hfu hin hou hit d1 d2 d3 d4
      by_cases hs : n.name = s
      · have hb : ((str n.name).toList == (str s).toList) = true := by rw [hs]; simp
        have HN := Lib.hid (show nodeF 0 s p.nodes = ((k : Int), true) by rw [HR.out, HDR.out, nodeF, if_pos hs])
        clear hs
        go_wp2_with fail
        go_ret2
        exact ⟨by rw [HN.out]; rfl, HVW.out⟩
      · have hb : ((str n.name).toList == (str s).toList) = false := by rw [str_toL, str_toL]; simp; exact hs
        have HN := Lib.hid (show nodeF 0 s p.nodes = nodeF (k + 1 : Nat) s (p.nodes.drop (k + 1)) by rw [HR.out, HDR.out, nodeF, if_neg hs]; rfl)
        clear hs
        go_wp2_with fail
        go_roundg (p.nodes.length - (k + 1))
        case measure => have := HK.out; omega
        case rel => exact ⟨k + 1, by omega, by go_num, HN.out, HW.out⟩
    · have hke : k = p.nodes.length := by omega
      have HN := Lib.hid (show nodeF 0 s p.nodes = (0, false) by rw [HR.out, hke, List.drop_length]; rfl)
      clear hke
      go_wp2_with fail
      go_ret2
      exact ⟨by rw [HN.out]; rfl, HVW.out⟩
theorem idx_bools (s : Tx) : idxL boolsL s = if [70, 97, 108, 115, 101] = s then 0 else if [84, 114, 117, 101] = s then 1 else -1 := by
  simp only [idxL, boolsL, idxF]; rfl
set_option maxHeartbeats 4000000 in
set_option maxRecDepth 100000 in
theorem rcon_any {w0 : World} {L : List Value} {p : QProg} (hL : ProgAt w0 L p) (s : Tx) : ∀ w, Below w0.heap.size w0 w → Calls Tryz.prog 13 #[.agg L.toArray, .string (str s)] w (ConRet (conQ p s) w) := by
  intro w hb
  have HB := Lib.hid hb
  have hsz := hb.size
  obtain ⟨ev, nv, rfl, he, hn⟩ := hL
  obtain ⟨C, cn, ck, rfl⟩ := SliceAt.shape hn
  obtain ⟨E, ek, rfl, hec, hem, hee⟩ := he
  have hel : p.enums.length ≤ 9223372036854775807 := by have h : p.enums.length ≤ ek := hec; unfold maxLen at hem; omega
  have HEE := Lib.hid hee
  have hal := Lib.hid ((Below.refl w.heap.size w).alloc (Nat.le_refl _) (.cells #[.slice E p.enums.length ek, .slice C cn ck] 25))
  have BP := Lib.hid (heap_alloc_new w (.cells #[.slice E p.enums.length ek, .slice C cn ck] 25))
  clear hb hec hem hee hn
  have HQ := Lib.hid (show conQ p s = if 0 ≤ idxL boolsL s then (-1, idxL boolsL s, true) else conF 0 s p.enums from rfl)
  by_cases h1 : s = [70, 97, 108, 115, 101]
  · have HQ1 := Lib.hid (show conQ p s = (-1, 0, true) by
      have hI : idxL boolsL s = 0 := by rw [idx_bools, if_pos h1.symm]
      rw [HQ.out, hI]; rfl)
    have hb1 : ((str s).toList == [70, 97, 108, 115, 101]) = true := by rw [str_toL, h1]; rfl
    clear h1
    go_enter Tryz.func13, Tryz.ntmps13
    go_wp2_with fail
    go_ret3
    exact ⟨by rw [HQ1.out]; rfl, hal.out⟩
  · have hb1 : ((str s).toList == [70, 97, 108, 115, 101]) = false := by rw [str_toL]; simpa using h1
    have HB1 := Lib.hid h1
    by_cases h2 : s = [84, 114, 117, 101]
    · have HQ1 := Lib.hid (show conQ p s = (-1, 1, true) by
      have hI : idxL boolsL s = 1 := by rw [idx_bools, if_neg (fun e => HB1.out e.symm), if_pos h2.symm]
      rw [HQ.out, hI]; rfl)
      have hb2 : ((str s).toList == [84, 114, 117, 101]) = true := by rw [str_toL, h2]; rfl
      clear h1 h2
      go_enter Tryz.func13, Tryz.ntmps13
      go_wp2_with fail
      go_ret3
      exact ⟨by rw [HQ1.out]; rfl, hal.out⟩
    · have hb2 : ((str s).toList == [84, 114, 117, 101]) = false := by rw [str_toL]; simpa using h2
      have HQ1 := Lib.hid (show conQ p s = conF 0 s p.enums by
      have hI : idxL boolsL s = -1 := by rw [idx_bools, if_neg (fun e => HB1.out e.symm), if_neg (fun e => h2 e.symm)]
      rw [HQ.out, hI, if_neg (by omega)])
      clear h1 h2
      go_enter Tryz.func13, Tryz.ntmps13
      go_wp2_with fail
      generalize w.alloc (.cells #[.slice E p.enums.length ek, .slice C cn ck] 25) = V at *
      go_loopg [7] p.enums.length (fun g v wr => ∃ k : Nat, k + g = p.enums.length ∧ v = .int .i64 k ∧ conF 0 s p.enums = conF k s (p.enums.drop k) ∧ Below V.heap.size V wr)
      case atStart => exact ⟨0, by omega, rfl, rfl, Below.refl _ _⟩
      case round =>
        obtain ⟨wq, rfl⟩ : ∃ W, W = wr := ⟨_, rfl⟩
        obtain ⟨k, hkg, rfl, hr, hbw⟩ := hrel
        have HK := Lib.hid hkg
        have HR := Lib.hid hr
        have HW := Lib.hid hbw
        have HVW := Lib.hid (hal.out.trans (hbw.mono hal.out.size))
        have HBQ := Lib.hid (HB.out.trans (HVW.out.mono hsz))
        obtain ⟨p0, p1⟩ := row2 (box_next hbw BP.out)
        have hkl : k ≤ p.enums.length := by omega
        clear hkg hr hbw
        by_cases hlt : k < p.enums.length
        · obtain ⟨q, hq⟩ : ∃ q, p.enums[k]? = some q := ⟨_, List.getElem?_eq_getElem hlt⟩
          have HDR := Lib.hid (drop_consS hq)
          obtain ⟨Lq, hEq, cv, rfl, _, hcs⟩ := HEE.out k q hq
          obtain ⟨cA, cc, rfl, hcc, hcm, hce⟩ := hcs
          have hcl : q.cons.length ≤ 9223372036854775807 := by have h : q.cons.length ≤ cc := hcc; unfold maxLen at hcm; omega
          have HCE := Lib.hid hce
          obtain ⟨a, ea, ha, haa, d0, d1⟩ := elem2 (hEq.under HBQ.out)
          subst ea
          have HEQ := Lib.hid hEq
          have HCF := Lib.hid (show conF 0 s p.enums = if 0 ≤ idxL q.cons s then ((k : Int), idxL q.cons s, true) else conF (k + 1 : Nat) s (p.enums.drop (k + 1)) by rw [HR.out, HDR.out, conF]; rfl)
          clear hq hEq hcc hcm hce d0
          go_wp2_with fail
          clear d1 p0 p1
          go_loopg [8] q.cons.length (fun g v wr => ∃ j : Nat, j + g = q.cons.length ∧ v = .int .i64 j ∧ idxL q.cons s = idxF j s (q.cons.drop j) ∧ Below V.heap.size V wr)
          case atStart => exact ⟨0, by omega, rfl, rfl, HW.out⟩
          case round =>
            obtain ⟨wz, rfl⟩ : ∃ W, W = wr := ⟨_, rfl⟩
            obtain ⟨j, hjg, rfl, hj, hbz⟩ := hrel
            have HJ := Lib.hid hjg
            have HJR := Lib.hid hj
            have HZ := Lib.hid hbz
            have HVZ := Lib.hid (hal.out.trans (hbz.mono hal.out.size))
            have HBZ := Lib.hid (HB.out.trans (HVZ.out.mono hsz))
            obtain ⟨p0, p1⟩ := row2 (box_next hbz BP.out)
            obtain ⟨a', ea', _, _, _, d1⟩ := elem2 (HEQ.out.under HBZ.out)
            cases ea'
            have hjl : j ≤ q.cons.length := by omega
            clear hjg hj hbz
            by_cases hltj : j < q.cons.length
            · obtain ⟨x, hx⟩ : ∃ x, q.cons[j]? = some x := ⟨_, List.getElem?_eq_getElem hltj⟩
              have HDJ := Lib.hid (drop_consS hx)
              obtain ⟨Lx, hEx, rfl, _⟩ := HCE.out j x hx
              obtain ⟨b, eb, _, _, c0⟩ := elem1 (hEx.under HBZ.out)
              subst eb
              rw [Nat.mul_one] at c0
              clear hx hEx
              by_cases hxs : x = s
              · have hb3 : ((str x).toList == (str s).toList) = true := by rw [hxs]; simp
                have HN := Lib.hid (show conQ p s = ((k : Int), (j : Int), true) by
                  have h3 : idxL q.cons s = j := by rw [HJR.out, HDJ.out, idxF, if_pos hxs]
                  rw [HQ1.out, HCF.out, h3, if_pos (by omega)])
                clear hxs
                go_wp2_with fail
                go_ret3
                exact ⟨by rw [HN.out]; rfl, HVZ.out⟩
              · have hb3 : ((str x).toList == (str s).toList) = false := by rw [str_toL, str_toL]; simpa using hxs
                have HN := Lib.hid (show idxL q.cons s = idxF ((j + 1 : Nat) : Int) s (q.cons.drop (j + 1)) by rw [HJR.out, HDJ.out, idxF, if_neg hxs]; rfl)
                clear hxs
                go_wp2_with fail
                go_roundg (q.cons.length - (j + 1))
                case measure => have := HJ.out; omega
                case rel => exact ⟨j + 1, by omega, by go_num, HN.out, HZ.out⟩
            · have hje : j = q.cons.length := by omega
              have HN := Lib.hid (show conF 0 s p.enums = conF (k + 1 : Nat) s (p.enums.drop (k + 1)) by
                have h3 : idxL q.cons s = -1 := by rw [HJR.out, hje, List.drop_length]; rfl
                rw [HCF.out, h3, if_neg (by omega)])
              clear hje
              go_wp2_with fail
              go_roundg (p.enums.length - (k + 1))
              case measure => have := HK.out; omega
              case rel => exact ⟨k + 1, by omega, by go_num, HN.out, HZ.out⟩
        · have hke : k = p.enums.length := by omega
          have HN := Lib.hid (show conQ p s = (0, 0, false) by rw [HQ1.out, HR.out, hke, List.drop_length]; rfl)
          clear hke
          go_wp2_with fail
          go_ret3
          exact ⟨by rw [HN.out]; rfl, HVW.out⟩
set_option maxHeartbeats 4000000 in
set_option maxRecDepth 100000 in
theorem rdefined_any {w0 : World} {L : List Value} {i : QItem} (hL : ItemAt w0 L i) (hlen : (definedQ i).length ≤ 2097152) : ∀ w, Below w0.heap.size w0 w → Calls Tryz.prog 19 #[.agg L.toArray] w (StrsPost (definedQ i) w) := by
  intro w hb
  have HB := Lib.hid hb
  have hsz := hb.size
  obtain ⟨⟨nm, e⟩, sts⟩ := i
  obtain ⟨L', sv, rfl, ⟨nv, Le, rfl, hnv, hxe⟩, hst⟩ := hL
  have HNV := Lib.hid hnv
  obtain ⟨nA, nn, nk, rfl⟩ := SliceAt.shape hnv
  obtain ⟨eo1, es2, eo3, eA4, en4, ek4, eA5, en5, ek5, rfl⟩ := hxe.shape
  obtain ⟨sA, sc, rfl, hsc, hsm, hes⟩ := hst
  simp only [List.cons_append, List.nil_append]
  have hsl : sts.length ≤ 9223372036854775807 := by have h : sts.length ≤ sc := hsc; unfold maxLen at hsm; omega
  clear hb hnv hxe hsc hsm
  cases sts with
  | nil =>
    have hal := Lib.hid ((Below.refl w.heap.size w).alloc (Nat.le_refl _) (.cells #[.slice nA nn nk, .int .i64 eo1, .string es2, .int .i64 eo3, .slice eA4 en4 ek4, .slice eA5 en5 ek5, .slice sA ([] : List QState).length sc] 55))
    clear hes
    go_enter Tryz.func19, Tryz.ntmps19
    go_wp2_with fail
    go_ret
    exact ⟨_, rfl, (HNV.out.under HB.out).under hal.out, hal.out⟩
  | cons z sr =>
    have hd : (((z :: sr).length : Int) == 0) = false := by simp; omega
    have hpos : 0 < (z :: sr).length := by simp
    obtain ⟨N, hEN, hRN⟩ := hes 0 z rfl
    obtain ⟨zn, eqs, ways⟩ := z
    obtain ⟨ev, wv, rfl, _, hev, hwv⟩ := hRN
    obtain ⟨qA, qc, rfl, hqc, hqm, heq⟩ := hev
    obtain ⟨yA, yn, yc, rfl⟩ := SliceAt.shape hwv
    have hql : eqs.length ≤ 9223372036854775807 := by have h : eqs.length ≤ qc := hqc; unfold maxLen at hqm; omega
    have hX : definedQ ⟨⟨nm, e⟩, ⟨zn, eqs, ways⟩ :: sr⟩ = eqs.flatMap QEq.names := rfl
    rw [hX] at hlen ⊢
    obtain ⟨b, rfl, hbb, hbbb, e0, e1, e2⟩ := elem3 (hEN.under HB.out)
    have HEN := Lib.hid hEN
    have HEQ := Lib.hid heq
    have hal := Lib.hid ((Below.refl w.heap.size w).alloc (Nat.le_refl _) (.cells #[.slice nA nn nk, .int .i64 eo1, .string es2, .int .i64 eo3, .slice eA4 en4 ek4, .slice eA5 en5 ek5, .slice (some b) (⟨zn, eqs, ways⟩ :: sr : List QState).length sc] 55))
    have BX := Lib.hid (heap_alloc_new w (.cells #[.slice nA nn nk, .int .i64 eo1, .string es2, .int .i64 eo3, .slice eA4 en4 ek4, .slice eA5 en5 ek5, .slice (some b) (⟨zn, eqs, ways⟩ :: sr : List QState).length sc] 55))
    generalize hn : (⟨zn, eqs, ways⟩ :: sr : List QState).length = sn at *
    clear hqc hqm hEN hes hwv hX e0 e1 e2 hbbb heq
    go_enter Tryz.func19, Tryz.ntmps19
    go_wp2_with fail
    go_loopg [3, 4] eqs.length (fun g v i wr => ∃ k : Nat, k + g = eqs.length ∧ i = .int .i64 k ∧ OwnS (w.heap.size + 1) wr v ((eqs.take k).flatMap QEq.names) ∧ Below (w.heap.size + 1) (w.alloc (.cells #[.slice nA nn nk, .int .i64 eo1, .string es2, .int .i64 eo3, .slice eA4 en4 ek4, .slice eA5 en5 ek5, .slice (some b) sn sc] 55)) wr)
    case atStart => exact ⟨0, by omega, rfl, by simpa using OwnS.nil _ _, Below.refl _ _⟩
    case round =>
      obtain ⟨wr1, rfl⟩ : ∃ W, W = wr := ⟨_, rfl⟩
      obtain ⟨k, hkg, rfl, ho, hbw⟩ := hrel
      have HK := Lib.hid hkg
      have HW := Lib.hid hbw
      have HO := Lib.hid ho
      have hszw : w.heap.size + 1 ≤ wr1.heap.size := by have := hbw.size; simpa using this
      have HWW := Lib.hid (hal.out.trans (hbw.mono (Nat.le_succ _)))
      have HB3 := Lib.hid (HB.out.trans (HWW.out.mono hsz))
      have hkl : k ≤ eqs.length := by omega
      obtain ⟨z0, z1, z2, z3, z4, z5, z6⟩ := row7 ((hbw.block w.heap.size (Nat.lt_succ_self _)).trans BX.out)
      obtain ⟨b', eb', _, _, _, e1, _⟩ := elem3 (HEN.out.under HB3.out)
      cases eb'
      have e1 := at_zero e1
      clear hkg hbw ho
      by_cases hlt : k < eqs.length
      · obtain ⟨q, hq⟩ : ∃ q, eqs[k]? = some q := ⟨_, List.getElem?_eq_getElem hlt⟩
        have HT := Lib.hid (flat_snoc (f := QEq.names) hq)
        have hlen1 : ((eqs.take k).flatMap QEq.names).length + q.names.length ≤ 4194304 := by
          have h1 := flat_le QEq.names eqs (k + 1)
          rw [flat_snoc hq, List.length_append] at h1
          omega
        obtain ⟨N3, hEN3, nv3, Le3, rfl, hnv3, hxe3⟩ := HEQ.out k q hq
        have HN3 := Lib.hid hnv3
        obtain ⟨nA3, nn3, nk3, rfl⟩ := SliceAt.shape hnv3
        obtain ⟨fo1, fs2, fo3, fA4, fn4, fk4, fA5, fn5, fk5, rfl⟩ := hxe3.shape
        obtain ⟨c, rfl, hcb, hcbb, f0, f1, f2, f3, f4, f5⟩ := elem6 (hEN3.under HB3.out)
        clear hnv3 hxe3 hEN3 hq f1 f2 f3 f4 f5
        go_wp2_with (at_builtin; refine append_strs rfl _ _ rfl rfl rfl HO.out (HN3.out.under HB3.out) hlen1 hszw ?_; (intro v5 w5 h5; obtain ⟨ho5, hb5, _⟩ := h5; have HO5 := Lib.hid ho5; have HB5 := Lib.hid (HW.out.trans hb5); clear ho5 hb5))
        go_roundg (eqs.length - (k + 1))
        case measure => have := HK.out; omega
        case rel => exact ⟨k + 1, by omega, by go_num, by rw [HT.out]; exact HO5.out, HB5.out⟩
      · have hke : k = eqs.length := by omega
        have HOe := Lib.hid (show OwnS (w.heap.size + 1) wr1 _ (eqs.flatMap QEq.names) by have := HO.out; rwa [hke, List.take_length] at this)
        clear hke
        go_wp2_with fail
        go_ret
        exact ⟨_, rfl, HOe.out.strs, HWW.out⟩
set_option maxHeartbeats 4000000 in
set_option maxRecDepth 100000 in
theorem rvars_any {w0 : World} {L : List Value} {n : QNode} (hL : NodeAt w0 L n) (hlen : (varsQ n).length ≤ 2097152) : ∀ w, Below w0.heap.size w0 w → Calls Tryz.prog 18 #[.agg L.toArray] w (OwnPost (varsQ n) w) := by
  intro w hb
  have HB := Lib.hid hb
  have hsz := hb.size
  have HPART := Lib.hid (fun k => vars_part (n := n) k hlen)
  have HDP := Lib.hid (fun i hi => defined_part (n := n) (i := i) hi hlen)
  have hil0 : ([] : List Tx).length + n.ins.length ≤ 4194304 := by have := vars_part (n := n) 0 hlen; simp at this ⊢; omega
  have HVQ := Lib.hid (show varsQ n = n.ins ++ n.items.flatMap definedQ from rfl)
  obtain ⟨fv, iv, ov, xv, rfl, hnl, hfu, hin, hou, hit⟩ := hL
  have HIN := Lib.hid (hin.under hb)
  obtain ⟨fA, fn, fk, rfl⟩ := SliceAt.shape hfu
  obtain ⟨iA, im, ik, rfl⟩ := SliceAt.shape hin
  obtain ⟨oA, on, ok, rfl⟩ := SliceAt.shape hou
  obtain ⟨xA, xk, rfl, hxc, hxm, hxe⟩ := hit
  have HXE := Lib.hid hxe
  have hxl : n.items.length ≤ 9223372036854775807 := by have h : n.items.length ≤ xk := hxc; unfold maxLen at hxm; omega
  have hal := Lib.hid ((Below.refl w.heap.size w).alloc (Nat.le_refl _) (.cells #[.string (str n.name), .slice fA fn fk, .slice iA im ik, .slice oA on ok, .slice xA n.items.length xk] 41))
  have BN := Lib.hid (heap_alloc_new w (.cells #[.string (str n.name), .slice fA fn fk, .slice iA im ik, .slice oA on ok, .slice xA n.items.length xk] 41))
  have hs1 : w.heap.size + 1 ≤ (w.alloc (.cells #[.string (str n.name), .slice fA fn fk, .slice iA im ik, .slice oA on ok, .slice xA n.items.length xk] 41)).heap.size := by simp
  have hs0 : (w.alloc (.cells #[.string (str n.name), .slice fA fn fk, .slice iA im ik, .slice oA on ok, .slice xA n.items.length xk] 41)).heap.size ≤ w.heap.size + 1 := by simp
  clear hb hlen hfu hin hou hxc hxm hxe hnl
  go_enter Tryz.func18, Tryz.ntmps18
  go_wp2_with (at_builtin; refine append_strs rfl _ _ rfl rfl rfl (OwnS.nil (w.heap.size + 1) _) (HIN.out.under hal.out) hil0 hs1 ?_; (intro v5 w5 h5; obtain ⟨ho5, hb5, _⟩ := h5; obtain ⟨V, rfl⟩ : ∃ W, W = w5 := ⟨_, rfl⟩; have HO7 := Lib.hid ho5; have HV := Lib.hid hb5; clear ho5 hb5))
  generalize w.alloc (.cells #[.string (str n.name), .slice fA fn fk, .slice iA im ik, .slice oA on ok, .slice xA n.items.length xk] 41) = Z at *
  go_loopg [3, 4] n.items.length (fun g v i wr => ∃ k : Nat, k + g = n.items.length ∧ i = .int .i64 k ∧ OwnS (w.heap.size + 1) wr v (n.ins ++ (n.items.take k).flatMap definedQ) ∧ Below (w.heap.size + 1) Z wr)
  case atStart => exact ⟨0, by omega, rfl, by simpa using HO7.out, HV.out⟩
  case round =>
    obtain ⟨wq, rfl⟩ : ∃ W, W = wr := ⟨_, rfl⟩
    obtain ⟨k, hkg, rfl, ho, hbw⟩ := hrel
    have HK := Lib.hid hkg
    have HW := Lib.hid hbw
    have HO := Lib.hid ho
    have hszw : w.heap.size + 1 ≤ wq.heap.size := Nat.le_trans hs1 hbw.size
    have HWW := Lib.hid (hal.out.trans (hbw.mono (Nat.le_succ _)))
    have BNQ := Lib.hid ((hbw.block w.heap.size (Nat.lt_succ_self _)).trans BN.out)
    obtain ⟨_, _, _, _, nb4⟩ := row5 BNQ.out
    have hkl : k ≤ n.items.length := by omega
    clear hkg hbw ho
    by_cases hlt : k < n.items.length
    · obtain ⟨q, hq⟩ : ∃ q, n.items[k]? = some q := ⟨_, List.getElem?_eq_getElem hlt⟩
      have HT := Lib.hid (show n.ins ++ (n.items.take (k + 1)).flatMap definedQ = (n.ins ++ (n.items.take k).flatMap definedQ) ++ definedQ q by rw [flat_snoc hq, List.append_assoc])
      have HDQ := Lib.hid (HDP.out q (List.mem_of_getElem? hq))
      have hlen1 : (n.ins ++ (n.items.take k).flatMap definedQ).length + (definedQ q).length ≤ 4194304 := by
        have h1 := HPART.out k
        have h2 := HDQ.out
        omega
      obtain ⟨Lq, hEq, hRq⟩ := HXE.out k q hq
      have HITM := Lib.hid hRq
      obtain ⟨A0, n0, k0, o1, s2, o3, A4, n4, k4, A5, n5, k5, A6, n6, k6, rfl⟩ := hRq.shape
      have HBQ := Lib.hid (HB.out.trans (HWW.out.mono hsz))
      obtain ⟨a, ea, ha, haa, d0, d1, d2, d3, d4, d5, d6⟩ := elem7 (hEq.under HBQ.out)
      subst ea
      have HDEF := Lib.hid (rdefined_any HITM.out HDQ.out _ HBQ.out)
      clear hq hEq hRq
      go_wp2_with (first
        | (go_at_call 19
           (with_reducible refine HDEF.out.mono ?_)
           rintro e w8 ⟨v8, rfl, hs8, hb8⟩
           obtain ⟨A8, n8, k8, rfl⟩ := SliceAt.shape hs8
           obtain ⟨V8, rfl⟩ : ∃ W, W = w8 := ⟨_, rfl⟩
           have HS8 := Lib.hid hs8
           have HB8 := Lib.hid (HW.out.trans (hb8.mono hszw))
           have HO8 := Lib.hid (HO.out.under hb8)
           have hsz8 : w.heap.size + 1 ≤ V8.heap.size := Nat.le_trans hs1 HB8.out.size
           clear hs8 hb8)
        | (at_builtin; refine append_strs rfl _ _ rfl rfl rfl HO8.out HS8.out hlen1 hsz8 ?_; (intro v5 w5 h5; obtain ⟨ho5, hb5, _⟩ := h5; have HO5 := Lib.hid ho5; have HB5 := Lib.hid (HB8.out.trans hb5); clear ho5 hb5)))
      go_roundg (n.items.length - (k + 1))
      case measure => have := HK.out; omega
      case rel => exact ⟨k + 1, by omega, by go_num, by rw [HT.out]; exact HO5.out, HB5.out⟩
    · have hke : k = n.items.length := by omega
      have HOe := Lib.hid (show OwnS (w.heap.size + 1) wq _ (varsQ n) by have := HO.out; rwa [hke, List.take_length, ← HVQ.out] at this)
      clear hke
      go_wp2_with fail
      go_ret
      exact ⟨_, rfl, HOe.out.mono (Nat.le_succ _), HWW.out⟩
end Go.Proofs.YtbpbnebcbjacdaaGreat
