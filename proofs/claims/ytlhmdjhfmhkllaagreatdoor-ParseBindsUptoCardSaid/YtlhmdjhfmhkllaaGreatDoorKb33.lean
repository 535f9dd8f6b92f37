/-
  Texts joined.
-/
import Derived.Defers
import Derived.Recover
import Derived.Test.YtlhmdjhfmhkllaaGreatDoorKb32
namespace Go.Proofs.YtlhmdjhfmhkllaaGreatDoor
open Go.RowKit
theorem assert_flt (x y z : Int) (w : World) : Sem.run Tryz.prog (Instr.typeAssert (.iface 29 (.agg #[.int .i64 x, .int .i64 y, .int .i64 z])) 20 29 true) w = .ok (.tuple #[.agg #[.int .i64 x, .int .i64 y, .int .i64 z], .bool true]) w := by kernel_rfl
theorem assert_nil (w : World) : Sem.run Tryz.prog (Instr.typeAssert .nilIface 20 29 true) w = .ok (.tuple #[.agg #[.int .i64 0, .int .i64 0, .int .i64 0], .bool false]) w := by kernel_rfl
/-- what the closure leaves: the fault in the block B, all else as it was -/
def CatPost (B : Nat) (x y z : Int) (w : World) (older : List PanicEntry) (e : Ending) (u' : FrameMode) (w' : World) : Prop :=
  e = .returned (.tuple #[]) ∧ u' = .panicking ({ v := .iface 29 (.agg #[.int .i64 x, .int .i64 y, .int .i64 z]), recovered := true } :: older) ∧
    KeptN B w w' ∧ w'.heap[B]? = some (.cells #[.int .i64 x, .int .i64 y, .int .i64 z] 29 (0, 0))
set_option maxRecDepth 10000 in
set_option maxHeartbeats 1000000 in
theorem catchP_panicking (B : Nat) (x y z : Int) (older : List PanicEntry) (w : World) {a b c : Value} (hB : w.heap[B]? = some (.cells #[a, b, c] 29 (0, 0))) :
    CallsD Tryz.prog 39 #[.pointer (some ⟨B, 0, none⟩)] (.panicking ({ v := .iface 29 (.agg #[.int .i64 x, .int .i64 y, .int .i64 z]), recovered := false } :: older)) w (CatPost B x y z w older) := by
  refine callsD_of_wpS Tryz.func39 rfl fun c₀ cs hu => ?_; have hr : recoverD (c₀ :: cs) = some (.iface 29 (.agg #[.int .i64 x, .int .i64 y, .int .i64 z]), { c₀ with mode := .panicking ({ v := .iface 29 (.agg #[.int .i64 x, .int .i64 y, .int .i64 z]), recovered := true } :: older) } :: cs) := (by simp [recoverD, hu]); have ha := assert_flt x y z; generalize hc : ({ c₀ with mode := .panicking ({ v := .iface 29 (.agg #[.int .i64 x, .int .i64 y, .int .i64 z]), recovered := true } :: older) } : Frame) = c1 at hr; have HB := Lib.hid hB; have HC := Lib.hid hc; clear hu hB hc; apply wpS_seq; apply wpS_region; simp [wpOpsS, go_sem, hr, ha, Tryz.ntmps39, Exit.thenS]; have ht : ∀ V : Value, V = .agg #[.int .i64 x, .int .i64 y, .int .i64 z] → (#[Value.pointer (some ⟨B, 0, none⟩)] ++ (((((((Array.replicate 9 undef).setIfInBounds 3 (.iface 29 V)).setIfInBounds 4 (.tuple #[V, .bool true])).setIfInBounds 2 (.tuple #[V, .bool true])).setIfInBounds 5 V).setIfInBounds 6 (.bool true)).setIfInBounds 0 (.pointer (some ⟨w.heap.size, 0, none⟩))).setIfInBounds 1 (.bool true)) =
    #[.pointer (some ⟨B, 0, none⟩), .pointer (some ⟨w.heap.size, 0, none⟩), .bool true, .tuple #[V, .bool true], .iface 29 V, .tuple #[V, .bool true], V, .bool true, undef, undef] := fun V _ => by simp [Array.replicate]
  rw [ht _ rfl]; clear ht; have hlt := lt_of_heap HB.out; have b0 := heap_alloc_new w (.cells #[.int .i64 x, .int .i64 y, .int .i64 z] 29); obtain ⟨q0, q1, q2⟩ := row3 b0; obtain ⟨p0, p1, p2⟩ := row3 HB.out; have g0 := row_frozen HB.out 0; have g1 := row_frozen HB.out 1; have g2 := row_frozen HB.out 2; have hne := Nat.ne_of_lt hlt; clear ha hr b0; refine wpS_of_wp ?_; go_wp2; have hk : KeptN B w ((((w.setCell ⟨B, 0, none⟩ (.int .i64 x)).setCell ⟨B, 1, none⟩ (.int .i64 y)).setCell ⟨B, 2, none⟩ (.int .i64 z)).alloc (.cells #[.int .i64 x, .int .i64 y, .int .i64 z] 29)) :=
    ((((KeptN.refl B w).setCell rfl _).setCell rfl _).setCell rfl _).alloc _
  have hb := alloc_below (o := .cells #[.int .i64 x, .int .i64 y, .int .i64 z] 29) (set_row3 (.int .i64 x) (.int .i64 y) (.int .i64 z) HB.out); exact ⟨rfl, _, by rw [← HC.out], _, results_none rfl _ _ _, rfl, rfl, hk, hb⟩
/-- where no fault came, the closure does nothing -/
def IdlePost (w : World) (e : Ending) (u' : FrameMode) (w' : World) : Prop := e = .returned (.tuple #[]) ∧ u' = .returning ∧ Below w.heap.size w w'
set_option maxRecDepth 10000 in
set_option maxHeartbeats 1000000 in
theorem catchP_idle (p : Addr) (w : World) : CallsD Tryz.prog 39 #[.pointer (some p)] .returning w (IdlePost w) := by
  refine callsD_of_wpS Tryz.func39 rfl fun c₀ cs hu => ?_; have hr : recoverD (c₀ :: cs) = none := (by simp [recoverD, hu]); have ha := assert_nil; have HU := Lib.hid hu; clear hu; apply wpS_seq; apply wpS_region; simp [wpOpsS, go_sem, hr, ha, Tryz.ntmps39, Exit.thenS]; have ht : ∀ V : Value, V = .agg #[.int .i64 0, .int .i64 0, .int .i64 0] → (#[Value.pointer (some p)] ++ (((((((Array.replicate 9 undef).setIfInBounds 3 .nilIface).setIfInBounds 4 (.tuple #[V, .bool false])).setIfInBounds 2 (.tuple #[V, .bool false])).setIfInBounds 5 V).setIfInBounds 6 (.bool false)).setIfInBounds 0 (.pointer (some ⟨w.heap.size, 0, none⟩))).setIfInBounds 1 (.bool false)) =
    #[.pointer (some p), .pointer (some ⟨w.heap.size, 0, none⟩), .bool false, .tuple #[V, .bool false], .nilIface, .tuple #[V, .bool false], V, .bool false, undef, undef] := fun V _ => by simp [Array.replicate]
  rw [ht _ rfl]; clear ht ha hr; refine wpS_of_wp ?_; go_wp2; exact ⟨rfl, _, by rw [← HU.out], _, results_none rfl _ _ _, rfl, rfl, (Below.refl _ w).alloc (Nat.le_refl _) _⟩
set_option maxRecDepth 10000 in
set_option maxHeartbeats 1000000 in
theorem catchE_panicking (B : Nat) (x y z : Int) (older : List PanicEntry) (w : World) {a b c : Value} (hB : w.heap[B]? = some (.cells #[a, b, c] 29 (0, 0))) :
    CallsD Tryz.prog 63 #[.pointer (some ⟨B, 0, none⟩)] (.panicking ({ v := .iface 29 (.agg #[.int .i64 x, .int .i64 y, .int .i64 z]), recovered := false } :: older)) w (CatPost B x y z w older) := by
  refine callsD_of_wpS Tryz.func63 rfl fun c₀ cs hu => ?_; have hr : recoverD (c₀ :: cs) = some (.iface 29 (.agg #[.int .i64 x, .int .i64 y, .int .i64 z]), { c₀ with mode := .panicking ({ v := .iface 29 (.agg #[.int .i64 x, .int .i64 y, .int .i64 z]), recovered := true } :: older) } :: cs) := (by simp [recoverD, hu]); have ha := assert_flt x y z; generalize hc : ({ c₀ with mode := .panicking ({ v := .iface 29 (.agg #[.int .i64 x, .int .i64 y, .int .i64 z]), recovered := true } :: older) } : Frame) = c1 at hr; have HB := Lib.hid hB; have HC := Lib.hid hc; clear hu hB hc; apply wpS_seq; apply wpS_region; simp [wpOpsS, go_sem, hr, ha, Tryz.ntmps63, Exit.thenS]; have ht : ∀ V : Value, V = .agg #[.int .i64 x, .int .i64 y, .int .i64 z] → (#[Value.pointer (some ⟨B, 0, none⟩)] ++ (((((((Array.replicate 9 undef).setIfInBounds 3 (.iface 29 V)).setIfInBounds 4 (.tuple #[V, .bool true])).setIfInBounds 2 (.tuple #[V, .bool true])).setIfInBounds 5 V).setIfInBounds 6 (.bool true)).setIfInBounds 0 (.pointer (some ⟨w.heap.size, 0, none⟩))).setIfInBounds 1 (.bool true)) =
    #[.pointer (some ⟨B, 0, none⟩), .pointer (some ⟨w.heap.size, 0, none⟩), .bool true, .tuple #[V, .bool true], .iface 29 V, .tuple #[V, .bool true], V, .bool true, undef, undef] := fun V _ => by simp [Array.replicate]
  rw [ht _ rfl]; clear ht; have hlt := lt_of_heap HB.out; have b0 := heap_alloc_new w (.cells #[.int .i64 x, .int .i64 y, .int .i64 z] 29); obtain ⟨q0, q1, q2⟩ := row3 b0; obtain ⟨p0, p1, p2⟩ := row3 HB.out; have g0 := row_frozen HB.out 0; have g1 := row_frozen HB.out 1; have g2 := row_frozen HB.out 2; have hne := Nat.ne_of_lt hlt; clear ha hr b0; refine wpS_of_wp ?_; go_wp2; have hk : KeptN B w ((((w.setCell ⟨B, 0, none⟩ (.int .i64 x)).setCell ⟨B, 1, none⟩ (.int .i64 y)).setCell ⟨B, 2, none⟩ (.int .i64 z)).alloc (.cells #[.int .i64 x, .int .i64 y, .int .i64 z] 29)) :=
    ((((KeptN.refl B w).setCell rfl _).setCell rfl _).setCell rfl _).alloc _
  have hb := alloc_below (o := .cells #[.int .i64 x, .int .i64 y, .int .i64 z] 29) (set_row3 (.int .i64 x) (.int .i64 y) (.int .i64 z) HB.out); exact ⟨rfl, _, by rw [← HC.out], _, results_none rfl _ _ _, rfl, rfl, hk, hb⟩
set_option maxRecDepth 10000 in
set_option maxHeartbeats 1000000 in
theorem catchE_idle (p : Addr) (w : World) : CallsD Tryz.prog 63 #[.pointer (some p)] .returning w (IdlePost w) := by
  refine callsD_of_wpS Tryz.func63 rfl fun c₀ cs hu => ?_; have hr : recoverD (c₀ :: cs) = none := (by simp [recoverD, hu]); have ha := assert_nil; have HU := Lib.hid hu; clear hu; apply wpS_seq; apply wpS_region; simp [wpOpsS, go_sem, hr, ha, Tryz.ntmps63, Exit.thenS]; have ht : ∀ V : Value, V = .agg #[.int .i64 0, .int .i64 0, .int .i64 0] → (#[Value.pointer (some p)] ++ (((((((Array.replicate 9 undef).setIfInBounds 3 .nilIface).setIfInBounds 4 (.tuple #[V, .bool false])).setIfInBounds 2 (.tuple #[V, .bool false])).setIfInBounds 5 V).setIfInBounds 6 (.bool false)).setIfInBounds 0 (.pointer (some ⟨w.heap.size, 0, none⟩))).setIfInBounds 1 (.bool false)) =
    #[.pointer (some p), .pointer (some ⟨w.heap.size, 0, none⟩), .bool false, .tuple #[V, .bool false], .nilIface, .tuple #[V, .bool false], V, .bool false, undef, undef] := fun V _ => by simp [Array.replicate]
  rw [ht _ rfl]; clear ht ha hr; refine wpS_of_wp ?_; go_wp2; exact ⟨rfl, _, by rw [← HU.out], _, results_none rfl _ _ _, rfl, rfl, (Below.refl _ w).alloc (Nat.le_refl _) _⟩
end Go.Proofs.YtlhmdjhfmhkllaaGreatDoor
