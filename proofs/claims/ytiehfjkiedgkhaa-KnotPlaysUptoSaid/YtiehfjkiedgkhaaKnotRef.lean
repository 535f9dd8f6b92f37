/-
  The reference's knot in memory: two rows; the calls that ask it.
-/
import Derived.Test.YtiehfjkiedgkhaaKnotOps
namespace Go.Proofs.Ytiehfjkiedgkhaa
open Go.RowKit

structure RefAt (B : Nat) (w : World) (k : Nat) (v1 v2 : Value) (S : KS) : Prop where
  ok : S.Ok
  rc : RowF B 3 1 w v1 S.n (fun i _ => .int .i64 (S.c i))
  rm : RowF B 3 1 w v2 S.n (fun i _ => .int .i64 (S.m i))
  box : w.heap[k]? = some (.cells #[v1, v2] 29 (0, 0))
  low : B ≤ k
  big : S.n ≤ 4194303
  apart : ∀ g, v1.ownBlock = some g → v2.ownBlock ≠ some g
def FootR (k : Nat) (v1 v2 : Value) (b : Nat) : Prop := b = k ∨ v1.ownBlock = some b ∨ v2.ownBlock = some b
theorem RowF.not_box {B : Nat} {T T0 : TypeId} {s n k : Nat} {w : World} {v : Value} {F : Nat → Nat → Value} {cs : Array Value} (h : RowF B T s w v n F) (hb : w.heap[k]? = some (.cells cs T0 (0, 0))) (hT : T ≠ T0) : v.ownBlock ≠ some k := by
  intro e
  rcases h with ⟨rfl, _⟩ | ⟨g', cap, cur, rfl, h2, h3, _⟩
  · simp [Value.ownBlock] at e
  · have : g' = k := by simpa [Value.ownBlock] using e
    subst this
    rw [h3] at hb
    injection hb with hb
    injection hb with _ ht
    exact hT ht
theorem RowF.shape {B : Nat} {T : TypeId} {s n : Nat} {w : World} {v : Value} {F : Nat → Nat → Value} (h : RowF B T s w v n F) : ∃ A c, v = .slice A n c ∧ n ≤ c ∧ c ≤ maxLen := by
  rcases h with ⟨rfl, rfl⟩ | ⟨g, c, cur, rfl, _, _, h1, h2, _⟩
  · exact ⟨none, 0, rfl, by omega, by unfold maxLen; omega⟩
  · exact ⟨_, c, rfl, h1, h2⟩
theorem RowF.there {B : Nat} {T : TypeId} {s n : Nat} {w : World} {v : Value} {F : Nat → Nat → Value} (h : RowF B T s w v n F) (hn : 0 < n) : ∃ g c, v = .slice (some ⟨g, 0, none⟩) n c ∧ n ≤ c ∧ c ≤ maxLen := by
  rcases h with ⟨rfl, rfl⟩ | ⟨g, c, cur, rfl, _, _, h1, h2, _⟩
  · omega
  · exact ⟨g, c, rfl, h1, h2⟩
theorem RowF.cell1 {B : Nat} {T : TypeId} {n g c : Nat} {w : World} {F : Nat → Nat → Value} (h : RowF B T 1 w (.slice (some ⟨g, 0, none⟩) n c) n F) {i : Nat} (hi : i < n) : w.cell? ⟨g, i, none⟩ = some (F i 0) := by
  have := h.cell hi (show 0 < 1 by omega)
  simpa using this
section
variable {B k : Nat} {w w' : World} {v1 v2 : Value} {S : KS}
theorem RefAt.kept {M : Nat → Prop} (h : RefAt B w k v1 v2 S) (hk : KeptP M w w') (hM : ∀ b, FootR k v1 v2 b → ¬ M b) : RefAt B w' k v1 v2 S :=
  ⟨h.ok, h.rc.kept hk fun g hg => hM g (.inr (.inl hg)), h.rm.kept hk fun g hg => hM g (.inr (.inr hg)), hk.heap h.box (hM k (.inl rfl)), h.low, h.big, h.apart⟩
theorem RefAt.under (h : RefAt B w k v1 v2 S) (hb : Below w.heap.size w w') : RefAt B w' k v1 v2 S := h.kept (M := fun _ => False) (KeptP.of_below hb) fun _ _ h => h
theorem RefAt.lt (h : RefAt B w k v1 v2 S) {b : Nat} (hb : FootR k v1 v2 b) : B ≤ b ∧ b < w.heap.size := by
  rcases hb with rfl | hb | hb
  · exact ⟨h.low, kin h.box⟩
  · exact h.rc.lt hb
  · exact h.rm.lt hb
theorem RefAt.cells (h : RefAt B w k v1 v2 S) : w.cell? ⟨k, 0, none⟩ = some v1 ∧ w.cell? ⟨k, 1, none⟩ = some v2 := by
  rw [Joins.cell_of_block h.box, Joins.cell_of_block h.box]
  exact ⟨rfl, rfl⟩
theorem RefAt.soft (h : RefAt B w k v1 v2 S) (i : Nat) : w.frozen? ⟨k, i, none⟩ = false := Joins.unfrozen_of_block h.box i
theorem is_ref (h : RefAt B w k v1 v2 S) (a : Int) : Calls Try.prog 28 #[.pointer (some ⟨k, 0, none⟩), .int .i64 a] w fun e w' => e = .returned (.bool (inK S a)) ∧ w = w' := by
  have hc := h.cells.1
  obtain ⟨A, c, rfl, h1, h2⟩ := h.rc.shape
  unfold maxLen at h2
  have hb := h.big
  clear h
  by_cases h0 : 0 ≤ a
  · go_enter Try.func28, Try.ntmps28
    go_wp2
    go_ret
    exact ⟨ret_bool (by simp [inK, h0]), rfl⟩
  · go_enter Try.func28, Try.ntmps28
    go_wp2
    go_ret
    exact ⟨ret_bool (by simp [inK]; omega), rfl⟩
set_option maxRecDepth 100000 in
set_option maxHeartbeats 1000000 in
theorem of_ref (h : RefAt B w k v1 v2 S) (a : Int) : Calls Try.prog 18 #[.pointer (some ⟨k, 0, none⟩), .int .i64 a] w fun e w' => e = .returned (.int .i64 (ofS S a)) ∧ w = w' := by
  have H := Lib.hid h
  cases hk : inK S a
  · have HK := Lib.hid hk
    clear hk h
    go_enter Try.func18, Try.ntmps18
    go_wp2_with (go_at_call 28; ((with_reducible refine (is_ref H.out _).mono ?_); rintro e w' ⟨he, rfl⟩; rw [HK.out] at he; subst he))
    go_ret
    exact ⟨ret_int (by simp [ofS, HK.out]), rfl⟩
  · obtain ⟨b, hb0⟩ : ∃ b, a.toNat = b := ⟨_, rfl⟩
    obtain ⟨rfl, hb⟩ := inK_no hk hb0
    have HK := Lib.hid hk
    obtain ⟨g, c, rfl, h1, h2⟩ := h.rm.there (by omega)
    unfold maxLen at h2
    have hr := h.rm.cell1 hb
    have hc := h.cells.2
    have hbg := h.big
    clear hk h hb0
    go_enter Try.func18, Try.ntmps18
    go_wp2_with (go_at_call 28; ((with_reducible refine (is_ref H.out _).mono ?_); rintro e w' ⟨he, rfl⟩; rw [HK.out] at he; subst he))
    go_ret
    exact ⟨ret_int (by simp [ofS, HK.out]), rfl⟩
set_option maxRecDepth 100000 in
set_option maxHeartbeats 1000000 in
theorem least_ref (h : RefAt B w k v1 v2 S) (a : Int) : Calls Try.prog 20 #[.pointer (some ⟨k, 0, none⟩), .int .i64 a] w fun e w' => e = .returned (.int .i64 (leastS S a)) ∧ w = w' := by
  have H := Lib.hid h
  cases hk : inK S a
  · have HK := Lib.hid hk
    clear hk h
    go_enter Try.func20, Try.ntmps20
    go_wp2_with (go_at_call 28; ((with_reducible refine (is_ref H.out _).mono ?_); rintro e w' ⟨he, rfl⟩; rw [HK.out] at he; subst he))
    go_ret
    exact ⟨ret_int (by simp [leastS, HK.out]), rfl⟩
  · obtain ⟨b, hb0⟩ : ∃ b, a.toNat = b := ⟨_, rfl⟩
    obtain ⟨rfl, hb⟩ := inK_no hk hb0
    have HK := Lib.hid hk
    obtain ⟨g, c, rfl, h1, h2⟩ := h.rc.there (by omega)
    unfold maxLen at h2
    have hr := h.rc.cell1 hb
    have hc := h.cells.1
    have hbg := h.big
    clear hk h hb0
    go_enter Try.func20, Try.ntmps20
    go_wp2_with (go_at_call 28; ((with_reducible refine (is_ref H.out _).mono ?_); rintro e w' ⟨he, rfl⟩; rw [HK.out] at he; subst he))
    go_ret
    exact ⟨ret_int (by simp [leastS, HK.out]), rfl⟩
theorem is_same (h : RefAt B w k v1 v2 S) (a : Int) (r : Bool) (hr : inK S a = r) (q : Nat) : Calls Try.prog 28 #[.pointer (some ⟨k, 0, none⟩), .int .i64 a] (w.drewN q) fun e w' => e = .returned (.bool r) ∧ w' = w.drewN q :=
  (is_ref (h.under (w' := w.drewN q) ⟨rfl, rfl, rfl, Nat.le_refl _, fun _ _ => rfl⟩) a).mono fun _ _ ⟨h1, h2⟩ => ⟨by rw [h1, hr], h2.symm⟩
set_option maxRecDepth 100000 in
set_option maxHeartbeats 1000000 in
theorem alike_ref (h : RefAt B w k v1 v2 S) (a b : Int) : Calls Try.prog 22 #[.pointer (some ⟨k, 0, none⟩), .int .i64 a, .int .i64 b] w fun e w' => e = .returned (.bool (alikeS S a b)) ∧ ∃ q, w' = w.drewN q := by
  cases hk : inK S a
  · have HK := Lib.hid hk
    have HI := Lib.hid (is_same h a _ hk)
    clear hk h
    go_enter Try.func22, Try.ntmps22
    go_wp2_with fail
    go_quiet ((go_at_call 28; exact Calls.quiet_of_same (HI.out _)))
    go_wp2_with fail
    go_ret
    exact ⟨ret_bool (by simp [alikeS, HK.out]), _, rfl⟩
  · cases hk2 : inK S b
    · have HK := Lib.hid hk2
      have HI := Lib.hid (is_same h a _ hk)
      have HI2 := Lib.hid (is_same h b _ hk2)
      clear hk hk2 h
      go_enter Try.func22, Try.ntmps22
      go_wp2_with fail
      go_quiet ((go_at_call 28; (first | (with_reducible exact Calls.quiet_of_same (HI.out _)) | (with_reducible exact Calls.quiet_of_same (HI2.out _)))))
      go_wp2_with fail
      go_ret
      exact ⟨ret_bool (by simp [alikeS, HK.out]), _, rfl⟩
    · obtain ⟨a, ha0⟩ : ∃ b, a.toNat = b := ⟨_, rfl⟩
      obtain ⟨rfl, ha⟩ := inK_no hk ha0
      obtain ⟨b, hb0⟩ : ∃ c, b.toNat = c := ⟨_, rfl⟩
      obtain ⟨rfl, hb⟩ := inK_no hk2 hb0
      have HK := Lib.hid hk
      have HK2 := Lib.hid hk2
      have HI := Lib.hid (is_same h a _ hk)
      have HI2 := Lib.hid (is_same h b _ hk2)
      obtain ⟨g, c, rfl, h1, h2⟩ := h.rc.there (by omega)
      unfold maxLen at h2
      have hra := h.rc.cell1 ha
      have hrb := h.rc.cell1 hb
      have hc := h.cells.1
      have hbg := h.big
      clear hk hk2 h ha0 hb0
      go_enter Try.func22, Try.ntmps22
      go_wp2_with fail
      go_quiet ((go_at_call 28; (first | (with_reducible exact Calls.quiet_of_same (HI.out _)) | (with_reducible exact Calls.quiet_of_same (HI2.out _)))))
      go_wp2_with fail
      go_ret
      exact ⟨ret_bool (by simp only [alikeS, HK.out, HK2.out, Bool.true_and, Int.toNat_natCast]; rw [Bool.eq_iff_iff, beq_iff_eq, decide_eq_true_iff]; omega), _, rfl⟩
end
end Go.Proofs.Ytiehfjkiedgkhaa
