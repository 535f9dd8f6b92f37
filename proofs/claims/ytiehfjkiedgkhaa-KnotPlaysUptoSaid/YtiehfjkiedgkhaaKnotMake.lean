/-
  The calls that change a knot: New, Add, Mark, Tie.
-/
import Derived.Test.YtiehfjkiedgkhaaKnotWrite
namespace Go.Proofs.Ytiehfjkiedgkhaa
open Go.RowKit

/-- the knot at block k, its slice v -/
def KnotIs (B : Nat) (w : World) (k : Nat) (v : Value) (S : KS) : Prop := ∃ E ρ, KnotAt B w k v S E ρ
/-- what a call that changes it leaves -/
def Moved (B k : Nat) (v : Value) (S : KS) (w w' : World) : Prop :=
  ∃ v', KnotIs B w' k v' S ∧ KeptP (Foot k v) w w' ∧ ∀ b, Foot k v' b → Foot k v b ∨ w.heap.size ≤ b
section
variable {B k : Nat} {w : World} {v : Value} {S : KS}
theorem KnotIs.kept {M : Nat → Prop} {w' : World} (h : KnotIs B w k v S) (hk : KeptP M w w') (hM : ∀ b, Foot k v b → ¬ M b) : KnotIs B w' k v S := by
  obtain ⟨E, ρ, h⟩ := h
  exact ⟨E, ρ, h.kept hk hM⟩
theorem KnotIs.under {w' : World} (h : KnotIs B w k v S) (hb : Below w.heap.size w w') : KnotIs B w' k v S := by
  obtain ⟨E, ρ, h⟩ := h
  exact ⟨E, ρ, h.under hb⟩
theorem KnotIs.lt (h : KnotIs B w k v S) {b : Nat} (hb : Foot k v b) : B ≤ b ∧ b < w.heap.size := by
  obtain ⟨E, ρ, h⟩ := h
  exact h.lt hb
theorem KnotIs.ok (h : KnotIs B w k v S) : S.Ok := by
  obtain ⟨E, ρ, h⟩ := h
  exact h.good.ok
theorem KnotIs.big (h : KnotIs B w k v S) : S.n ≤ 4194303 := by
  obtain ⟨E, ρ, h⟩ := h
  exact h.big
theorem Moved.none (h : KnotIs B w k v S) : Moved B k v S w w := ⟨v, h, KeptP.refl _ _, fun _ hb => .inl hb⟩
theorem Moved.drewN {w' : World} (h : Moved B k v S w w') (q : Nat) : Moved B k v S w (w'.drewN q) := by
  obtain ⟨v', h1, h2, h3⟩ := h
  exact ⟨v', h1.under ⟨rfl, rfl, rfl, Nat.le_refl _, fun _ _ => rfl⟩, h2.drewN q, h3⟩
theorem Moved.ahead {w' : World} (q : Nat) (h : Moved B k v S (w.drewN q) w') : Moved B k v S w w' := by
  obtain ⟨v', h1, h2, h3⟩ := h
  exact ⟨v', h1, ⟨h2.os, h2.tape, h2.output, h2.size, h2.block⟩, h3⟩
theorem new_any (hB : B ≤ w.heap.size) : Calls Try.prog 9 #[] w fun e w' => e = .returned (.pointer (some ⟨w.heap.size, 0, none⟩)) ∧ KnotIs B w' w.heap.size (.slice none 0 0) noneS ∧ Below w.heap.size w w' := by
  go_enter Try.func9, Try.ntmps9
  go_wp2
  go_ret
  exact ⟨rfl, ⟨fun _ => ⟨0, 0, 0, 0⟩, fun i => i, good_none _ _, RowF.nil, heap_alloc_new w _, hB, by simp [noneS]⟩, (Below.refl _ _).alloc (Nat.le_refl _) _⟩
theorem elem_info : (Try.prog.info? 45).map (fun i => (i.zero, i.size, i.bytes)) = some (some (.agg #[.int .i64 0, .int .i64 0, .int .i64 0, .int .i64 0]), 4, 32) := by kernel_rfl
theorem one_ints (a b c d : Int) : ∀ u ∈ [Value.int .i64 a, .int .i64 b, .int .i64 c, .int .i64 d], u.oneCell' = true := by
  intro u hu
  simp only [List.mem_cons, List.not_mem_nil, or_false] at hu
  rcases hu with rfl | rfl | rfl | rfl <;> rfl
theorem addE_enc (E : Nat → El) (n : Nat) (j : Nat) (u : Value) (h : [Value.int .i64 (n : Int), .int .i64 1, .int .i64 (n : Int), .int .i64 0][j]? = some u) : encE (addE E n n) j = u := by
  match j, h with
  | 0, h => simpa [addE, encE] using h
  | 1, h => simpa [addE, encE] using h
  | 2, h => simpa [addE, encE] using h
  | 3, h => simpa [addE, encE] using h
  | j + 4, h => simp at h
theorem added {E : Nat → El} {ρ : Nat → Nat} {v' : Value} {W w' : World} (h : KnotAt B w k v S E ρ) (hn : S.n < 4194303) (hal : Below w.heap.size w W) (hk : k < w.heap.size)
    (hg : Grew B 45 4 W v S.n (fun i => encE (addE E S.n i)) v' w') : Moved B k v (addS S) w (w'.setCell ⟨k, 0, none⟩ v') ∧ w'.frozen? ⟨k, 0, none⟩ = false ∧ w'.cell? ⟨k, 0, none⟩ = some v := by
  obtain ⟨h1, h2, h3⟩ := hg
  have hbox : w'.heap[k]? = some (.cells #[v] 43 (0, 0)) := (h2.block k (Nat.lt_of_lt_of_le hk hal.size) (fun e => h.apart e.symm)).trans ((hal.block k hk).trans h.box)
  have hne : v'.ownBlock ≠ some k := by
    rcases h3 with h3 | h3
    · rw [h3]; exact h.apart
    · rw [h3]; intro e; have := hal.size; injection e with e; omega
  refine ⟨⟨v', ⟨_, _, good_add h.good, ?_, Joins.block_setCell hbox v', h.low, by simp only [addS]; omega⟩, ?_, ?_⟩, Joins.unfrozen_of_block hbox 0, by rw [Joins.cell_of_block hbox]; rfl⟩
  · refine RowF.kept (M := (· = k)) h1 ((KeptP.refl (· = k) w').set (a := ⟨k, 0, none⟩) (.inl rfl) _) fun g hg => ?_
    intro e
    subst e
    exact hne hg
  · exact ((KeptP.of_below hal).trans ((KeptP.of_grown (M := Foot k v) h2 fun b hb => .inr hb))).set (.inl (.inl rfl)) _
  · intro b hb
    rcases hb with rfl | hb
    · exact .inl (.inl rfl)
    · rcases h3 with h3 | h3
      · exact .inl (.inr (h3 ▸ hb))
      · rw [h3] at hb; injection hb with hb; exact .inr (by have := hal.size; omega)
theorem Grew.shape {T : TypeId} {s n : Nat} {W w' : World} {F : Nat → Nat → Value} {v' : Value} (h : Grew B T s W v n F v' w') : ∃ A c, v' = .slice A (n + 1) c := by
  rcases h.1 with ⟨_, h0⟩ | ⟨g, c, cur, rfl, _⟩
  · omega
  · exact ⟨_, _, rfl⟩
set_option maxRecDepth 100000 in
set_option maxHeartbeats 1000000 in
theorem add_any (h : KnotIs B w k v S) (hn : S.n < 4194303) (hB : B ≤ w.heap.size) : Calls Try.prog 11 #[.pointer (some ⟨k, 0, none⟩)] w fun e w' => e = .returned (.int .i64 S.n) ∧ Moved B k v (addS S) w w' := by
  obtain ⟨E, ρ, h⟩ := h
  have H := Lib.hid h
  have hc := h.cell0
  have hkl := kin h.box
  have hB1 : B ≤ w.heap.size + 1 := by omega
  have hn1 : S.n ≤ 4194303 := by omega
  obtain ⟨A, c, hv, h1, h2⟩ := h.len
  have HN := Lib.hid hn
  have hR : RowF B 45 4 w v S.n (fun i => encE (addE E S.n i)) := h.row.congr fun i j hi _ => by simp [addE, Nat.ne_of_lt hi]
  have HR := Lib.hid hR
  subst hv
  clear h hR hn
  unfold maxLen at h2
  have hal : Below w.heap.size w (w.alloc (.cells #[.int .i64 S.n, .int .i64 1, .int .i64 S.n, .int .i64 0] 45)) := (Below.refl _ _).alloc (Nat.le_refl _) _
  have HAL := Lib.hid hal
  clear hal
  go_enter Try.func11, Try.ntmps11
  go_wp2_with (at_builtin; refine append_row (B := B) (v := .slice A S.n c) (T := 45) (s := 4) (n := S.n) (F := fun i => encE (addE E S.n i)) (L := [.int .i64 S.n, .int .i64 1, .int .i64 S.n, .int .i64 0]) rfl _ _ rfl Try.underlying41 elem_info rfl (by decide) (by decide) rfl rfl (heap_alloc_new _ _) rfl (one_ints _ _ _ _) (HR.out.under HAL.out) (addE_enc E S.n) hn1 ?_ ?_; (first | omega | (simp; omega)); (intro v5 w5 h5; obtain ⟨A5, c5, rfl⟩ := h5.shape; obtain ⟨_, hfz, hcl⟩ := added H.out HN.out HAL.out hkl h5; have H5 := Lib.hid h5; clear h5))
  go_ret
  exact ⟨rfl, (added H.out HN.out HAL.out hkl H5.out).1⟩
theorem com_ok {a m : Int} (hm : 0 < m) : (comQ a m).2 = decide (a = 0 ∨ a = m) := by
  unfold comQ
  by_cases h1 : a = m
  · simp [h1]
  · by_cases h2 : a = 0
    · rw [if_neg (by omega), if_pos h2]; simp [h2]
    · rw [if_neg (by omega), if_neg h2]; simp [h1, h2]
theorem marked {E : Nat → El} {ρ : Nat → Nat} {g c : Nat} {a : Nat} {m : Int} (h : KnotAt B w k (.slice (some ⟨g, 0, none⟩) S.n c) S E ρ) (ha : a < S.n) (hm : 0 < m ∧ m < 9223372036854775808) :
    Moved B k (.slice (some ⟨g, 0, none⟩) S.n c) (markF S a m) w (w.setCell ⟨g, ρ a * 4 + 3, none⟩ (.int .i64 m)) := by
  have hgk : g ≠ k := fun e => h.apart (by rw [e]; rfl)
  refine ⟨_, ⟨_, _, good_mark h.good ha hm, put3 h.row (h.good.root a ha).1 m, ?_, h.low, h.big⟩, (KeptP.refl _ _).set (.inl (.inr rfl)) _, fun b hb => .inl hb⟩
  exact ((KeptP.refl (· = g) w).set (a := ⟨g, ρ a * 4 + 3, none⟩) (.inl rfl) _).heap h.box (fun e => hgk e.symm)
set_option maxRecDepth 100000 in
set_option maxHeartbeats 1000000 in
theorem mark_any (h : KnotIs B w k v S) (a m : Int) (hm : m < 9223372036854775808) :
    Calls Try.prog 13 #[.pointer (some ⟨k, 0, none⟩), .int .i64 a, .int .i64 m] w fun e w' => e = .returned (.bool (markOk S a m)) ∧ Moved B k v (markS S a m) w w' := by
  obtain ⟨E, ρ, h⟩ := h
  have H := Lib.hid h
  by_cases hk : inK S a = true ∧ 0 < m
  · obtain ⟨hk, h0⟩ := hk
    obtain ⟨b, hb0⟩ : ∃ b, a.toNat = b := ⟨_, rfl⟩
    obtain ⟨rfl, hb⟩ := inK_no hk hb0
    have HK := Lib.hid hk
    have HB := Lib.hid hb
    obtain ⟨g, c, rfl, _, _⟩ := h.there (by omega)
    have hr := (h.cells (h.good.root b hb).1).2.2.2
    have hf := h.row.soft (ρ b * 4 + 3)
    rw [h.good.mark b hb] at hr
    have hcq := com_ok (a := S.m b) h0
    have HM := Lib.hid (And.intro h0 hm)
    have hle : ¬ m ≤ 0 := by omega
    have HMO := Lib.hid (show markOk S (b : Int) m = decide (S.m b = 0 ∨ S.m b = m) by simp [markOk, hk, h0])
    by_cases hd : S.m b = 0 ∨ S.m b = m
    · have HQ := Lib.hid (show (comQ (S.m b) m).2 = true by rw [hcq]; simpa using hd)
      have HMT := Lib.hid (show markOk S (b : Int) m = true by rw [HMO.out]; simpa using hd)
      clear hk h hb hb0 hcq hm h0 hd
      go_enter Try.func13, Try.ntmps13
      go_wp2_with (first
        | (go_at_call 25; ((with_reducible refine (has_any H.out _).mono ?_); rintro e w' ⟨he, rfl⟩; rw [HK.out] at he; subst he))
        | (go_at_call 26; ((with_reducible refine (root_any H.out HB.out).mono ?_); rintro e w' ⟨he, rfl⟩; subst he))
        | (go_at_call 27; ((with_reducible refine (common_any _ _ _).mono ?_); rintro e w' ⟨he, rfl⟩; rw [HQ.out] at he; subst he)))
      go_ret
      refine ⟨ret_bool HMT.out.symm, ?_⟩
      rw [show markS S (b : Int) m = markF S b m by unfold markS; rw [if_pos HMT.out]; simp]
      exact marked H.out HB.out HM.out
    · have HQ := Lib.hid (show (comQ (S.m b) m).2 = false by rw [hcq]; simpa using hd)
      have HMT := Lib.hid (show markOk S (b : Int) m = false by rw [HMO.out]; simpa using hd)
      clear hk h hb hb0 hcq hm h0 hd
      go_enter Try.func13, Try.ntmps13
      go_wp2_with (first
        | (go_at_call 25; ((with_reducible refine (has_any H.out _).mono ?_); rintro e w' ⟨he, rfl⟩; rw [HK.out] at he; subst he))
        | (go_at_call 26; ((with_reducible refine (root_any H.out HB.out).mono ?_); rintro e w' ⟨he, rfl⟩; subst he))
        | (go_at_call 27; ((with_reducible refine (common_any _ _ _).mono ?_); rintro e w' ⟨he, rfl⟩; rw [HQ.out] at he; subst he)))
      go_ret
      refine ⟨ret_bool HMT.out.symm, ?_⟩
      rw [show markS S (b : Int) m = S by unfold markS; rw [if_neg (by rw [HMT.out]; decide)]]
      exact Moved.none ⟨E, ρ, H.out⟩
  · have HMT := Lib.hid (show markOk S a m = false by
      cases hi : inK S a
      · simp [markOk, hi]
      · have : ¬ 0 < m := fun g => hk ⟨hi, g⟩
        simp [markOk, this])
    cases hi : inK S a
    · have HK := Lib.hid hi
      clear hk h hi hm
      go_enter Try.func13, Try.ntmps13
      go_wp2_with (go_at_call 25; ((with_reducible refine (has_any H.out _).mono ?_); rintro e w' ⟨he, rfl⟩; rw [HK.out] at he; subst he))
      go_ret
      refine ⟨ret_bool HMT.out.symm, ?_⟩
      rw [show markS S a m = S by unfold markS; rw [if_neg (by rw [HMT.out]; decide)]]
      exact Moved.none ⟨E, ρ, H.out⟩
    · have HK := Lib.hid hi
      have hle : m ≤ 0 := by rw [hi] at hk; simpa using hk
      clear hk h hi hm
      go_enter Try.func13, Try.ntmps13
      go_wp2_with (go_at_call 25; ((with_reducible refine (has_any H.out _).mono ?_); rintro e w' ⟨he, rfl⟩; rw [HK.out] at he; subst he))
      go_ret
      refine ⟨ret_bool HMT.out.symm, ?_⟩
      rw [show markS S a m = S by unfold markS; rw [if_neg (by rw [HMT.out]; decide)]]
      exact Moved.none ⟨E, ρ, H.out⟩
theorem common_same (m n : Int) (w : World) : Calls Try.prog 27 #[.int .i64 m, .int .i64 n] w fun e w' => e = .returned (.tuple #[.int .i64 (comQ m n).1, .bool (comQ m n).2]) ∧ w' = w :=
  (common_any m n w).mono fun _ _ ⟨h1, h2⟩ => ⟨h1, h2.symm⟩
theorem com_tie {S : KS} (h : S.Ok) {a b : Nat} (ha : a < S.n) (hb : b < S.n) : (comQ (S.m a) (S.m b)).2 = !decide (S.m a ≠ 0 ∧ S.m b ≠ 0 ∧ S.m a ≠ S.m b) ∧ ((comQ (S.m a) (S.m b)).2 = true → (comQ (S.m a) (S.m b)).1 = max (S.m a) (S.m b)) := by
  have := h.pos a ha
  have := h.pos b hb
  unfold comQ
  by_cases h1 : S.m a = S.m b ∨ S.m b = 0
  · rw [if_pos h1]
    constructor
    · rcases h1 with h1 | h1 <;> simp [h1]
    · intro _; simp only; omega
  · rw [if_neg h1]
    by_cases h2 : S.m a = 0
    · rw [if_pos h2]
      constructor
      · simp [h2]
      · intro _; simp only; omega
    · rw [if_neg h2]
      constructor
      · have : S.m a ≠ 0 ∧ S.m b ≠ 0 ∧ S.m a ≠ S.m b := ⟨h2, fun g => h1 (.inr g), fun g => h1 (.inl g)⟩
        rw [decide_eq_true this]; rfl
      · intro h; cases h
theorem tied {E : Nat → El} {ρ : Nat → Nat} {g c : Nat} {a b : Nat} {w' : World} (h : KnotAt B w k (.slice (some ⟨g, 0, none⟩) S.n c) S E ρ) (ha : a < S.n) (hb : b < S.n) (hne : ρ a ≠ ρ b)
    (hm : Merged B g S.n c (mergeE E (ρ a) (ρ b) (max (S.m a) (S.m b))) w w') : Moved B k (.slice (some ⟨g, 0, none⟩) S.n c) (tieF S a b) w w' := by
  have hgk : g ≠ k := fun e => h.apart (by rw [e]; rfl)
  have hG : ∃ ρ', Good (mergeE E (ρ a) (ρ b) (max (S.m a) (S.m b))) (tieF S a b) ρ' := by
    unfold mergeE
    split
    · rw [← tieF_comm, Int.max_comm]
      exact ⟨_, good_tie h.good hb ha hne.symm⟩
    · exact ⟨_, good_tie h.good ha hb hne⟩
  obtain ⟨ρ', hG⟩ := hG
  exact ⟨_, ⟨_, ρ', hG, hm.1, hm.2.heap h.box (fun e => hgk e.symm), h.low, h.big⟩, hm.2.mono fun b _ hb => .inr (by rw [hb]; rfl), fun b hb => .inl hb⟩
theorem sum_le {E : Nat → El} {ρ : Nat → Nat} (h : Good E S ρ) {a b : Nat} (ha : a < S.n) (hb : b < S.n) (hne : ρ a ≠ ρ b) : (E (ρ a)).size + (E (ρ b)).size ≤ S.n := by
  have two := sumTo_two (f := fun i => if (E i).up = i then (E i).size else 0) (h.root a ha).1 (h.root b hb).1 hne
  simp only [h.sum, if_pos (h.root a ha).2.1, if_pos (h.root b hb).2.1] at two
  exact two
set_option maxRecDepth 100000 in
set_option maxHeartbeats 1000000 in
theorem tie_any (h : KnotIs B w k v S) (a b : Int) :
    Calls Try.prog 15 #[.pointer (some ⟨k, 0, none⟩), .int .i64 a, .int .i64 b] w fun e w' => e = .returned (.bool (tieOk S a b)) ∧ Moved B k v (tieS S a b) w w' := by
  obtain ⟨E, ρ, h⟩ := h
  have H := Lib.hid h
  by_cases hk : inK S a = true ∧ inK S b = true
  · obtain ⟨hk, hk2⟩ := hk
    obtain ⟨a, ha0⟩ : ∃ c, a.toNat = c := ⟨_, rfl⟩
    obtain ⟨rfl, ha⟩ := inK_no hk ha0
    obtain ⟨b, hb0⟩ : ∃ c, b.toNat = c := ⟨_, rfl⟩
    obtain ⟨rfl, hb⟩ := inK_no hk2 hb0
    have HK := Lib.hid hk
    have HK2 := Lib.hid hk2
    have HA := Lib.hid ha
    have HB := Lib.hid hb
    obtain ⟨g, c, rfl, _, _⟩ := h.there (by omega)
    have hr := (h.cells (h.good.root a ha).1).2.2.2
    have hs := (h.cells (h.good.root b hb).1).2.2.2
    rw [h.good.mark a ha] at hr
    rw [h.good.mark b hb] at hs
    have hpe := ptr_eq h (ρ a) (ρ b)
    obtain ⟨hc1, hc2⟩ := com_tie h.good.ok ha hb
    have HTO := Lib.hid (show tieOk S (a : Int) (b : Int) = !decide (S.m a ≠ 0 ∧ S.m b ≠ 0 ∧ S.m a ≠ S.m b) by simp [tieOk, hk, hk2])
    by_cases he : ρ a = ρ b
    · have HT := Lib.hid (show tieOk S (a : Int) (b : Int) = true by
        have := h.good.ok.mm a b ha hb ((h.good.same a b ha hb).2 he)
        rw [HTO.out]; simp [this])
      have HE := Lib.hid he
      rw [decide_eq_true he] at hpe
      clear hk hk2 h ha hb ha0 hb0 hr hs hc1 hc2 he
      go_enter Try.func15, Try.ntmps15
      go_wp2_with (first
        | (go_at_call 25; ((with_reducible refine (has_any H.out _).mono ?_); rintro e w' ⟨he, rfl⟩; (first | rw [HK.out] at he | rw [HK2.out] at he); subst he))
        | (go_at_call 26; ((with_reducible refine (root_any H.out (by first | exact HA.out | exact HB.out)).mono ?_); rintro e w' ⟨he, rfl⟩; subst he)))
      go_ret
      refine ⟨ret_bool HT.out.symm, ?_⟩
      rw [show tieS S (a : Int) (b : Int) = tieF S a b by unfold tieS; rw [if_pos HT.out]; simp]
      exact ⟨_, ⟨E, ρ, good_tie_same H.out.good HA.out HB.out HE.out, H.out.row, H.out.box, H.out.low, H.out.big⟩, KeptP.refl _ _, fun _ hb => .inl hb⟩
    · rw [decide_eq_false he] at hpe
      have HE := Lib.hid he
      cases hq : (comQ (S.m a) (S.m b)).2
      · have HQ := Lib.hid hq
        have HT := Lib.hid (show tieOk S (a : Int) (b : Int) = false by rw [HTO.out, ← hc1]; exact hq)
        clear hk hk2 h ha hb ha0 hb0 hc1 hc2 he hq
        go_enter Try.func15, Try.ntmps15
        go_wp2_with (first
          | (go_at_call 25; ((with_reducible refine (has_any H.out _).mono ?_); rintro e w' ⟨he, rfl⟩; (first | rw [HK.out] at he | rw [HK2.out] at he); subst he))
          | (go_at_call 26; ((with_reducible refine (root_any H.out (by first | exact HA.out | exact HB.out)).mono ?_); rintro e w' ⟨he, rfl⟩; subst he)))
        have HCM : ∀ u : World, Calls Try.prog 27 #[.int .i64 (S.m a), .int .i64 (S.m b)] u fun e w' => e = .returned (.tuple #[.int .i64 (comQ (S.m a) (S.m b)).1, .bool false]) ∧ w' = u := fun u => by
          have := common_same (S.m a) (S.m b) u
          rw [HQ.out] at this
          exact this
        have HC := Lib.hid HCM
        clear HCM
        go_quiet ((go_at_call 27; exact Calls.quiet_of_same (HC.out _)))
        go_wp2_with fail
        go_ret
        refine ⟨ret_bool HT.out.symm, ?_⟩
        rw [show tieS S (a : Int) (b : Int) = S by unfold tieS; rw [if_neg (by rw [HT.out]; decide)]]
        have := (Moved.none ⟨E, ρ, H.out⟩)
        exact this.drewN _
      · have HQ := Lib.hid hq
        have HT := Lib.hid (show tieOk S (a : Int) (b : Int) = true by rw [HTO.out, ← hc1]; exact hq)
        have HMX := Lib.hid (hc2 hq)
        clear hk hk2 h ha hb ha0 hb0 hc1 hc2 he hq
        go_enter Try.func15, Try.ntmps15
        go_wp2_with (first
          | (go_at_call 25; ((with_reducible refine (has_any H.out _).mono ?_); rintro e w' ⟨he, rfl⟩; (first | rw [HK.out] at he | rw [HK2.out] at he); subst he))
          | (go_at_call 26; ((with_reducible refine (root_any H.out (by first | exact HA.out | exact HB.out)).mono ?_); rintro e w' ⟨he, rfl⟩; subst he)))
        have HCM : ∀ u : World, Calls Try.prog 27 #[.int .i64 (S.m a), .int .i64 (S.m b)] u fun e w' => e = .returned (.tuple #[.int .i64 (max (S.m a) (S.m b)), .bool true]) ∧ w' = u := fun u => by
          have := common_same (S.m a) (S.m b) u
          rw [HQ.out, HMX.out] at this
          exact this
        have HC := Lib.hid HCM
        clear HCM
        go_quiet ((go_at_call 27; exact Calls.quiet_of_same (HC.out _)))
        generalize hW : w.drewN nq = W
        have H1 : KnotAt B W k (.slice (some ⟨g, 0, none⟩) S.n c) S E ρ := by rw [← hW]; exact H.out.under ⟨rfl, rfl, rfl, Nat.le_refl _, fun _ _ => rfl⟩
        have HW := Lib.hid hW
        have H2 := Lib.hid H1
        clear hW H1
        go_wp2_with (go_at_call 29; ((with_reducible refine (merge_any H2.out.row (H2.out.good.root a HA.out).1 (H2.out.good.root b HB.out).1 HE.out (H2.out.good.root a HA.out).2.1 (H2.out.good.root b HB.out).2.1 (Nat.le_trans (sum_le H2.out.good HA.out HB.out HE.out) H2.out.big) _).mono ?_); rintro e w3 ⟨rfl, hm⟩; have HMG := Lib.hid hm; clear hm))
        go_ret
        refine ⟨ret_bool HT.out.symm, ?_⟩
        rw [show tieS S (a : Int) (b : Int) = tieF S a b by unfold tieS; rw [if_pos HT.out]; simp]
        have := tied H2.out HA.out HB.out HE.out HMG.out
        rw [← HW.out] at this
        exact Moved.ahead _ this
  · have HT := Lib.hid (show tieOk S a b = false by
      cases hi : inK S a
      · simp [tieOk, hi]
      · have : inK S b = false := by cases hj : inK S b <;> simp_all
        simp [tieOk, this])
    have HS := Lib.hid (show tieS S a b = S by unfold tieS; rw [if_neg (by rw [HT.out]; decide)])
    cases hi : inK S a
    · have HK := Lib.hid hi
      clear hk h hi
      go_enter Try.func15, Try.ntmps15
      go_wp2_with (go_at_call 25; ((with_reducible refine (has_any H.out _).mono ?_); rintro e w' ⟨he, rfl⟩; rw [HK.out] at he; subst he))
      go_ret
      exact ⟨ret_bool HT.out.symm, by rw [HS.out]; exact Moved.none ⟨E, ρ, H.out⟩⟩
    · cases hj : inK S b
      · have HK := Lib.hid hi
        have HK2 := Lib.hid hj
        clear hk h hi hj
        go_enter Try.func15, Try.ntmps15
        go_wp2_with (go_at_call 25; ((with_reducible refine (has_any H.out _).mono ?_); rintro e w' ⟨he, rfl⟩; (first | rw [HK.out] at he | rw [HK2.out] at he); subst he))
        go_ret
        exact ⟨ret_bool HT.out.symm, by rw [HS.out]; exact Moved.none ⟨E, ρ, H.out⟩⟩
      · exact absurd ⟨hi, hj⟩ hk
end
end Go.Proofs.Ytiehfjkiedgkhaa
