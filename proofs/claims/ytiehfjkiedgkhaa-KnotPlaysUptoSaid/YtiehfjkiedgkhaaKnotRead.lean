/-
  The calls that ask a knot: Len, has, root, Of, Least, Alike.
-/
import Derived.Test.YtiehfjkiedgkhaaKnotMem
import Derived.LaidEqlPtr
namespace Go.Proofs.Ytiehfjkiedgkhaa
open Go.RowKit

def Int64 (a : Int) : Prop := -9223372036854775808 ≤ a ∧ a < 9223372036854775808
theorem ret_bool {a b : Bool} (h : a = b) : Ending.returned (.bool a) = .returned (.bool b) := by rw [h]
theorem ret_int {k : IntKind} {a b : Int} (h : a = b) : Ending.returned (.int k a) = .returned (.int k b) := by rw [h]
section
variable {B k : Nat} {w : World} {v : Value} {S : KS} {E : Nat → El} {ρ : Nat → Nat}
theorem len_any (h : KnotAt B w k v S E ρ) : Calls Try.prog 23 #[.pointer (some ⟨k, 0, none⟩)] w fun e w' => e = .returned (.int .i64 S.n) ∧ w = w' := by
  have hc := h.cell0
  obtain ⟨A, c, rfl, h1, h2⟩ := h.len
  clear h
  unfold maxLen at h2
  go_enter Try.func23, Try.ntmps23
  go_wp2
  go_ret
  exact ⟨rfl, rfl⟩
theorem has_any (h : KnotAt B w k v S E ρ) (a : Int) : Calls Try.prog 25 #[.pointer (some ⟨k, 0, none⟩), .int .i64 a] w fun e w' => e = .returned (.bool (inK S a)) ∧ w = w' := by
  have H := Lib.hid h
  have hb := h.big
  clear h
  by_cases h0 : 0 ≤ a
  · go_enter Try.func25, Try.ntmps25
    go_wp2_with (go_at_call 23; ((with_reducible refine (len_any H.out).mono ?_); rintro e w' ⟨rfl, rfl⟩))
    go_ret
    exact ⟨ret_bool (by simp [inK, h0]), rfl⟩
  · go_enter Try.func25, Try.ntmps25
    go_wp2_with (go_at_call 23; ((with_reducible refine (len_any H.out).mono ?_); rintro e w' ⟨rfl, rfl⟩))
    go_ret
    exact ⟨ret_bool (by simp [inK]; omega), rfl⟩
set_option maxRecDepth 100000 in
set_option maxHeartbeats 1000000 in
theorem root_any {g c : Nat} (h : KnotAt B w k (.slice (some ⟨g, 0, none⟩) S.n c) S E ρ) {a : Nat} (ha : a < S.n) :
    Calls Try.prog 26 #[.pointer (some ⟨k, 0, none⟩), .int .i64 a] w fun e w' => e = .returned (.pointer (some ⟨g, ρ a * 4, none⟩)) ∧ w = w' := by
  have hc := h.cell0
  have hbig := h.big
  have H := Lib.hid h
  have HA := Lib.hid ha
  go_enter Try.func26, Try.ntmps26
  go_wp2_with fail
  go_loopg [1] (S.n - (E a).size) (fun gk u wr => ∃ i : Nat, i < S.n ∧ ρ i = ρ a ∧ gk + (E i).size = S.n ∧ u = .int .i64 i ∧ wr = w)
  case atStart => exact ⟨a, HA.out, rfl, by have := H.out.good.le a HA.out; omega, rfl, rfl⟩
  case round =>
    obtain ⟨i, hi, hr, hg, rfl, rfl⟩ := hrel
    have hx := (H.out.cells hi).1
    have HR := Lib.hid hr
    have HG := Lib.hid hg
    have hup := H.out.good.up i hi
    clear hr hg
    by_cases hu : (E i).up = i
    · rw [hu] at hx
      have hne : ((i : Int) != (i : Int)) = false := by simp
      have HE := Lib.hid (show ρ a = i by rw [← HR.out]; exact H.out.good.self i hi hu)
      clear hu hup
      go_wp2_with fail
      go_ret
      exact ⟨by rw [HE.out]; rfl, rfl⟩
    · have hcl := H.out.good.climb i hi hu
      have hle := H.out.good.le _ hup
      have HR2 := Lib.hid (show ρ (E i).up = ρ a by rw [← HR.out]; exact (H.out.good.root i hi).2.2)
      generalize hj : (E i).up = j at *
      have HC := Lib.hid hcl
      have HL := Lib.hid hle
      have hne : ((j : Int) != (i : Int)) = true := by simpa using fun e => hu (by omega)
      have HU := Lib.hid hu
      have HJ := Lib.hid hj
      clear hj hu hcl hle HR
      go_wp2_with fail
      go_roundg (S.n - (E j).size)
      case measure => have := HG.out; have := HC.out; have := HL.out; omega
      case rel => exact ⟨j, hup, HR2.out, by have := HL.out; omega, rfl, rfl⟩
theorem el_size : (Try.prog.info? 45).map (·.size) = some 4 := by kernel_rfl
theorem ptr_eq {g c : Nat} (h : KnotAt B w k (.slice (some ⟨g, 0, none⟩) S.n c) S E ρ) (i j : Nat) :
    (binOp .eql 47 (.pointer (some ⟨g, i * 4, none⟩)) (.pointer (some ⟨g, j * 4, none⟩))).run Try.prog w = .ok (.bool (decide (i = j))) w := by
  obtain ⟨q, hq, hqs⟩ := Option.map_eq_some_iff.1 el_size
  by_cases e : i = j
  · subst e
    rw [run_eql_ptr_same w _ Try.underlying47 hq]
    simp
  · rcases h.row with ⟨h, _⟩ | ⟨g', cap, cur, e2, _, h3, _⟩
    · cases h
    · cases e2
      rw [run_eql_ptr_other w Try.underlying47 hq (by rw [hqs]; decide) (fun e3 => e (by injection e3 with _ e4 _; omega)) h3 h3]
      simp [e]
theorem inK_no {S : KS} {a : Int} {b : Nat} (h : inK S a = true) (hb : a.toNat = b) : a = (b : Int) ∧ b < S.n := by
  have := inK_lt h
  omega
set_option maxRecDepth 100000 in
set_option maxHeartbeats 1000000 in
theorem of_any (h : KnotAt B w k v S E ρ) (a : Int) : Calls Try.prog 17 #[.pointer (some ⟨k, 0, none⟩), .int .i64 a] w fun e w' => e = .returned (.int .i64 (ofS S a)) ∧ w = w' := by
  have H := Lib.hid h
  cases hk : inK S a
  · have HK := Lib.hid hk
    clear hk h
    go_enter Try.func17, Try.ntmps17
    go_wp2_with (go_at_call 25; ((with_reducible refine (has_any H.out _).mono ?_); rintro e w' ⟨he, rfl⟩; rw [HK.out] at he; subst he))
    go_ret
    exact ⟨ret_int (by simp [ofS, HK.out]), rfl⟩
  · obtain ⟨b, hb0⟩ : ∃ b, a.toNat = b := ⟨_, rfl⟩
    obtain ⟨rfl, hb⟩ := inK_no hk hb0
    have HK := Lib.hid hk
    have HB := Lib.hid hb
    obtain ⟨g, c, rfl, _, _⟩ := h.there (by omega)
    have hr := (h.cells (h.good.root b hb).1).2.2.2
    rw [h.good.mark b hb] at hr
    clear hk h hb hb0
    go_enter Try.func17, Try.ntmps17
    go_wp2_with (first
      | (go_at_call 25; ((with_reducible refine (has_any H.out _).mono ?_); rintro e w' ⟨he, rfl⟩; rw [HK.out] at he; subst he))
      | (go_at_call 26; ((with_reducible refine (root_any H.out HB.out).mono ?_); rintro e w' ⟨he, rfl⟩; subst he)))
    go_ret
    exact ⟨ret_int (by simp [ofS, HK.out]), rfl⟩
set_option maxRecDepth 100000 in
set_option maxHeartbeats 1000000 in
theorem least_any (h : KnotAt B w k v S E ρ) (a : Int) : Calls Try.prog 19 #[.pointer (some ⟨k, 0, none⟩), .int .i64 a] w fun e w' => e = .returned (.int .i64 (leastS S a)) ∧ w = w' := by
  have H := Lib.hid h
  cases hk : inK S a
  · have HK := Lib.hid hk
    clear hk h
    go_enter Try.func19, Try.ntmps19
    go_wp2_with (go_at_call 25; ((with_reducible refine (has_any H.out _).mono ?_); rintro e w' ⟨he, rfl⟩; rw [HK.out] at he; subst he))
    go_ret
    exact ⟨ret_int (by simp [leastS, HK.out]), rfl⟩
  · obtain ⟨b, hb0⟩ : ∃ b, a.toNat = b := ⟨_, rfl⟩
    obtain ⟨rfl, hb⟩ := inK_no hk hb0
    have HK := Lib.hid hk
    have HB := Lib.hid hb
    obtain ⟨g, c, rfl, _, _⟩ := h.there (by omega)
    have hr := (h.cells (h.good.root b hb).1).2.2.1
    rw [h.good.least b hb] at hr
    clear hk h hb hb0
    go_enter Try.func19, Try.ntmps19
    go_wp2_with (first
      | (go_at_call 25; ((with_reducible refine (has_any H.out _).mono ?_); rintro e w' ⟨he, rfl⟩; rw [HK.out] at he; subst he))
      | (go_at_call 26; ((with_reducible refine (root_any H.out HB.out).mono ?_); rintro e w' ⟨he, rfl⟩; subst he)))
    go_ret
    exact ⟨ret_int (by simp [leastS, HK.out]), rfl⟩
set_option maxRecDepth 100000 in
set_option maxHeartbeats 1000000 in
theorem alike_any (h : KnotAt B w k v S E ρ) (a b : Int) : Calls Try.prog 21 #[.pointer (some ⟨k, 0, none⟩), .int .i64 a, .int .i64 b] w fun e w' => e = .returned (.bool (alikeS S a b)) ∧ w = w' := by
  have H := Lib.hid h
  cases hk : inK S a
  · have HK := Lib.hid hk
    clear hk h
    go_enter Try.func21, Try.ntmps21
    go_wp2_with (go_at_call 25; ((with_reducible refine (has_any H.out _).mono ?_); rintro e w' ⟨he, rfl⟩; (try rw [HK.out] at he); subst he))
    go_ret
    exact ⟨ret_bool (by simp [alikeS, HK.out]), rfl⟩
  · cases hk2 : inK S b
    · have HK := Lib.hid hk
      have HK2 := Lib.hid hk2
      clear hk hk2 h
      go_enter Try.func21, Try.ntmps21
      go_wp2_with (go_at_call 25; ((with_reducible refine (has_any H.out _).mono ?_); rintro e w' ⟨he, rfl⟩; (first | rw [HK.out] at he | rw [HK2.out] at he); subst he))
      go_ret
      exact ⟨ret_bool (by simp [alikeS, HK2.out]), rfl⟩
    · obtain ⟨a, ha0⟩ : ∃ b, a.toNat = b := ⟨_, rfl⟩
      obtain ⟨rfl, ha⟩ := inK_no hk ha0
      obtain ⟨b, hb0⟩ : ∃ c, b.toNat = c := ⟨_, rfl⟩
      obtain ⟨rfl, hb⟩ := inK_no hk2 hb0
      have HK := Lib.hid hk
      have HK2 := Lib.hid hk2
      have HA := Lib.hid ha
      have HB := Lib.hid hb
      obtain ⟨g, c, rfl, _, _⟩ := h.there (by omega)
      have HS := Lib.hid (h.good.same a b ha hb)
      have hpe := ptr_eq h (ρ a) (ρ b)
      clear hk hk2 h ha hb ha0 hb0
      go_enter Try.func21, Try.ntmps21
      go_wp2_with (first
        | (go_at_call 25; ((with_reducible refine (has_any H.out _).mono ?_); rintro e w' ⟨he, rfl⟩; (first | rw [HK.out] at he | rw [HK2.out] at he); subst he))
        | (go_at_call 26; ((with_reducible refine (root_any H.out (by first | exact HA.out | exact HB.out)).mono ?_); rintro e w' ⟨he, rfl⟩; subst he)))
      go_ret
      exact ⟨ret_bool (by simp [alikeS, HK.out, HK2.out, HS.out]), rfl⟩
end
end Go.Proofs.Ytiehfjkiedgkhaa
