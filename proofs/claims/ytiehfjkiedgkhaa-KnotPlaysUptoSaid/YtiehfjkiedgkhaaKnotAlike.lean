/-
  KnotAlike: the walk.
-/
import Derived.Test.YtiehfjkiedgkhaaKnotOps
namespace Go.Proofs.Ytiehfjkiedgkhaa
open Go.RowKit

theorem markS_n (S : KS) (a m : Int) : (markS S a m).n = S.n := by unfold markS; split <;> rfl
theorem tieS_n (S : KS) (a b : Int) : (tieS S a b).n = S.n := by unfold tieS; split <;> rfl
theorem opS_n {S : KS} {o : QOp} (h : kindQ o.kd ≠ 0) : (opS S o).n = S.n := by
  unfold opS
  rw [if_neg h]
  split
  · exact markS_n _ _ _
  · exact tieS_n _ _ _
theorem opS_add {S : KS} {o : QOp} (h : kindQ o.kd = 0) : (opS S o).n = S.n + 1 := by
  unfold opS
  rw [if_pos h]
  rfl
theorem inK_of {S : KS} {a : Nat} (h : a < S.n) : inK S (a : Int) = true := by simp [inK, h]
theorem alikeS_of {S : KS} {a b : Nat} (ha : a < S.n) (hb : b < S.n) : alikeS S (a : Int) (b : Int) = decide (S.c a = S.c b) := by simp [alikeS, inK_of ha, inK_of hb]
theorem leastS_of {S : KS} {a : Nat} (ha : a < S.n) : leastS S (a : Int) = (S.c a : Int) := by simp [leastS, inK_of ha]
theorem ofS_of {S : KS} {a : Nat} (ha : a < S.n) : ofS S (a : Int) = S.m a := by simp [ofS, inK_of ha]
/-- the loop over the script -/
def AlikeR (l : List QOp) (k : Nat) (w : World) (g : Nat) (u : Value) (wr : World) : Prop :=
  ∃ (i : Nat) (v : Value) (S : KS), i + g = l.length ∧ u = .int .i64 i ∧ KnotIs w.heap.size wr k v S ∧ S.n ≤ 40 ∧ Below w.heap.size w wr
set_option maxRecDepth 100000 in
set_option maxHeartbeats 1000000 in
theorem alike_law (v0 : Value) (l : List QOp) (w : World) (hops : OpsAt w v0 l) : Calls Try.prog 4 #[v0] w (Lived w) := by
  have HOP := Lib.hid hops
  obtain ⟨A, c0, hv0, hl1, hl2, _⟩ := hops
  subst hv0
  unfold maxLen at hl2
  go_enter Try.func4, Try.ntmps4
  go_wp2_with (first
    | (go_at_call 8; ((with_reducible refine (lives_any _).mono ?_); rintro e w1 ⟨rfl, hb⟩; have HB1 := Lib.hid hb; clear hb))
    | (go_at_call 9; ((with_reducible refine (new_any (B := w.heap.size) HB1.out.size).mono ?_); rintro e w2 ⟨rfl, h2, b2⟩; have H2 := Lib.hid h2; have HB2 := Lib.hid (HB1.out.trans (b2.mono HB1.out.size)); clear h2 b2)))
  generalize hk : w1.heap.size = k
  rw [hk] at H2
  clear hk
  go_loopg [4] l.length (AlikeR l k w)
  case atStart => exact ⟨0, _, noneS, by omega, rfl, H2.out, by simp [noneS], HB2.out⟩
  case round =>
    obtain ⟨i, v, S, hi, rfl, hS, hn, hb⟩ := hrel
    have HS := Lib.hid hS
    have HB := Lib.hid hb
    have HI := Lib.hid hi
    clear hS hb
    by_cases hil : i < l.length
    · obtain ⟨o, ho⟩ : ∃ o, l[i]? = some o := ⟨_, List.getElem?_eq_getElem hil⟩
      obtain ⟨a, rfl⟩ : ∃ a, A = some a := by
        obtain ⟨A', c', e, _, _, h4⟩ := HOP.out
        obtain ⟨_, a, h6, _⟩ := h4 i o ho
        cases e
        exact ⟨a, h6⟩
      obtain ⟨hok, z0, z1, z2⟩ := (HOP.out.under HB.out).cells ho
      have HO := Lib.hid hok.2.2.2
      have HL := Lib.hid ho
      clear hi ho hok
      by_cases hk0 : kindQ o.kd = 0
      · have HK := Lib.hid hk0
        have hk1 : (kindQ o.kd != 0) = false := by simpa using hk0
        clear hk0
        by_cases h40 : S.n < 40
        · have h41 : decide ((S.n : Int) < 40) = true := by simp; omega
          go_wp2_with (first
            | (go_at_call 10; ((with_reducible refine (kind_any _ _ _ _).mono ?_); rintro e w5 ⟨he, hb5⟩; subst he; have HB5 := Lib.hid hb5; obtain ⟨_, y0, y1, y2⟩ := (HOP.out.under (HB.out.trans (HB5.out.mono HB.out.size))).cells HL.out; clear hb5))
            | (go_at_call 23; ((with_reducible refine (len_is (HS.out.under HB5.out)).mono ?_); rintro e w6 ⟨he, rfl⟩; subst he))
            | (go_at_call 24; ((with_reducible refine (does_any (HS.out.under HB5.out) (by omega) (Nat.le_trans HB.out.size HB5.out.size) o HO.out).mono ?_); rintro e w7 ⟨he, hm⟩; subst he; obtain ⟨v7, h7, b7⟩ := Moved.go (HS.out.under HB5.out) (HB.out.trans (HB5.out.mono HB.out.size)) (Nat.le_refl _) hm; have H7 := Lib.hid h7; have B7 := Lib.hid b7; clear h7 b7 hm)))
          go_roundg (l.length - (i + 1))
          case measure => have := HI.out; omega
          case rel => exact ⟨i + 1, v7, _, by omega, by go_num, H7.out, by rw [opS_add HK.out]; omega, B7.out⟩
        · have h41 : decide ((S.n : Int) < 40) = false := by simp; omega
          go_wp2_with (first
            | (go_at_call 10; ((with_reducible refine (kind_any _ _ _ _).mono ?_); rintro e w5 ⟨he, hb5⟩; subst he; have HB5 := Lib.hid hb5; clear hb5))
            | (go_at_call 23; ((with_reducible refine (len_is (HS.out.under HB5.out)).mono ?_); rintro e w6 ⟨he, rfl⟩; subst he)))
          go_roundg (l.length - (i + 1))
          case measure => have := HI.out; omega
          case rel => exact ⟨i + 1, v, S, by omega, by go_num, HS.out.under HB5.out, hn, HB.out.trans (HB5.out.mono HB.out.size)⟩
      · have HK := Lib.hid hk0
        have hk1 : (kindQ o.kd != 0) = true := by simpa using hk0
        clear hk0
        go_wp2_with (first
          | (go_at_call 10; ((with_reducible refine (kind_any _ _ _ _).mono ?_); rintro e w5 ⟨he, hb5⟩; subst he; have HB5 := Lib.hid hb5; obtain ⟨_, y0, y1, y2⟩ := (HOP.out.under (HB.out.trans (HB5.out.mono HB.out.size))).cells HL.out; clear hb5))
          | (go_at_call 24; ((with_reducible refine (does_any (HS.out.under HB5.out) (by omega) (Nat.le_trans HB.out.size HB5.out.size) o HO.out).mono ?_); rintro e w7 ⟨he, hm⟩; subst he; obtain ⟨v7, h7, b7⟩ := Moved.go (HS.out.under HB5.out) (HB.out.trans (HB5.out.mono HB.out.size)) (Nat.le_refl _) hm; have H7 := Lib.hid h7; have B7 := Lib.hid b7; clear h7 b7 hm)))
        go_roundg (l.length - (i + 1))
        case measure => have := HI.out; omega
        case rel => exact ⟨i + 1, v7, _, by omega, by go_num, H7.out, by rw [opS_n HK.out]; exact hn, B7.out⟩
    · have HOKK := Lib.hid HS.out.ok
      clear hi
      go_wp2_with (go_at_call 23; ((with_reducible refine (len_is HS.out).mono ?_); rintro e w6 ⟨he, rfl⟩; subst he))
      go_loopg [6] S.n (fun g u W => ∃ a : Nat, a + g = S.n ∧ u = .int .i64 a ∧ W = wr)
      case atStart => exact ⟨0, by omega, rfl, rfl⟩
      case round =>
        obtain ⟨a, ha, rfl, rfl⟩ := hrel
        have HA := Lib.hid ha
        clear ha
        by_cases hal : a < S.n
        · have hcl := HOKK.out.le a hal
          have hcl2 : S.c a < S.n := by omega
          have Q1 := Lib.hid (show alikeS S (a : Int) (a : Int) = true by rw [alikeS_of hal hal]; simp)
          have Q2 := Lib.hid (leastS_of hal)
          have Q3 := Lib.hid (show alikeS S (a : Int) (S.c a : Int) = true by rw [alikeS_of hal hcl2, HOKK.out.cc a hal]; simp)
          have hgt : decide (a < S.c a) = false := by simpa using hcl
          go_wp2_with (first
            | (go_at_call 21; ((with_reducible refine (alike_is HS.out _ _).mono ?_); rintro e w6 ⟨he, rfl⟩; (first | rw [Q1.out] at he | rw [Q3.out] at he); subst he))
            | (go_at_call 19; ((with_reducible refine (least_is HS.out _).mono ?_); rintro e w6 ⟨he, rfl⟩; rw [Q2.out] at he; subst he)))
          go_loopg [7] S.n (fun g u W => ∃ b : Nat, b + g = S.n ∧ u = .int .i64 b ∧ W = wr)
          case atStart => exact ⟨0, by omega, rfl, rfl⟩
          case round =>
            obtain ⟨b, hb, rfl, rfl⟩ := hrel
            have HBB := Lib.hid hb
            clear hb
            by_cases hbl : b < S.n
            · have P2 := Lib.hid (leastS_of hbl)
              have M1 := Lib.hid (ofS_of hal)
              by_cases hc : S.c a = S.c b
              · have P1 := Lib.hid (show alikeS S (a : Int) (b : Int) = true by rw [alikeS_of hal hbl]; simpa using hc)
                have P3 := Lib.hid (show alikeS S (b : Int) (a : Int) = true by rw [alikeS_of hbl hal]; simpa using hc.symm)
                have P4 := Lib.hid (show leastS S (b : Int) = S.c a by rw [P2.out, hc])
                have M2 := Lib.hid (show ofS S (b : Int) = S.m a by rw [ofS_of hbl]; exact (HOKK.out.mm a b hal hbl hc).symm)
                clear hc
                go_wp2_with (first
                  | (go_at_call 21; ((with_reducible refine (alike_is HS.out _ _).mono ?_); rintro e w6 ⟨he, rfl⟩; (first | rw [P1.out] at he | rw [P3.out] at he); subst he))
                  | (go_at_call 19; ((with_reducible refine (least_is HS.out _).mono ?_); rintro e w6 ⟨he, rfl⟩; (first | rw [Q2.out] at he | rw [P4.out] at he); subst he))
                  | (go_at_call 17; ((with_reducible refine (of_is HS.out _).mono ?_); rintro e w6 ⟨he, rfl⟩; (first | rw [M1.out] at he | rw [M2.out] at he); subst he)))
                go_roundg (S.n - (b + 1))
                case measure => have := HBB.out; omega
                case rel => exact ⟨b + 1, by omega, by go_num, rfl⟩
              · have P1 := Lib.hid (show alikeS S (a : Int) (b : Int) = false by rw [alikeS_of hal hbl]; simpa using hc)
                have P3 := Lib.hid (show alikeS S (b : Int) (a : Int) = false by rw [alikeS_of hbl hal]; simpa using fun g => hc g.symm)
                have hne : ((S.c a : Int) == (S.c b : Int)) = false := by simp; omega
                clear hc
                go_wp2_with (first
                  | (go_at_call 21; ((with_reducible refine (alike_is HS.out _ _).mono ?_); rintro e w6 ⟨he, rfl⟩; (first | rw [P1.out] at he | rw [P3.out] at he); subst he))
                  | (go_at_call 19; ((with_reducible refine (least_is HS.out _).mono ?_); rintro e w6 ⟨he, rfl⟩; (first | rw [Q2.out] at he | rw [P2.out] at he); subst he)))
                go_roundg (S.n - (b + 1))
                case measure => have := HBB.out; omega
                case rel => exact ⟨b + 1, by omega, by go_num, rfl⟩
            · go_wp2_with fail
              go_roundg (S.n - (a + 1))
              case measure => have := HA.out; omega
              case rel => exact ⟨a + 1, by omega, by go_num, rfl⟩
        · go_wp2_with fail
          go_ret
          exact ⟨rfl, HB.out⟩
end Go.Proofs.Ytiehfjkiedgkhaa
