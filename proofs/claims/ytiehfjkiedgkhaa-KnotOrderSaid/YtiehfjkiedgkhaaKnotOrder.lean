/-
  KnotOrder: the walk.
-/
import Derived.Test.YtiehfjkiedgkhaaKnotFit
namespace Go.Proofs.Ytiehfjkiedgkhaa
open Go.RowKit

/-- two knots beside each other -/
structure Two (B : Nat) (w : World) (k1 k2 : Nat) (v1 v2 : Value) (S1 S2 : KS) : Prop where
  one : KnotIs B w k1 v1 S1
  two : KnotIs B w k2 v2 S2
  apart : ∀ b, Foot k1 v1 b → ¬ Foot k2 v2 b
section
variable {B k1 k2 : Nat} {w w' : World} {v1 v2 : Value} {S1 S2 S' : KS}
theorem Two.under (h : Two B w k1 k2 v1 v2 S1 S2) (hb : Below w.heap.size w w') : Two B w' k1 k2 v1 v2 S1 S2 := ⟨h.one.under hb, h.two.under hb, h.apart⟩
theorem Two.left (h : Two B w k1 k2 v1 v2 S1 S2) (m : Moved B k1 v1 S' w w') : ∃ v', Two B w' k1 k2 v' v2 S' S2 := by
  obtain ⟨v', h1, h2, h3⟩ := m
  refine ⟨v', h1, h.two.kept h2 fun b hb hf => h.apart b hf hb, fun b hb hf => ?_⟩
  rcases h3 b hb with g | g
  · exact h.apart b g hf
  · have := (h.two.lt hf).2
    omega
theorem Two.right (h : Two B w k1 k2 v1 v2 S1 S2) (m : Moved B k2 v2 S' w w') : ∃ v', Two B w' k1 k2 v1 v' S1 S' := by
  obtain ⟨v', h1, h2, h3⟩ := m
  refine ⟨v', h.one.kept h2 h.apart, h1, fun b hf hb => ?_⟩
  rcases h3 b hb with g | g
  · exact h.apart b hf g
  · have := (h.one.lt hf).2
    omega
theorem KnotIs.down (h : KnotIs B w k1 v1 S1) {w0 : World} (hb : Below B w0 w) (hB : B ≤ w0.heap.size) (m : Moved B k1 v1 S' w w') : Below B w0 w' := by
  obtain ⟨_, _, h2, _⟩ := m
  exact hb.trans (h2.below (Nat.le_trans hB hb.size) fun b hb' => (h.lt hb').1)
theorem good_zero (E : Nat → El) (ρ : Nat → Nat) : Good E (singles 0) ρ :=
  ⟨ok_singles 0, fun i h => by simp [singles] at h, fun i h => by simp [singles] at h, fun i h => by simp [singles] at h, fun i h => by simp [singles] at h, rfl, fun i h => by simp [singles] at h, fun i h => by simp [singles] at h, fun i h => by simp [singles] at h, fun i h => by simp [singles] at h, fun i j h => by simp [singles] at h⟩
theorem KnotIs.zero (h : KnotIs B w k1 v1 noneS) : KnotIs B w k1 v1 (singles 0) := by
  obtain ⟨E, ρ, h⟩ := h
  exact ⟨E, ρ, good_zero E ρ, h.row, h.box, h.low, by simp [singles]⟩
end
theorem alike_same {X Y : KS} {l : List QOp} (hY : SecondK X l 0 Y) (h : ∀ i, i < X.n → Y.c i = X.c i ∧ Y.m i = X.m i) {b : Nat} (hb : b < X.n) (a : Int) : alikeS Y (b : Int) a = alikeS X (b : Int) a := by
  have hn := hY.bound.n
  unfold alikeS
  rw [inK_n hn, inK_n hn]
  cases ha : inK X a
  · simp
  · rw [show ((b : Int)).toNat = b from rfl, (h b hb).1, (h _ (inK_lt ha).2.2).1]
def OrdA (n k1 k2 : Nat) (w : World) (g : Nat) (u : Value) (wr : World) : Prop :=
  ∃ (i : Nat) (v1 v2 : Value), i + g = n ∧ u = .int .i64 i ∧ Two w.heap.size wr k1 k2 v1 v2 (singles i) (singles i) ∧ Below w.heap.size w wr
def OrdB (n k1 k2 : Nat) (l : List QOp) (w : World) (g : Nat) (u : Value) (wr : World) : Prop :=
  ∃ (i : Nat) (v1 v2 : Value) (S : KS), i + g = l.length ∧ u = .int .i64 i ∧ Two w.heap.size wr k1 k2 v1 v2 S (singles n) ∧ FirstK n l i S ∧ Below w.heap.size w wr
def OrdC (X : KS) (k1 k2 : Nat) (l : List QOp) (w : World) (g : Nat) (u : Value) (wr : World) : Prop :=
  ∃ (v1 v2 : Value) (S : KS) (z : Int), g ≤ l.length ∧ u = .int .i64 z ∧ z = (g : Int) - 1 ∧ Two w.heap.size wr k1 k2 v1 v2 X S ∧ SecondK X l g S ∧ Below w.heap.size w wr
set_option maxRecDepth 100000 in
set_option maxHeartbeats 1000000 in
theorem order_law (things : Int) (v0 : Value) (l : List QOp) (a : Int) (w : World) (_ : Int64 things) (hops : OpsAt w v0 l) (_ : Int64 a) : Calls Try.prog 5 #[.int .i64 things, v0, .int .i64 a] w (Lived w) := by
  have HOP := Lib.hid hops
  obtain ⟨A, c0, hv0, hl1, hl2, _⟩ := hops
  subst hv0
  unfold maxLen at hl2
  obtain ⟨n, hn30, hn⟩ : ∃ n : Nat, n < 30 ∧ wrap64 ((IntKind.u64.wrap things).tmod 30) = (n : Int) := by
    have h0 : 0 ≤ IntKind.u64.wrap things := by rw [IntKind.wrap_u64]; omega
    refine ⟨((IntKind.u64.wrap things) % 30).toNat, by omega, ?_⟩
    rw [Int.tmod_eq_emod_of_nonneg h0]
    unfold wrap64
    omega
  go_enter Try.func5, Try.ntmps5
  have TK := Lib.hid True.intro
  go_wp2_with (first
    | (go_at_call 8; ((with_reducible refine (lives_any _).mono ?_); rintro e w1 ⟨rfl, hb⟩; have HB1 := Lib.hid hb; clear hb))
    | (have _ := TK.out; go_at_call 9; ((with_reducible refine (new_any (B := w.heap.size) HB1.out.size).mono ?_); rintro e w2 ⟨rfl, h2, b2⟩; have H2 := Lib.hid h2; have HW2 := Lib.hid b2; have HB2 := Lib.hid (HB1.out.trans (b2.mono HB1.out.size)); clear h2 b2 TK))
    | (go_at_call 9; ((with_reducible refine (new_any (B := w.heap.size) HB2.out.size).mono ?_); rintro e w3 ⟨rfl, h3, b3⟩; have H3 := Lib.hid h3; have HW3 := Lib.hid b3; have HB3 := Lib.hid (HB2.out.trans (b3.mono HB2.out.size)); clear h3 b3)))
  have T0 : Two w.heap.size w3 w1.heap.size w2.heap.size (.slice none 0 0) (.slice none 0 0) (singles 0) (singles 0) := by
    refine ⟨(H2.out.under HW3.out).zero, H3.out.zero, fun b hb hf => ?_⟩
    have h1 : b = w1.heap.size := hb.elim id fun e => by simp [Value.ownBlock] at e
    have h2 : b = w2.heap.size := hf.elim id fun e => by simp [Value.ownBlock] at e
    have := (H2.out.lt (b := w1.heap.size) (.inl rfl)).2
    omega
  have HT := Lib.hid T0
  clear T0 H2 H3 HW2 HW3 hn
  generalize hk1 : w1.heap.size = k1 at HT
  generalize hk2 : w2.heap.size = k2 at HT
  clear hk1 hk2
  go_loopg [10] n (OrdA n k1 k2 w)
  case atStart => exact ⟨0, _, _, by omega, rfl, HT.out, HB3.out⟩
  case round =>
    obtain ⟨i, v1, v2, hi, rfl, ht, hb⟩ := hrel
    have HT := Lib.hid ht
    have HB := Lib.hid hb
    have HI := Lib.hid hi
    clear ht hb hi
    by_cases hin : i < n
    · have hsn : (singles i).n < 4194303 := by simp only [singles]; omega
      go_wp2_with (first
        | (go_at_call 11; ((with_reducible refine (add_any HT.out.one hsn HB.out.size).mono ?_); rintro e w5 ⟨he, hm⟩; subst he; have HD5 := Lib.hid (HT.out.one.down HB.out (Nat.le_refl _) hm); obtain ⟨v5, h5⟩ := HT.out.left hm; have HT5 := Lib.hid h5; clear h5 hm))
        | (go_at_call 11; ((with_reducible refine (add_any HT5.out.two hsn HD5.out.size).mono ?_); rintro e w6 ⟨he, hm⟩; subst he; have HD6 := Lib.hid (HT5.out.two.down HD5.out (Nat.le_refl _) hm); obtain ⟨v6, h6⟩ := HT5.out.right hm; rw [singles_add] at h6; have HT6 := Lib.hid h6; clear h6 hm)))
      go_roundg (n - (i + 1))
      case measure => have := HI.out; omega
      case rel => exact ⟨i + 1, v5, v6, by omega, by go_num, HT6.out, HD6.out⟩
    · obtain rfl : i = n := by have := HI.out; omega
      go_wp2_with fail
      go_loopg [11] l.length (OrdB i k1 k2 l w)
      case atStart => exact ⟨0, v1, v2, singles i, by omega, rfl, HT.out, first_zero i l, HB.out⟩
      case round =>
        obtain ⟨j, x1, x2, S, hj, rfl, ht, hf, hb⟩ := hrel
        obtain ⟨Wr, rfl⟩ : ∃ W, W = wr := ⟨_, rfl⟩
        have HT := Lib.hid ht
        have HF := Lib.hid hf
        have HB := Lib.hid hb
        have HJ := Lib.hid hj
        clear ht hf hb
        by_cases hjl : j < l.length
        · obtain ⟨o, ho⟩ : ∃ o, l[j]? = some o := ⟨_, List.getElem?_eq_getElem hjl⟩
          obtain ⟨p, rfl⟩ : ∃ p, A = some p := by
            obtain ⟨A', c', e, _, _, h4⟩ := HOP.out
            obtain ⟨_, p, h6, _⟩ := h4 j o ho
            cases e
            exact ⟨p, h6⟩
          obtain ⟨hok, z0, z1, z2⟩ := (HOP.out.under HB.out).cells ho
          have HO := Lib.hid hok.2.2.2
          have HL := Lib.hid ho
          have hSn : S.n < 4194303 := by rw [HF.out.num]; omega
          clear hj ho hok
          by_cases hk0 : kindQ o.kd = 0
          · have HK := Lib.hid hk0
            have hk1 : (kindQ o.kd != 0) = false := by simpa using hk0
            clear hk0
            go_wp2_with (go_at_call 10; ((with_reducible refine (kind_any _ _ _ _).mono ?_); rintro e w5 ⟨he, hb5⟩; subst he; have HB5 := Lib.hid hb5; clear hb5))
            go_roundg (l.length - (j + 1))
            case measure => have := HJ.out; omega
            case rel => exact ⟨j + 1, x1, x2, S, by omega, by go_num, HT.out.under HB5.out, first_skip HF.out HL.out HK.out, HB.out.trans (HB5.out.mono HB.out.size)⟩
          · have HK := Lib.hid hk0
            have hk1 : (kindQ o.kd != 0) = true := by simpa using hk0
            clear hk0
            cases hq : opOk S o
            · have HQ := Lib.hid hq
              clear hq
              go_wp2_with (first
                | (go_at_call 10; ((with_reducible refine (kind_any _ _ _ _).mono ?_); rintro e w5 ⟨he, hb5⟩; subst he; have HB5 := Lib.hid hb5; obtain ⟨_, y0, y1, y2⟩ := (HOP.out.under (HB.out.trans (HB5.out.mono HB.out.size))).cells HL.out; clear hb5))
                | (go_at_call 24; ((with_reducible refine (does_any (HT.out.one.under HB5.out) hSn (Nat.le_trans HB.out.size HB5.out.size) o HO.out).mono ?_); rintro e w7 ⟨he, hm⟩; rw [HQ.out] at he; subst he; have HD := Lib.hid ((HT.out.one.under HB5.out).down (HB.out.trans (HB5.out.mono HB.out.size)) (Nat.le_refl _) hm); clear hm)))
              go_ret
              exact ⟨rfl, HD.out⟩
            · have HQ := Lib.hid hq
              clear hq
              go_wp2_with (first
                | (go_at_call 10; ((with_reducible refine (kind_any _ _ _ _).mono ?_); rintro e w5 ⟨he, hb5⟩; subst he; have HB5 := Lib.hid hb5; obtain ⟨_, y0, y1, y2⟩ := (HOP.out.under (HB.out.trans (HB5.out.mono HB.out.size))).cells HL.out; clear hb5))
                | (go_at_call 24; ((with_reducible refine (does_any (HT.out.one.under HB5.out) hSn (Nat.le_trans HB.out.size HB5.out.size) o HO.out).mono ?_); rintro e w7 ⟨he, hm⟩; rw [HQ.out] at he; subst he; have HD := Lib.hid ((HT.out.one.under HB5.out).down (HB.out.trans (HB5.out.mono HB.out.size)) (Nat.le_refl _) hm); obtain ⟨v7, h7⟩ := (HT.out.under HB5.out).left hm; have HT7 := Lib.hid h7; clear h7 hm)))
              go_roundg (l.length - (j + 1))
              case measure => have := HJ.out; omega
              case rel => exact ⟨j + 1, v7, x2, _, by omega, by go_num, HT7.out, first_step HF.out HL.out HK.out HQ.out HO.out, HD.out⟩
        · obtain rfl : j = l.length := by omega
          go_wp2_with fail
          have hlen : (l.length : Int) ≤ 9223372036854775807 := by omega
          go_loopg [12] l.length (OrdC S k1 k2 l w)
          case atStart => exact ⟨x1, x2, singles i, _, Nat.le_refl _, rfl, rfl, HT.out, second_end i l HF.out.num, HB.out⟩
          case round =>
            obtain ⟨y1, y2, Y, z, hgl, rfl, hz, ht, hs, hb⟩ := hrel
            obtain ⟨Wy, rfl⟩ : ∃ W, W = wr := ⟨_, rfl⟩
            have HT3 := Lib.hid ht
            have HS3 := Lib.hid hs
            have HB3' := Lib.hid hb
            have HG := Lib.hid hgl
            clear ht hs hb
            rcases gk with _ | j
            · obtain rfl : z = -1 := by omega
              clear hz
              go_wp2_with fail
              have HSM := Lib.hid (both_same HF.out HS3.out)
              have hSn := HF.out.num
              have HSN := Lib.hid hSn
              have hYn : Y.n = i := by rw [HS3.out.bound.n, hSn]
              have HYN := Lib.hid hYn
              clear hSn hYn
              go_loopg [14] i (fun g u W => ∃ b : Nat, b + g = i ∧ u = .int .i64 b ∧ W = Wy)
              case atStart => exact ⟨0, by omega, rfl, rfl⟩
              case round =>
                obtain ⟨b, hb, rfl, rfl⟩ := hrel
                have HBB := Lib.hid hb
                clear hb
                by_cases hbl : b < i
                · have hbS : b < S.n := by rw [HSN.out]; exact hbl
                  have hbY : b < Y.n := by rw [HYN.out]; exact hbl
                  have M1 := Lib.hid (ofS_of hbS)
                  have M2 := Lib.hid (show ofS Y (b : Int) = S.m b by rw [ofS_of hbY, (HSM.out b hbS).2])
                  have C1 := Lib.hid (leastS_of hbS)
                  have C2 := Lib.hid (show leastS Y (b : Int) = S.c b by rw [leastS_of hbY, (HSM.out b hbS).1])
                  obtain ⟨q, hq⟩ : ∃ q, alikeS S (b : Int) a = q := ⟨_, rfl⟩
                  have A1 := Lib.hid hq
                  have A2 := Lib.hid (show alikeS Y (b : Int) a = q by
                    rw [← hq]
                    exact alike_same HS3.out HSM.out hbS a)
                  clear hq hbS hbY
                  cases q
                  all_goals
                    go_wp2_with (first
                      | (go_at_call 17; ((with_reducible refine (of_is HT3.out.one _).mono ?_); rintro e w6 ⟨he, rfl⟩; rw [M1.out] at he; subst he))
                      | (go_at_call 17; ((with_reducible refine (of_is HT3.out.two _).mono ?_); rintro e w6 ⟨he, rfl⟩; rw [M2.out] at he; subst he))
                      | (go_at_call 19; ((with_reducible refine (least_is HT3.out.one _).mono ?_); rintro e w6 ⟨he, rfl⟩; rw [C1.out] at he; subst he))
                      | (go_at_call 19; ((with_reducible refine (least_is HT3.out.two _).mono ?_); rintro e w6 ⟨he, rfl⟩; rw [C2.out] at he; subst he))
                      | (go_at_call 21; ((with_reducible refine (alike_is HT3.out.one _ _).mono ?_); rintro e w6 ⟨he, rfl⟩; rw [A1.out] at he; subst he))
                      | (go_at_call 21; ((with_reducible refine (alike_is HT3.out.two _ _).mono ?_); rintro e w6 ⟨he, rfl⟩; rw [A2.out] at he; subst he)))
                    go_roundg (i - (b + 1))
                    case measure => have := HBB.out; omega
                    case rel => exact ⟨b + 1, by omega, by go_num, rfl⟩
                · go_wp2_with fail
                  go_ret
                  exact ⟨rfl, HB3'.out⟩
            · obtain rfl : z = (j : Int) := by omega
              clear hz
              have hjl : j < l.length := by omega
              obtain ⟨o, ho⟩ : ∃ o, l[j]? = some o := ⟨_, List.getElem?_eq_getElem hjl⟩
              obtain ⟨p, rfl⟩ : ∃ p, A = some p := by
                obtain ⟨A', c', e, _, _, h4⟩ := HOP.out
                obtain ⟨_, p, h6, _⟩ := h4 j o ho
                cases e
                exact ⟨p, h6⟩
              obtain ⟨hok, z0, z1, z2⟩ := (HOP.out.under HB3'.out).cells ho
              have HO := Lib.hid hok
              have HL := Lib.hid ho
              have hYn : Y.n < 4194303 := by rw [HS3.out.bound.n, HF.out.num]; omega
              have hr := kind_range o.kd
              have hal : Below Wy.heap.size Wy (Wy.alloc (.cells #[.int .i64 o.kd, .int .i64 o.a, .int .i64 o.b] 31)) := (Below.refl _ _).alloc (Nat.le_refl _) _
              have HAL := Lib.hid hal
              have HBX := Lib.hid (heap_alloc_new Wy (.cells #[.int .i64 o.kd, .int .i64 o.a, .int .i64 o.b] 31))
              clear ho hok hal
              by_cases hk2 : kindQ o.kd = 2
              · have HK := Lib.hid hk2
                clear hr hk2
                have TK := Lib.hid True.intro
                go_wp2_with (first
                  | (have _ := TK.out; go_at_call 10; ((with_reducible refine (kind_any _ _ _ _).mono ?_); rintro e w5 ⟨he, hb5⟩; rw [HK.out] at he; subst he; have HB5 := Lib.hid (HAL.out.trans (hb5.mono HAL.out.size)); have HX5 := Lib.hid ((hb5.block _ (by simp)).trans HBX.out); obtain ⟨b0, b1, b2⟩ := row3 HX5.out; have f1 := Joins.unfrozen_of_block HX5.out 1; have f2 := Joins.unfrozen_of_block HX5.out 2; clear hb5 TK)))
                generalize hW : World.setCell _ _ _ = W6
                have hx6 : W6.heap[Wy.heap.size]? = some (.cells #[.int .i64 o.kd, .int .i64 o.b, .int .i64 o.a] 31 (0, 0)) := by
                  rw [← hW, Joins.block_setCell (Joins.block_setCell HX5.out _) _]
                  rfl
                have hb6 : Below Wy.heap.size Wy W6 := by
                  rw [← hW]
                  exact (HB5.out.setCell (Nat.le_refl _) _).setCell (Nat.le_refl _) _
                obtain ⟨b0, b1, b2⟩ := row3 hx6
                have HX6 := Lib.hid hx6
                have HB6 := Lib.hid hb6
                have HSW := Lib.hid (show swapQ o = ⟨o.kd, o.b, o.a⟩ by simp [swapQ, HK.out])
                have hk0 : kindQ o.kd ≠ 0 := by rw [HK.out]; decide
                have HK0 := Lib.hid hk0
                have hsq := second_ok HF.out HS3.out HL.out hk0
                rw [HSW.out] at hsq
                have HSQ := Lib.hid hsq.1
                have hob : o.a < 9223372036854775808 := HO.out.2.1.2
                have HOA := Lib.hid hob
                clear hW hx6 hb6 hk0 hsq f1 f2 hob
                go_wp2_with (first
                  | (go_at_call 10; ((with_reducible refine (kind_any _ _ _ _).mono ?_); rintro e w7 ⟨he, hb7⟩; rw [HK.out] at he; subst he; obtain ⟨c0', c1', c2'⟩ := row3 ((hb7.block _ (kin HX6.out)).trans HX6.out); have HB7 := Lib.hid (HB6.out.trans (hb7.mono HB6.out.size)); clear hb7))
                  | (go_at_call 24; ((with_reducible refine (does_any (HT3.out.two.under HB7.out) hYn (Nat.le_trans HB3'.out.size HB7.out.size) ⟨o.kd, o.b, o.a⟩ HOA.out).mono ?_); rintro e w8 ⟨he, hm⟩; rw [HSQ.out] at he; subst he; have HD := Lib.hid ((HT3.out.two.under HB7.out).down (HB3'.out.trans (HB7.out.mono HB3'.out.size)) (Nat.le_refl _) hm); obtain ⟨v8, h8⟩ := (HT3.out.under HB7.out).right hm; have HT8 := Lib.hid h8; clear h8 hm)))
                go_roundg j
                case measure => omega
                case rel => exact ⟨y1, v8, _, _, by omega, rfl, rfl, HT8.out, by have := second_step HF.out HS3.out HL.out HK0.out (by rw [HSW.out]; exact HOA.out); rw [HSW.out] at this; exact this, HD.out⟩
              · have hk2b : (kindQ o.kd == 2) = false := by simpa using hk2
                have HSW := Lib.hid (show swapQ o = o by simp [swapQ, hk2])
                have TK := Lib.hid True.intro
                by_cases hk0 : kindQ o.kd = 0
                · have HK := Lib.hid hk0
                  clear hr hk2 hk2b hk0
                  go_wp2_with (first
                    | (have _ := TK.out; go_at_call 10; ((with_reducible refine (kind_any _ _ _ _).mono ?_); rintro e w5 ⟨he, hb5⟩; rw [HK.out] at he; subst he; have HB5 := Lib.hid (HAL.out.trans (hb5.mono HAL.out.size)); have HX5 := Lib.hid ((hb5.block _ (by simp)).trans HBX.out); obtain ⟨b0, b1, b2⟩ := row3 HX5.out; clear hb5 TK))
                    | (go_at_call 10; ((with_reducible refine (kind_any _ _ _ _).mono ?_); rintro e w7 ⟨he, hb7⟩; rw [HK.out] at he; subst he; have HB7 := Lib.hid (HB5.out.trans (hb7.mono HB5.out.size)); clear hb7)))
                  go_roundg j
                  case measure => omega
                  case rel => exact ⟨y1, y2, Y, _, by omega, rfl, rfl, HT3.out.under HB7.out, second_skip HS3.out HL.out HK.out, HB3'.out.trans (HB7.out.mono HB3'.out.size)⟩
                · have HK := Lib.hid (show kindQ o.kd = 1 by omega)
                  have HK0 := Lib.hid hk0
                  have hsq := second_ok HF.out HS3.out HL.out hk0
                  rw [HSW.out] at hsq
                  have HSQ := Lib.hid hsq.1
                  have hob : o.b < 9223372036854775808 := HO.out.2.2.2
                  have HOB := Lib.hid hob
                  clear hr hk2 hk2b hk0 hsq hob
                  go_wp2_with (first
                    | (have _ := TK.out; go_at_call 10; ((with_reducible refine (kind_any _ _ _ _).mono ?_); rintro e w5 ⟨he, hb5⟩; rw [HK.out] at he; subst he; have HB5 := Lib.hid (HAL.out.trans (hb5.mono HAL.out.size)); have HX5 := Lib.hid ((hb5.block _ (by simp)).trans HBX.out); obtain ⟨b0, b1, b2⟩ := row3 HX5.out; clear hb5 TK))
                    | (go_at_call 10; ((with_reducible refine (kind_any _ _ _ _).mono ?_); rintro e w7 ⟨he, hb7⟩; rw [HK.out] at he; subst he; obtain ⟨c0', c1', c2'⟩ := row3 ((hb7.block _ (kin HX5.out)).trans HX5.out); have HB7 := Lib.hid (HB5.out.trans (hb7.mono HB5.out.size)); clear hb7))
                    | (go_at_call 24; ((with_reducible refine (does_any (HT3.out.two.under HB7.out) hYn (Nat.le_trans HB3'.out.size HB7.out.size) o HOB.out).mono ?_); rintro e w8 ⟨he, hm⟩; rw [HSQ.out] at he; subst he; have HD := Lib.hid ((HT3.out.two.under HB7.out).down (HB3'.out.trans (HB7.out.mono HB3'.out.size)) (Nat.le_refl _) hm); obtain ⟨v8, h8⟩ := (HT3.out.under HB7.out).right hm; have HT8 := Lib.hid h8; clear h8 hm)))
                  go_roundg j
                  case measure => omega
                  case rel => exact ⟨y1, v8, _, _, by omega, rfl, rfl, HT8.out, by have := second_step HF.out HS3.out HL.out HK0.out (by rw [HSW.out]; exact HO.out.2.2.2); rw [HSW.out] at this; exact this, HD.out⟩
end Go.Proofs.Ytiehfjkiedgkhaa
