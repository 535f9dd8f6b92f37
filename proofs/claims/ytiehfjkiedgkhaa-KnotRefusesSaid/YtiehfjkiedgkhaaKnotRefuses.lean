/-
  KnotRefuses: the walk.
-/
import Derived.Test.YtiehfjkiedgkhaaKnotPair
namespace Go.Proofs.Ytiehfjkiedgkhaa
open Go.RowKit

theorem opS_no {S : KS} {o : QOp} (h : opOk S o = false) : opS S o = S := by
  unfold opOk at h
  unfold opS
  split at h
  · cases h
  · rename_i h0
    rw [if_neg h0]
    split at h
    · rename_i h1
      rw [if_pos h1, markS, if_neg (by rw [h]; decide)]
    · rename_i h1
      rw [if_neg h1, tieS, if_neg (by rw [h]; decide)]
theorem opS_le (S : KS) (o : QOp) : (opS S o).n ≤ S.n + 1 := by
  by_cases h : kindQ o.kd = 0
  · rw [opS_add h]
    exact Nat.le_refl _
  · rw [opS_n h]
    omega
def pairV (S : KS) (i : Nat) : Nat → Value
  | 0 => .int .i64 (S.m i)
  | _ => .int .i64 (S.c i)
theorem one_two (a b : Int) : ∀ u ∈ [Value.int .i64 a, .int .i64 b], u.oneCell' = true := by
  intro u hu
  simp only [List.mem_cons, List.not_mem_nil, or_false] at hu
  rcases hu with rfl | rfl <;> rfl
theorem pair_enc (S : KS) (i : Nat) (j : Nat) (u : Value) (h : [Value.int .i64 (S.m i), .int .i64 (S.c i : Int)][j]? = some u) : pairV S i j = u := by
  match j, h with
  | 0, h => simpa [pairV] using h
  | 1, h => simpa [pairV] using h
  | j + 2, h => simp at h
theorem of_same {B k : Nat} {w : World} {v : Value} {S : KS} (h : KnotIs B w k v S) {a : Nat} (ha : a < S.n) (q : Nat) : Calls Try.prog 17 #[.pointer (some ⟨k, 0, none⟩), .int .i64 a] (w.drewN q) fun e w' => e = .returned (.int .i64 (S.m a)) ∧ w' = w.drewN q :=
  (of_is (h.under (w' := w.drewN q) ⟨rfl, rfl, rfl, Nat.le_refl _, fun _ _ => rfl⟩) a).mono fun _ _ ⟨h1, h2⟩ => ⟨by rw [h1, ofS_of ha], h2.symm⟩
theorem least_same {B k : Nat} {w : World} {v : Value} {S : KS} (h : KnotIs B w k v S) {a : Nat} (ha : a < S.n) (q : Nat) : Calls Try.prog 19 #[.pointer (some ⟨k, 0, none⟩), .int .i64 a] (w.drewN q) fun e w' => e = .returned (.int .i64 (S.c a)) ∧ w' = w.drewN q :=
  (least_is (h.under (w' := w.drewN q) ⟨rfl, rfl, rfl, Nat.le_refl _, fun _ _ => rfl⟩) a).mono fun _ _ ⟨h1, h2⟩ => ⟨by rw [h1, leastS_of ha], h2.symm⟩
theorem RowF.shape {B : Nat} {T : TypeId} {s n : Nat} {w : World} {v : Value} {F : Nat → Nat → Value} (h : RowF B T s w v n F) : ∃ A c, v = .slice A n c ∧ n ≤ c ∧ c ≤ maxLen := by
  rcases h with ⟨rfl, rfl⟩ | ⟨g, c, cur, rfl, _, _, h1, h2, _⟩
  · exact ⟨none, 0, rfl, by omega, by unfold maxLen; omega⟩
  · exact ⟨_, c, rfl, h1, h2⟩
theorem Grew.below {B : Nat} {T : TypeId} {s n : Nat} {W w' : World} {v v' : Value} {F F' : Nat → Nat → Value} (h : Grew B T s W v n F v' w') (h0 : RowF B T s W v n F') (hB : B ≤ W.heap.size) : Below B W w' :=
  (KeptP.of_grown (M := fun b => v.ownBlock = some b) h.2.1 fun _ hk => hk).below hB fun _ hk => (h0.lt hk).1
def RefR (l : List QOp) (k : Nat) (w : World) (g : Nat) (u : Value) (wr : World) : Prop :=
  ∃ (i : Nat) (v : Value) (S : KS), i + g = l.length ∧ u = .int .i64 i ∧ KnotIs w.heap.size wr k v S ∧ S.n ≤ i ∧ i ≤ 200 ∧ Below w.heap.size w wr
def WasR (S : KS) (wr : World) (g : Nat) (u x : Value) (W : World) : Prop :=
  ∃ a : Nat, a + g = S.n ∧ x = .int .i64 a ∧ RowF wr.heap.size 40 2 W u a (pairV S) ∧ Below wr.heap.size wr W
set_option maxRecDepth 100000 in
set_option maxHeartbeats 1000000 in
theorem refuses_law (v0 : Value) (l : List QOp) (w : World) (hops : OpsAt w v0 l) : Calls Try.prog 6 #[v0] w (Lived w) := by
  have HOP := Lib.hid hops
  obtain ⟨A, c0, hv0, hl1, hl2, _⟩ := hops
  subst hv0
  unfold maxLen at hl2
  go_enter Try.func6, Try.ntmps6
  go_wp2_with (first
    | (go_at_call 8; ((with_reducible refine (lives_any _).mono ?_); rintro e w1 ⟨rfl, hb⟩; have HB1 := Lib.hid hb; clear hb))
    | (go_at_call 9; ((with_reducible refine (new_any (B := w.heap.size) HB1.out.size).mono ?_); rintro e w2 ⟨rfl, h2, b2⟩; have H2 := Lib.hid h2; have HB2 := Lib.hid (HB1.out.trans (b2.mono HB1.out.size)); clear h2 b2)))
  generalize hk : w1.heap.size = k
  rw [hk] at H2
  clear hk
  go_loopg [4] l.length (RefR l k w)
  case atStart => exact ⟨0, _, noneS, by omega, rfl, H2.out, by simp [noneS], by omega, HB2.out⟩
  case round =>
    obtain ⟨i, v, S, hi, rfl, hS, hn, hi2, hb⟩ := hrel
    have HS := Lib.hid hS
    have HB := Lib.hid hb
    have HI := Lib.hid hi
    have HN := Lib.hid hn
    have HI2 := Lib.hid hi2
    clear hS hb hi hn
    by_cases hil : i < l.length ∧ i < 200
    · obtain ⟨hil, hi200⟩ := hil
      have hlt : decide ((i : Int) < 200) = true := by simp; omega
      obtain ⟨o, ho⟩ : ∃ o, l[i]? = some o := ⟨_, List.getElem?_eq_getElem hil⟩
      obtain ⟨a, rfl⟩ : ∃ a, A = some a := by
        obtain ⟨A', c', e, _, _, h4⟩ := HOP.out
        obtain ⟨_, a, h6, _⟩ := h4 i o ho
        cases e
        exact ⟨a, h6⟩
      have hok := ((HOP.out.under HB.out).cells ho).1
      have HO := Lib.hid hok.2.2.2
      have HL := Lib.hid ho
      clear ho hok
      go_wp2_with (go_at_call 23; ((with_reducible refine (len_is HS.out).mono ?_); rintro e w6 ⟨he, rfl⟩; subst he))
      go_loopg [6, 7] S.n (WasR S wr)
      case atStart => exact ⟨0, by omega, rfl, RowF.nil, Below.refl _ _⟩
      case round =>
        obtain ⟨b, hb, rfl, hrow, hbw⟩ := hrel
        have HBS := Lib.hid hb
        have HR := Lib.hid hrow
        have HW := Lib.hid hbw
        obtain ⟨Wr, rfl⟩ : ∃ W, W = wr := ⟨_, rfl⟩
        clear hb hrow hbw
        by_cases hbl : b < S.n
        · obtain ⟨A6, c6, rfl, _, _⟩ := HR.out.shape
          have HKW := Lib.hid (HS.out.under HW.out)
          have HM := Lib.hid (ofS_of hbl)
          have HC := Lib.hid (leastS_of hbl)
          have hb1 : b ≤ 4194303 := by have := HN.out; omega
          have hsz := HW.out.size
          have hal : Below Wr.heap.size Wr (Wr.alloc (.cells #[.int .i64 (S.m b), .int .i64 (S.c b)] 40)) := (Below.refl _ _).alloc (Nat.le_refl _) _
          have HAL := Lib.hid hal
          clear hal
          go_wp2_with (first
            | (go_at_call 17; ((with_reducible refine (of_is HKW.out _).mono ?_); rintro e w6 ⟨he, rfl⟩; rw [HM.out] at he; subst he))
            | (go_at_call 19; ((with_reducible refine (least_is HKW.out _).mono ?_); rintro e w6 ⟨he, rfl⟩; rw [HC.out] at he; subst he))
            | (at_builtin; refine append_row (B := wr.heap.size) (v := .slice A6 b c6) (T := 40) (s := 2) (n := b) (F := pairV S) (L := [.int .i64 (S.m b), .int .i64 (S.c b)]) rfl _ _ rfl Try.underlying39 pair_info rfl (by decide) (by decide) rfl rfl (heap_alloc_new _ _) rfl (one_two _ _) (HR.out.under HAL.out) (pair_enc S b) hb1 ?_ ?_; (first | omega | (simp; omega)); (intro v5 w5 h5; obtain ⟨A5, c5, rfl⟩ := h5.shape; have H5 := Lib.hid h5; clear h5)))
          go_roundg (S.n - (b + 1))
          case measure => have := HBS.out; omega
          case rel => exact ⟨b + 1, by omega, by go_num, H5.out.1, HW.out.trans ((HAL.out.mono hsz).trans (H5.out.below (HR.out.under HAL.out) (Nat.le_trans hsz HAL.out.size)))⟩
        · obtain rfl : b = S.n := by have := HBS.out; omega
          have HKW := Lib.hid (HS.out.under HW.out)
          have hWB := HB.out.trans (HW.out.mono HB.out.size)
          obtain ⟨_, y0, y1, y2⟩ := (HOP.out.under hWB).cells HL.out
          have HWB := Lib.hid hWB
          clear hWB
          have hn1 : S.n < 4194303 := by have := HN.out; omega
          have HN1 := Lib.hid hn1
          cases hq : opOk S o
          · have HQ := Lib.hid hq
            clear hq
            go_wp2_with (go_at_call 24; ((with_reducible refine (does_any HKW.out HN1.out HWB.out.size o HO.out).mono ?_); rintro e w7 ⟨he, hm⟩; rw [HQ.out] at he; subst he; rw [opS_no HQ.out] at hm; have HM := Lib.hid hm; clear hm))
            obtain ⟨v7, h7, b7⟩ := Moved.go HKW.out HWB.out (Nat.le_refl _) HM.out
            have hrow : RowF wr.heap.size 40 2 w7 u6 S.n (pairV S) := by
              obtain ⟨_, _, k7, _⟩ := HM.out
              exact HR.out.kept k7 fun g hg hf => by
                have := (HR.out.lt hg).1
                have := (HS.out.lt hf).2
                omega
            obtain ⟨A6, c6, rfl, hc6, hm6⟩ := hrow.shape
            unfold maxLen at hm6
            have H7 := Lib.hid h7
            have B7 := Lib.hid b7
            have R7 := Lib.hid hrow
            clear h7 b7 hrow hbl y0 y1 y2
            go_loopg [8] S.n (fun g u W => ∃ a q : Nat, a + g = S.n ∧ u = .int .i64 a ∧ W = w7.drewN q)
            case atStart => exact ⟨0, 0, by omega, rfl, rfl⟩
            case round =>
              obtain ⟨b, q, hb, rfl, rfl⟩ := hrel
              have HBS := Lib.hid hb
              clear hb
              by_cases hbl : b < S.n
              · obtain ⟨g, rfl⟩ : ∃ g, A6 = some ⟨g, 0, none⟩ := by
                  rcases R7.out with ⟨e, _⟩ | ⟨g, _, _, e, _⟩
                  · injection e with e1 e2 e3; omega
                  · cases e; exact ⟨g, rfl⟩
                generalize hW : w7.drewN q = W3
                have h3 : KnotIs w.heap.size W3 k v7 S := by rw [← hW]; exact H7.out.under ⟨rfl, rfl, rfl, Nat.le_refl _, fun _ _ => rfl⟩
                have r3 : RowF wr.heap.size 40 2 W3 (.slice (some ⟨g, 0, none⟩) S.n c6) S.n (pairV S) := by rw [← hW]; exact R7.out.drewN q
                have x0 : W3.cell? ⟨g, b * 2, none⟩ = some (.int .i64 (S.m b)) := r3.cell hbl (show 0 < 2 by omega)
                have x1 : W3.cell? ⟨g, b * 2 + 1, none⟩ = some (.int .i64 (S.c b)) := r3.cell hbl (show 1 < 2 by omega)
                have HOF := Lib.hid (of_same h3 hbl)
                have HLE := Lib.hid (least_same h3 hbl)
                have hneq := neq_pair (S.m b) (S.c b)
                have HWE := Lib.hid hW
                clear hW h3 r3
                go_wp2_with fail
                go_quiet (first | (go_at_call 17; exact Calls.quiet_of_same (HOF.out _)) | (go_at_call 19; exact Calls.quiet_of_same (HLE.out _)))
                go_wp2_with fail
                go_roundg (S.n - (b + 1))
                case measure => have := HBS.out; omega
                case rel => exact ⟨b + 1, _, by omega, by go_num, by rw [← HWE.out, World.drewN_drewN]⟩
              · go_wp2_with fail
                go_roundg (l.length - (i + 1))
                case measure => have := HI.out; omega
                case rel => exact ⟨i + 1, v7, S, by omega, by go_num, H7.out.under ⟨rfl, rfl, rfl, Nat.le_refl _, fun _ _ => rfl⟩, by have := HN.out; omega, by omega, B7.out.trans ⟨rfl, rfl, rfl, Nat.le_refl _, fun _ _ => rfl⟩⟩
          · have HQ := Lib.hid hq
            clear hq
            go_wp2_with (go_at_call 24; ((with_reducible refine (does_any HKW.out HN1.out HWB.out.size o HO.out).mono ?_); rintro e w7 ⟨he, hm⟩; rw [HQ.out] at he; subst he; obtain ⟨v7, h7, b7⟩ := Moved.go HKW.out HWB.out (Nat.le_refl _) hm; have H7 := Lib.hid h7; have B7 := Lib.hid b7; clear h7 b7 hm))
            go_roundg (l.length - (i + 1))
            case measure => have := HI.out; omega
            case rel => exact ⟨i + 1, v7, _, by omega, by go_num, H7.out, by have := opS_le S o; have := HN.out; omega, by omega, B7.out⟩
    · by_cases hil2 : i < l.length
      · have hlt : decide ((i : Int) < 200) = false := by simp; omega
        go_wp2_with fail
        go_ret
        exact ⟨rfl, HB.out⟩
      · go_wp2_with fail
        go_ret
        exact ⟨rfl, HB.out⟩
end Go.Proofs.Ytiehfjkiedgkhaa
