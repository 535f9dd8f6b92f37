/-
  KnotPlays: the walk.
-/
import Derived.Test.YtiehfjkiedgkhaaKnotAlike
import Derived.Test.YtiehfjkiedgkhaaKnotRef3
import Derived.Test.YtiehfjkiedgkhaaHeld
namespace Go.Proofs.Ytiehfjkiedgkhaa
open Go.RowKit

/-- a knot and the reference's beside each other -/
structure Duo (B : Nat) (w : World) (k m : Nat) (v v1 v2 : Value) (S T : KS) : Prop where
  one : KnotIs B w k v S
  two : RefAt B w m v1 v2 T
  apart : ∀ b, Foot k v b → ¬ FootR m v1 v2 b
section
variable {B k m : Nat} {w w' : World} {v v1 v2 : Value} {S S' T T' : KS}
theorem Duo.under (h : Duo B w k m v v1 v2 S T) (hb : Below w.heap.size w w') : Duo B w' k m v v1 v2 S T := ⟨h.one.under hb, h.two.under hb, h.apart⟩
theorem Duo.left (h : Duo B w k m v v1 v2 S T) (g : Moved B k v S' w w') : ∃ v', Duo B w' k m v' v1 v2 S' T := by
  obtain ⟨v', h1, h2, h3⟩ := g
  refine ⟨v', h1, h.two.kept h2 fun b hb hf => h.apart b hf hb, fun b hb hf => ?_⟩
  rcases h3 b hb with g | g
  · exact h.apart b g hf
  · have := (h.two.lt hf).2
    omega
theorem Duo.right (h : Duo B w k m v v1 v2 S T) (g : MovedR B m v1 v2 T' w w') : ∃ v1' v2', Duo B w' k m v v1' v2' S T' := by
  obtain ⟨v1', v2', h1, h2, h3⟩ := g
  refine ⟨v1', v2', h.one.kept h2 h.apart, h1, fun b hf hb => ?_⟩
  rcases h3 b hb with g | g
  · exact h.apart b hf g
  · have := (h.one.lt hf).2
    omega
theorem KnotIs.downK (h : KnotIs B w k v S) {w0 : World} (hb : Below B w0 w) (hB : B ≤ w0.heap.size) (m : Moved B k v S' w w') : Below B w0 w' := by
  obtain ⟨_, _, h2, _⟩ := m
  exact hb.trans (h2.below (Nat.le_trans hB hb.size) fun b hb' => (h.lt hb').1)
theorem RefAt.down (h : RefAt B w m v1 v2 T) {w0 : World} (hb : Below B w0 w) (hB : B ≤ w0.heap.size) (g : MovedR B m v1 v2 T' w w') : Below B w0 w' := by
  obtain ⟨_, _, _, h2, _⟩ := g
  exact hb.trans (h2.below (Nat.le_trans hB hb.size) fun b hb' => (h.lt hb').1)
theorem Moved.box {N n0 : Nat} {o : Obj} (g : Moved B k v S' w w') (hf : ∀ b, Foot k v b → b < n0) (hN : n0 ≤ N) (hb : w.heap[N]? = some o) : w'.heap[N]? = some o := by
  obtain ⟨_, _, h2, _⟩ := g
  exact h2.heap hb fun h => by have := hf N h; omega
theorem MovedR.box {N n0 : Nat} {o : Obj} (g : MovedR B m v1 v2 T' w w') (hf : ∀ b, FootR m v1 v2 b → b < n0) (hN : n0 ≤ N) (hb : w.heap[N]? = some o) : w'.heap[N]? = some o := by
  obtain ⟨_, _, _, h2, _⟩ := g
  exact h2.heap hb fun h => by have := hf N h; omega
theorem ref_none {w0 : World} (hb : w.heap[m]? = some (.cells #[.slice none 0 0, .slice none 0 0] 29 (0, 0))) (hB : w0.heap.size ≤ m) : RefAt w0.heap.size w m (.slice none 0 0) (.slice none 0 0) noneS :=
  ⟨ok_none, RowF.nil, RowF.nil, hb, hB, by simp [noneS], fun g h => by simp [Value.ownBlock] at h⟩
end
theorem dq (w : World) (q : Nat) : Below w.heap.size w (w.drewN q) := ⟨rfl, rfl, rfl, Nat.le_refl _, fun _ _ => rfl⟩
section
variable {B k : Nat} {w : World} {v v1 v2 : Value} {S : KS}
theorem of_kq (h : KnotIs B w k v S) {a x : Int} (hx : ofS S a = x) (q : Nat) : Calls Try.prog 17 #[.pointer (some ⟨k, 0, none⟩), .int .i64 a] (w.drewN q) fun e w' => e = .returned (.int .i64 x) ∧ w' = w.drewN q :=
  (of_is (h.under (dq w q)) a).mono fun _ _ ⟨h1, h2⟩ => ⟨by rw [h1, hx], h2.symm⟩
theorem least_kq (h : KnotIs B w k v S) {a x : Int} (hx : leastS S a = x) (q : Nat) : Calls Try.prog 19 #[.pointer (some ⟨k, 0, none⟩), .int .i64 a] (w.drewN q) fun e w' => e = .returned (.int .i64 x) ∧ w' = w.drewN q :=
  (least_is (h.under (dq w q)) a).mono fun _ _ ⟨h1, h2⟩ => ⟨by rw [h1, hx], h2.symm⟩
theorem alike_kq (h : KnotIs B w k v S) {a b : Int} {x : Bool} (hx : alikeS S a b = x) (q : Nat) : Calls Try.prog 21 #[.pointer (some ⟨k, 0, none⟩), .int .i64 a, .int .i64 b] (w.drewN q) fun e w' => e = .returned (.bool x) ∧ w' = w.drewN q :=
  (alike_is (h.under (dq w q)) a b).mono fun _ _ ⟨h1, h2⟩ => ⟨by rw [h1, hx], h2.symm⟩
theorem of_rq (h : RefAt B w k v1 v2 S) {a x : Int} (hx : ofS S a = x) (q : Nat) : Calls Try.prog 18 #[.pointer (some ⟨k, 0, none⟩), .int .i64 a] (w.drewN q) fun e w' => e = .returned (.int .i64 x) ∧ w' = w.drewN q :=
  (of_ref (h.under (dq w q)) a).mono fun _ _ ⟨h1, h2⟩ => ⟨by rw [h1, hx], h2.symm⟩
theorem least_rq (h : RefAt B w k v1 v2 S) {a x : Int} (hx : leastS S a = x) (q : Nat) : Calls Try.prog 20 #[.pointer (some ⟨k, 0, none⟩), .int .i64 a] (w.drewN q) fun e w' => e = .returned (.int .i64 x) ∧ w' = w.drewN q :=
  (least_ref (h.under (dq w q)) a).mono fun _ _ ⟨h1, h2⟩ => ⟨by rw [h1, hx], h2.symm⟩
theorem alike_rq (h : RefAt B w k v1 v2 S) {a b : Int} {x : Bool} (hx : alikeS S a b = x) (q : Nat) : Calls Try.prog 22 #[.pointer (some ⟨k, 0, none⟩), .int .i64 a, .int .i64 b] (w.drewN q) fun e w' => e = .returned (.bool x) ∧ ∃ m, w' = (w.drewN q).drewN m :=
  (alike_ref (h.under (dq w q)) a b).mono fun _ _ ⟨h1, h2⟩ => ⟨by rw [h1, hx], h2⟩
theorem len_kq (h : KnotIs B w k v S) (q : Nat) : Calls Try.prog 23 #[.pointer (some ⟨k, 0, none⟩)] (w.drewN q) fun e w' => e = .returned (.int .i64 S.n) ∧ w' = w.drewN q :=
  (len_is (h.under (dq w q))).mono fun _ _ ⟨h1, h2⟩ => ⟨h1, h2.symm⟩
end
def PlaysR (l : List QOp) (k m : Nat) (w : World) (g : Nat) (u : Value) (wr : World) : Prop :=
  ∃ (i : Nat) (v v1 v2 : Value) (S : KS), i + g = l.length ∧ u = .int .i64 i ∧ Duo w.heap.size wr k m v v1 v2 S S ∧ S.n ≤ i ∧ Below w.heap.size w wr
set_option maxRecDepth 100000 in
set_option maxHeartbeats 1000000 in
theorem plays_law (v0 : Value) (l : List QOp) (w : World) (hops : OpsAt w v0 l) (hq : l.length ≤ 1048576) : Calls Try.prog 3 #[v0] w (Lived w) := by
  have HOP := Lib.hid hops
  obtain ⟨A, c0, hv0, hl1, hl2, _⟩ := hops
  subst hv0
  unfold maxLen at hl2
  go_enter Try.func3, Try.ntmps3
  go_wp2_with (first
    | (go_at_call 8; ((with_reducible refine (lives_any _).mono ?_); rintro e w1 ⟨rfl, hb⟩; have HB1 := Lib.hid hb; clear hb))
    | (go_at_call 9; ((with_reducible refine (new_any (B := w.heap.size) HB1.out.size).mono ?_); rintro e w2 ⟨rfl, h2, b2⟩; have H2 := Lib.hid h2; have HB2 := Lib.hid (HB1.out.trans (b2.mono HB1.out.size)); clear h2 b2)))
  have D0 : Duo w.heap.size (w2.alloc (.cells #[.slice none 0 0, .slice none 0 0] 29)) w1.heap.size w2.heap.size (.slice none 0 0) (.slice none 0 0) (.slice none 0 0) noneS noneS := by
    refine ⟨H2.out.under ((Below.refl _ _).alloc (Nat.le_refl _) _), ref_none (heap_alloc_new _ _) HB2.out.size, fun b hb hf => ?_⟩
    have h1 : b = w1.heap.size := hb.elim id fun e => by simp [Value.ownBlock] at e
    have h2 : b = w2.heap.size := hf.elim id fun e => e.elim (fun e => by simp [Value.ownBlock] at e) fun e => by simp [Value.ownBlock] at e
    have := (H2.out.lt (b := w1.heap.size) (.inl rfl)).2
    omega
  have HB3 := Lib.hid (HB2.out.alloc HB2.out.size (.cells #[.slice none 0 0, .slice none 0 0] 29))
  have HD0 := Lib.hid D0
  clear D0 H2
  generalize hw3 : w2.alloc (.cells #[.slice none 0 0, .slice none 0 0] 29) = w3 at HB3 HD0
  generalize hk : w1.heap.size = k at HD0
  generalize hm : w2.heap.size = m at HD0
  clear hk hm hw3
  go_loopg [5] l.length (PlaysR l k m w)
  case atStart => exact ⟨0, _, _, _, noneS, by omega, rfl, HD0.out, by simp [noneS], HB3.out⟩
  case round =>
    obtain ⟨i, v, v1, v2, S, hi, rfl, hd, hn, hb⟩ := hrel
    have HD := Lib.hid hd
    have HB := Lib.hid hb
    have HI := Lib.hid hi
    have HN := Lib.hid hn
    clear hi hd hn hb
    by_cases hil : i < l.length
    · obtain ⟨o, ho⟩ : ∃ o, l[i]? = some o := ⟨_, List.getElem?_eq_getElem hil⟩
      obtain ⟨p, rfl⟩ : ∃ p, A = some p := by
        obtain ⟨A', c', e, _, _, h4⟩ := HOP.out
        obtain ⟨_, p, h6, _⟩ := h4 i o ho
        cases e
        exact ⟨p, h6⟩
      obtain ⟨hok, z0, z1, z2⟩ := (HOP.out.under HB.out).cells ho
      have HO := Lib.hid hok
      have HL := Lib.hid ho
      have hal : Below wr.heap.size wr (wr.alloc (.cells #[.int .i64 o.kd, .int .i64 o.a, .int .i64 o.b] 31)) := (Below.refl _ _).alloc (Nat.le_refl _) _
      have HAL := Lib.hid hal
      have HBX := Lib.hid (heap_alloc_new wr (.cells #[.int .i64 o.kd, .int .i64 o.a, .int .i64 o.b] 31))
      have hSn : S.n < 4194303 := by have := HN.out; omega
      have HSN := Lib.hid hSn
      have hob : o.b < 9223372036854775808 := hok.2.2.2
      have HOB := Lib.hid hob
      have HF1 := Lib.hid (fun b (hb : Foot k v b) => (HD.out.one.lt hb).2)
      have HF2 := Lib.hid (fun b (hb : FootR m v1 v2 b) => (HD.out.two.lt hb).2)
      have hr := kind_range o.kd
      clear ho hok hal hob
      by_cases hk1 : kindQ o.kd = 1
      · have HK := Lib.hid hk1
        clear hk1 hr
        go_wp2_with (go_at_call 10; ((with_reducible refine (kind_any _ _ _ _).mono ?_); rintro e w5 ⟨he, hb5⟩; rw [HK.out] at he; subst he; have HB5 := Lib.hid (HAL.out.trans (hb5.mono HAL.out.size)); have HX5 := Lib.hid ((hb5.block _ (by simp)).trans HBX.out); obtain ⟨b0, b1, b2⟩ := row3 HX5.out; have HW5 := Lib.hid (HB.out.trans (HB5.out.mono HB.out.size)); have HD5 := Lib.hid (HD.out.under HB5.out); clear hb5))
        refine wp_region_held_drew (S := (fun W => W.cell? ⟨wr.heap.size, 1, none⟩ = some (.int .i64 o.a) ∧ W.cell? ⟨wr.heap.size, 2, none⟩ = some (.int .i64 o.b))) (by kernel_rfl) ?_ (fun hHeld => ?_)
        · (try dsimp only); go_keep
        refine take_now 0 rfl ?_
        try simp only [Act.put, setA, setZ, setS]
        refine take_now 1 rfl ?_
        try simp only [Act.put, setA, setZ, setS]
        refine take_now 2 rfl ?_
        try simp only [Act.put, setA, setZ, setS]
        refine take_now 3 rfl ?_
        try simp only [Act.put, setA, setZ, setS]
        refine take_now 4 rfl ?_
        try simp only [Act.put, setA, setZ, setS]
        refine take_now 6 rfl ?_
        try simp only [Act.put, setA, setZ, setS]
        refine take_now 7 rfl ?_
        try simp only [Act.put, setA, setZ, setS]
        refine take_now 8 rfl ?_
        try simp only [Act.put, setA, setZ, setS]
        refine take_now 9 rfl ?_
        try simp only [Act.put, setA, setZ, setS]
        refine take_now 10 rfl ?_
        try simp only [Act.put, setA, setZ, setS]
        refine only_at 5 (by kernel_rfl) rfl (fun K hK => ?_)
        go_simp
        (go_at_call 13
         have D5 := HD5.out.under (Below.refl _ _).drew
         (with_reducible refine (mark_any D5.one _ _ HOB.out).mono ?_)
         rintro e w6 ⟨he, hm⟩
         subst he
         have HX6 := Lib.hid (hm.box HF1.out (Nat.le_refl _) (show w5.drew.heap[wr.heap.size]? = _ from HX5.out))
         obtain ⟨d0, d1, d2⟩ := row3 HX6.out
         have HW6 := Lib.hid (D5.one.downK HW5.out.drew (Nat.le_refl _) hm)
         obtain ⟨v6, h6⟩ := D5.left hm
         have HD6 := Lib.hid h6
         clear hm h6 D5)
        refine hK.out _ _ ?_ (fun hHeld => ?_)
        · (try dsimp only); go_keep
        clear hK K
        try simp only [Act.put, setA, setZ, setS]
        refine only_at 11 (by kernel_rfl) rfl (fun K hK => ?_)
        go_simp
        (go_at_call 14
         (with_reducible refine (mark_ref HD6.out.two _ _ HOB.out).mono ?_)
         rintro e w7 ⟨he, hm⟩
         subst he
         have HX7 := Lib.hid (hm.box HF2.out (Nat.le_refl _) HX6.out)
         obtain ⟨e0, e1, e2⟩ := row3 HX7.out
         have HW7 := Lib.hid (HD6.out.two.down HW6.out (Nat.le_refl _) hm)
         obtain ⟨v7, v8, h7⟩ := HD6.out.right hm
         have HD7 := Lib.hid h7
         clear hm h7)
        refine hK.out _ _ ?_ (fun hHeld => ?_)
        · (try dsimp only); go_keep
        clear hK K
        try simp only [Act.put, setA, setZ, setS]
        refine take_now 12 rfl ?_
        try simp only [Act.put, setA, setZ, setS]
        refine only_at 13 (by kernel_rfl) rfl (fun K hK => ?_)
        go_simp
        refine hK.out _ _ ?_ (fun hHeld => ?_)
        · (try dsimp only); go_keep
        clear hK K
        try simp only [Act.put, setA, setZ, setS]
        refine wpAnyH_done (by kernel_rfl) ?_ _
        go_wp2_with fail
        obtain ⟨x, hx⟩ : ∃ x, ofS (markS S o.a o.b) o.a = x := ⟨_, rfl⟩
        obtain ⟨y, hy⟩ : ∃ x, leastS (markS S o.a o.b) o.a = x := ⟨_, rfl⟩
        obtain ⟨q, hq⟩ : ∃ x, alikeS (markS S o.a o.b) o.a o.b = x := ⟨_, rfl⟩
        have K1 := Lib.hid (of_kq HD7.out.one hx)
        have R1 := Lib.hid (of_rq HD7.out.two hx)
        have K2 := Lib.hid (least_kq HD7.out.one hy)
        have R2 := Lib.hid (least_rq HD7.out.two hy)
        have K3 := Lib.hid (alike_kq HD7.out.one hq)
        have R3 := Lib.hid (alike_rq HD7.out.two hq)
        clear hx hy hq
        have g1 : (x != x) = false := by simp
        have g2 : (y != y) = false := by simp
        cases q
        all_goals
          go_quiet (first
            | (go_at_call 17; with_reducible exact Calls.quiet_of_same (K1.out _))
            | (go_at_call 18; with_reducible exact Calls.quiet_of_same (R1.out _))
            | (go_at_call 19; with_reducible exact Calls.quiet_of_same (K2.out _))
            | (go_at_call 20; with_reducible exact Calls.quiet_of_same (R2.out _))
            | (go_at_call 21; with_reducible exact Calls.quiet_of_same (K3.out _))
            | (go_at_call 22; with_reducible exact Calls.quiet_of (R3.out _)))
          go_wp2_with fail
          go_roundg (l.length - (i + 1))
          case measure => have := HI.out; omega
          case rel => exact ⟨i + 1, v6, v7, v8, _, by omega, by go_num, HD7.out.under (dq _ _), by have := HN.out; (rw [markS_n]; omega), HW7.out.trans ((dq _ _).mono HW7.out.size)⟩
      · by_cases hk0 : kindQ o.kd = 0
        · have HK := Lib.hid hk0
          clear hk1 hk0 hr
          go_wp2_with (first
            | (go_at_call 10; ((with_reducible refine (kind_any _ _ _ _).mono ?_); rintro e w5 ⟨he, hb5⟩; rw [HK.out] at he; subst he; have HB5 := Lib.hid (HAL.out.trans (hb5.mono HAL.out.size)); have HX5 := Lib.hid ((hb5.block _ (by simp)).trans HBX.out); obtain ⟨b0, b1, b2⟩ := row3 HX5.out; have HW5 := Lib.hid (HB.out.trans (HB5.out.mono HB.out.size)); have HD5 := Lib.hid (HD.out.under HB5.out); clear hb5))
            | (go_at_call 11; ((with_reducible refine (add_any HD5.out.one HSN.out HW5.out.size).mono ?_); rintro e w6 ⟨he, hm⟩; subst he; have HX6 := Lib.hid (hm.box HF1.out (Nat.le_refl _) HX5.out); have HW6 := Lib.hid (HD5.out.one.downK HW5.out (Nat.le_refl _) hm); obtain ⟨v6, h6⟩ := HD5.out.left hm; have HD6 := Lib.hid h6; clear hm h6))
            | (go_at_call 12; ((with_reducible refine (add_ref HD6.out.two HSN.out HW6.out.size).mono ?_); rintro e w7 ⟨he, hm⟩; subst he; have HX7 := Lib.hid (hm.box HF2.out (Nat.le_refl _) HX6.out); obtain ⟨e0, e1, e2⟩ := row3 HX7.out; have HW7 := Lib.hid (HD6.out.two.down HW6.out (Nat.le_refl _) hm); obtain ⟨v7, v8, h7⟩ := HD6.out.right hm; have HD7 := Lib.hid h7; clear hm h7)))
          obtain ⟨x, hx⟩ : ∃ x, ofS (addS S) o.a = x := ⟨_, rfl⟩
          obtain ⟨y, hy⟩ : ∃ x, leastS (addS S) o.a = x := ⟨_, rfl⟩
          obtain ⟨q, hq⟩ : ∃ x, alikeS (addS S) o.a o.b = x := ⟨_, rfl⟩
          have K1 := Lib.hid (of_kq HD7.out.one hx)
          have R1 := Lib.hid (of_rq HD7.out.two hx)
          have K2 := Lib.hid (least_kq HD7.out.one hy)
          have R2 := Lib.hid (least_rq HD7.out.two hy)
          have K3 := Lib.hid (alike_kq HD7.out.one hq)
          have R3 := Lib.hid (alike_rq HD7.out.two hq)
          clear hx hy hq
          have g1 : (x != x) = false := by simp
          have g2 : (y != y) = false := by simp
          cases q
          all_goals
            go_quiet (first
              | (go_at_call 17; with_reducible exact Calls.quiet_of_same (K1.out _))
              | (go_at_call 18; with_reducible exact Calls.quiet_of_same (R1.out _))
              | (go_at_call 19; with_reducible exact Calls.quiet_of_same (K2.out _))
              | (go_at_call 20; with_reducible exact Calls.quiet_of_same (R2.out _))
              | (go_at_call 21; with_reducible exact Calls.quiet_of_same (K3.out _))
              | (go_at_call 22; with_reducible exact Calls.quiet_of (R3.out _)))
            go_wp2_with fail
            go_roundg (l.length - (i + 1))
            case measure => have := HI.out; omega
            case rel => exact ⟨i + 1, v6, v7, v8, _, by omega, by go_num, HD7.out.under (dq _ _), by have := HN.out; (show S.n + 1 ≤ _; omega), HW7.out.trans ((dq _ _).mono HW7.out.size)⟩
        · have HK := Lib.hid (show kindQ o.kd = 2 by omega)
          clear hk1 hk0 hr
          go_wp2_with (go_at_call 10; ((with_reducible refine (kind_any _ _ _ _).mono ?_); rintro e w5 ⟨he, hb5⟩; rw [HK.out] at he; subst he; have HB5 := Lib.hid (HAL.out.trans (hb5.mono HAL.out.size)); have HX5 := Lib.hid ((hb5.block _ (by simp)).trans HBX.out); obtain ⟨b0, b1, b2⟩ := row3 HX5.out; have HW5 := Lib.hid (HB.out.trans (HB5.out.mono HB.out.size)); have HD5 := Lib.hid (HD.out.under HB5.out); clear hb5))
          refine wp_region_held_drew (S := (fun W => W.cell? ⟨wr.heap.size, 1, none⟩ = some (.int .i64 o.a) ∧ W.cell? ⟨wr.heap.size, 2, none⟩ = some (.int .i64 o.b))) (by kernel_rfl) ?_ (fun hHeld => ?_)
          · (try dsimp only); go_keep
          refine take_now 0 rfl ?_
          try simp only [Act.put, setA, setZ, setS]
          refine take_now 1 rfl ?_
          try simp only [Act.put, setA, setZ, setS]
          refine take_now 2 rfl ?_
          try simp only [Act.put, setA, setZ, setS]
          refine take_now 3 rfl ?_
          try simp only [Act.put, setA, setZ, setS]
          refine take_now 4 rfl ?_
          try simp only [Act.put, setA, setZ, setS]
          refine take_now 6 rfl ?_
          try simp only [Act.put, setA, setZ, setS]
          refine take_now 7 rfl ?_
          try simp only [Act.put, setA, setZ, setS]
          refine take_now 8 rfl ?_
          try simp only [Act.put, setA, setZ, setS]
          refine take_now 9 rfl ?_
          try simp only [Act.put, setA, setZ, setS]
          refine take_now 10 rfl ?_
          try simp only [Act.put, setA, setZ, setS]
          refine only_at 5 (by kernel_rfl) rfl (fun K hK => ?_)
          go_simp
          (go_at_call 15
           have D5 := HD5.out.under (Below.refl _ _).drew
           (with_reducible refine (tie_any D5.one _ _).mono ?_)
           rintro e w6 ⟨he, hm⟩
           subst he
           have HX6 := Lib.hid (hm.box HF1.out (Nat.le_refl _) (show w5.drew.heap[wr.heap.size]? = _ from HX5.out))
           obtain ⟨d0, d1, d2⟩ := row3 HX6.out
           have HW6 := Lib.hid (D5.one.downK HW5.out.drew (Nat.le_refl _) hm)
           obtain ⟨v6, h6⟩ := D5.left hm
           have HD6 := Lib.hid h6
           clear hm h6 D5)
          refine hK.out _ _ ?_ (fun hHeld => ?_)
          · (try dsimp only); go_keep
          clear hK K
          try simp only [Act.put, setA, setZ, setS]
          refine only_at 11 (by kernel_rfl) rfl (fun K hK => ?_)
          go_simp
          (go_at_call 16
           (with_reducible refine (tie_ref HD6.out.two _ _).mono ?_)
           rintro e w7 ⟨he, hm⟩
           subst he
           have HX7 := Lib.hid (hm.box HF2.out (Nat.le_refl _) HX6.out)
           obtain ⟨e0, e1, e2⟩ := row3 HX7.out
           have HW7 := Lib.hid (HD6.out.two.down HW6.out (Nat.le_refl _) hm)
           obtain ⟨v7, v8, h7⟩ := HD6.out.right hm
           have HD7 := Lib.hid h7
           clear hm h7)
          refine hK.out _ _ ?_ (fun hHeld => ?_)
          · (try dsimp only); go_keep
          clear hK K
          try simp only [Act.put, setA, setZ, setS]
          refine take_now 12 rfl ?_
          try simp only [Act.put, setA, setZ, setS]
          refine only_at 13 (by kernel_rfl) rfl (fun K hK => ?_)
          go_simp
          refine hK.out _ _ ?_ (fun hHeld => ?_)
          · (try dsimp only); go_keep
          clear hK K
          try simp only [Act.put, setA, setZ, setS]
          refine wpAnyH_done (by kernel_rfl) ?_ _
          go_wp2_with fail
          obtain ⟨x, hx⟩ : ∃ x, ofS (tieS S o.a o.b) o.a = x := ⟨_, rfl⟩
          obtain ⟨y, hy⟩ : ∃ x, leastS (tieS S o.a o.b) o.a = x := ⟨_, rfl⟩
          obtain ⟨q, hq⟩ : ∃ x, alikeS (tieS S o.a o.b) o.a o.b = x := ⟨_, rfl⟩
          have K1 := Lib.hid (of_kq HD7.out.one hx)
          have R1 := Lib.hid (of_rq HD7.out.two hx)
          have K2 := Lib.hid (least_kq HD7.out.one hy)
          have R2 := Lib.hid (least_rq HD7.out.two hy)
          have K3 := Lib.hid (alike_kq HD7.out.one hq)
          have R3 := Lib.hid (alike_rq HD7.out.two hq)
          clear hx hy hq
          have g1 : (x != x) = false := by simp
          have g2 : (y != y) = false := by simp
          cases q
          all_goals
            go_quiet (first
              | (go_at_call 17; with_reducible exact Calls.quiet_of_same (K1.out _))
              | (go_at_call 18; with_reducible exact Calls.quiet_of_same (R1.out _))
              | (go_at_call 19; with_reducible exact Calls.quiet_of_same (K2.out _))
              | (go_at_call 20; with_reducible exact Calls.quiet_of_same (R2.out _))
              | (go_at_call 21; with_reducible exact Calls.quiet_of_same (K3.out _))
              | (go_at_call 22; with_reducible exact Calls.quiet_of (R3.out _)))
            go_wp2_with fail
            go_roundg (l.length - (i + 1))
            case measure => have := HI.out; omega
            case rel => exact ⟨i + 1, v6, v7, v8, _, by omega, by go_num, HD7.out.under (dq _ _), by have := HN.out; (rw [tieS_n]; omega), HW7.out.trans ((dq _ _).mono HW7.out.size)⟩
    · have hbg := HD.out.two.big
      obtain ⟨hc0, _⟩ := HD.out.two.cells
      obtain ⟨A1, c1, e1, hl3, hl4⟩ := HD.out.two.rc.shape
      subst e1
      unfold maxLen at hl4
      go_wp2_with fail
      go_loopg [8] (S.n + 2) (fun g u W => ∃ z : Int, (g : Int) + z = (S.n : Int) + 1 ∧ -1 ≤ z ∧ u = .int .i64 z ∧ W = wr)
      case atStart => exact ⟨-1, by omega, by omega, rfl, rfl⟩
      case round =>
        obtain ⟨z, hz, hz0, rfl, rfl⟩ := hrel
        have HZ := Lib.hid hz
        have hz1 : z ≤ (S.n : Int) + 1 := by omega
        clear hz
        by_cases hzn : z ≤ (S.n : Int)
        · obtain ⟨x, hx⟩ : ∃ x, ofS S z = x := ⟨_, rfl⟩
          obtain ⟨y, hy⟩ : ∃ x, leastS S z = x := ⟨_, rfl⟩
          have HX := Lib.hid hx
          have HY := Lib.hid hy
          clear hx hy
          go_wp2_with (first
            | (go_at_call 17; ((with_reducible refine (of_is HD.out.one _).mono ?_); rintro e w6 ⟨he, rfl⟩; rw [HX.out] at he; subst he))
            | (go_at_call 18; ((with_reducible refine (of_ref HD.out.two _).mono ?_); rintro e w6 ⟨he, rfl⟩; rw [HX.out] at he; subst he))
            | (go_at_call 19; ((with_reducible refine (least_is HD.out.one _).mono ?_); rintro e w6 ⟨he, rfl⟩; rw [HY.out] at he; subst he))
            | (go_at_call 20; ((with_reducible refine (least_ref HD.out.two _).mono ?_); rintro e w6 ⟨he, rfl⟩; rw [HY.out] at he; subst he)))
          go_roundg (gk - 1)
          case measure => have := HZ.out; omega
          case rel => exact ⟨z + 1, by have := HZ.out; omega, by omega, rfl, rfl⟩
        · have HLK := Lib.hid (len_kq HD.out.one)
          go_wp2_with fail
          go_quiet ((go_at_call 23; with_reducible exact Calls.quiet_of_same (HLK.out _)))
          go_wp2_with fail
          go_ret
          exact ⟨ret_bool (by simp), HB.out.trans ((dq _ _).mono HB.out.size)⟩
end Go.Proofs.Ytiehfjkiedgkhaa
