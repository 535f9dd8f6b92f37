/-
  TreeShows' walk, and TreeShows at what came in.
-/
import Derived.Test.YthffigagnodnmaaGreatDoorTreeLives
import Derived.Test.YthffigagnodnmaaGreatDoorTreeUnq2
import Derived.Test.YthffigagnodnmaaGreatDoorTreeWt
import Derived.Test.YthffigagnodnmaaGreatDoorTreeLaid
import Derived.Deep.RegionWith
import Derived.Deep.RegionHeld3
namespace Go.Proofs.YthffigagnodnmaaGreatDoor
open Go.RowKit

def oneP (x : Ex) : QProg := ⟨[], [⟨[102], [], [[120]], [[121]], [⟨⟨[[121]], x⟩, []⟩]⟩]⟩
/-- the program of one equation lies in w as the program's literal lays it -/
theorem one_at {w : World} {g1 g2 g3 g4 g5 : Nat} {L : List Value} {x : Ex} {fz1 fz2 fz3 fz4 fz5 : Nat × Nat} {T1 T2 T3 T4 T5 : TypeId} (hE : ExAt w L x)
    (h1 : w.heap[g1]? = some (.cells #[.string ⟨#[120]⟩] T1 fz1)) (h2 : w.heap[g2]? = some (.cells #[.string ⟨#[121]⟩] T2 fz2)) (h3 : w.heap[g3]? = some (.cells #[.string ⟨#[121]⟩] T3 fz3))
    {c4 : Array Value} (h4 : w.heap[g4]? = some (.cells c4 T4 fz4)) (e4 : c4.toList = .slice (some ⟨g3, 0, none⟩) 1 1 :: (L ++ [.slice none 0 0]))
    {c5 : Array Value} (h5 : w.heap[g5]? = some (.cells c5 T5 fz5)) (e5 : c5.toList = [.string ⟨#[102]⟩, .slice none 0 0, .slice (some ⟨g1, 0, none⟩) 1 1, .slice (some ⟨g2, 0, none⟩) 1 1, .slice (some ⟨g4, 0, none⟩) 1 1]) :
    ProgAt w [.slice none 0 0, .slice (some ⟨g5, 0, none⟩) 1 1] (oneP x) := by
  have s1 : StrsAt w (.slice (some ⟨g1, 0, none⟩) 1 1) [[120]] := made1 h1 ⟨rfl, len_small (by decide)⟩ rfl
  have s2 : StrsAt w (.slice (some ⟨g2, 0, none⟩) 1 1) [[121]] := made1 h2 ⟨rfl, len_small (by decide)⟩ rfl
  have s3 : StrsAt w (.slice (some ⟨g3, 0, none⟩) 1 1) [[121]] := made1 h3 ⟨rfl, len_small (by decide)⟩ rfl
  have i4 : ItemAt w (.slice (some ⟨g3, 0, none⟩) 1 1 :: (L ++ [.slice none 0 0])) ⟨⟨[[121]], x⟩, []⟩ :=
    ⟨.slice (some ⟨g3, 0, none⟩) 1 1 :: L, .slice none 0 0, rfl, ⟨_, L, rfl, s3, hE⟩, none, 0, rfl, Nat.le_refl _, by unfold maxLen; omega, fun i x h => by simp at h⟩
  have n5 : NodeAt w [.string ⟨#[102]⟩, .slice none 0 0, .slice (some ⟨g1, 0, none⟩) 1 1, .slice (some ⟨g2, 0, none⟩) 1 1, .slice (some ⟨g4, 0, none⟩) 1 1] ⟨[102], [], [[120]], [[121]], [⟨⟨[[121]], x⟩, []⟩]⟩ :=
    ⟨_, _, _, _, rfl, len_small (l := ([102] : Tx)) (by decide), strs_none w, s1, s2, made1 h4 i4 e4⟩
  exact ⟨_, _, rfl, ⟨none, 0, rfl, Nat.le_refl _, by unfold maxLen; omega, fun i x h => by simp [oneP] at h⟩, made1 h5 n5 e5⟩
def OnePost (x : Ex) (w : World) (e : Ending) (w' : World) : Prop := ∃ L : List Value, e = .returned (.agg L.toArray) ∧ ProgAt w' L (oneP x) ∧ Below w.heap.size w w'
theorem prog_size2 : (Tryz.prog.info? 33).map (·.size) = some 2 := by kernel_rfl
set_option maxRecDepth 100000 in
theorem one_results {tmps : Array Value} {w : World} {N : Nat} {x0 x1 : Value} (hp : tmps.getD 2 undef = .pointer (some ⟨N, 0, none⟩)) (hg : w.heap[N]? = some (.cells #[x0, x1] 33 (0, 0))) :
    (results Tryz.f27 tmps).run Tryz.prog w = .ok (.agg #[x0, x1]) w :=
  results_cell_row Tryz.results27 tmps w N 33 _ (0, 0) _ hp hg Tryz.underlying33 rfl prog_size2
set_option maxHeartbeats 1000000 in
set_option maxRecDepth 100000 in
theorem one_any {w0 : World} {L : List Value} {x : Ex} (hx : ExAt w0 L x) (w : World) (hb : Below w0.heap.size w0 w) : Calls Tryz.prog 27 #[.agg L.toArray] w (OnePost x w) := by
  have HX := Lib.hid hx
  have HB := Lib.hid hb
  obtain ⟨o1, s1, n1, A1, m1, k1, A2, m2, k2, rfl⟩ := hx.shape
  clear hx hb
  go_enter Tryz.func27, Tryz.ntmps27
  go_wp2
  have hB : Below w.heap.size w _ := (((((((Below.refl w.heap.size w).alloc (Nat.le_refl _) (.cells #[.int .i64 o1, .string s1, .int .i64 n1, .slice A1 m1 k1, .slice A2 m2 k2] 25)).alloc (by simp) (.cells #[.slice none 0 0, .slice (some ⟨w.heap.size + 1 + 1 + 1 + 1 + 1 + 1, 0, none⟩) 1 1] 33)).alloc (by simp; omega) (.cells #[.string ⟨#[120]⟩] 9)).alloc (by simp; omega) (.cells #[.string ⟨#[121]⟩] 9)).alloc (by simp; omega) (.cells #[.string ⟨#[121]⟩] 9)).alloc (by simp; omega) (.cells #[.slice (some ⟨w.heap.size + 1 + 1 + 1 + 1, 0, none⟩) 1 1, .int .i64 o1, .string s1, .int .i64 n1, .slice A1 m1 k1, .slice A2 m2 k2, .slice none 0 0] 52)).alloc (by simp; omega) (.cells #[.string ⟨#[102]⟩, .slice none 0 0, .slice (some ⟨w.heap.size + 1 + 1, 0, none⟩) 1 1, .slice (some ⟨w.heap.size + 1 + 1 + 1, 0, none⟩) 1 1, .slice (some ⟨w.heap.size + 1 + 1 + 1 + 1 + 1, 0, none⟩) 1 1] 55)
  exact bodyPost_ret (one_results rfl (alloc_below (alloc_below (alloc_below (alloc_below (alloc_below (alloc_at (by simp)))))))) rfl
    ⟨_, rfl, one_at (HX.out.under (HB.out.trans (hB.mono HB.out.size))) (alloc_below (alloc_below (alloc_below (alloc_below (alloc_at (by simp)))))) (alloc_below (alloc_below (alloc_below (alloc_at (by simp))))) (alloc_below (alloc_below (alloc_at (by simp)))) (alloc_below (alloc_at (by simp))) rfl (alloc_at (by simp)) rfl, hB⟩
theorem one_few (x : Ex) : ∀ n ∈ (oneP x).nodes, (nodeX n).length ≤ 1048576 := by
  intro n hn
  simp [oneP] at hn
  subst hn
  simp [nodeX, itemX]
theorem one_right {x : Ex} (h : rightL false (oneP x) = 0) : rightX false x = true := by
  have := right_of_0 h
  simp only [rightP, Bool.and_eq_true] at this
  have h1 := allM_mem this.2 _ (by simp [oneP]; rfl)
  simp only [rightNode, Bool.and_eq_true] at h1
  have h2 := allM_mem h1.2.2.2.2 _ (by simp; rfl)
  simp only [rightItem, if_true, rightEq, Bool.and_eq_true] at h2
  exact h2.2
/-- Right of the program of one equation -/
theorem right_one {x : Ex} {g : Int} (hg : rightL false (oneP x) = g) {L : List Value} {w : World} (h : ProgAt w L (oneP x)) : Calls Tryz.prog 19 #[.agg L.toArray, .bool false] w (IntPost g w) := by
  have := right_any false h (one_few x) w (Below.refl _ _)
  rwa [hg] at this
theorem right_is (x : Ex) : (∃ g : Int, rightL false (oneP x) = g ∧ g ≠ 0) ∨ rightL false (oneP x) = 0 := by
  rcases rightL_cases (oneP x) with h | h | h
  · exact .inr h
  · exact .inl ⟨9, h, by decide⟩
  · exact .inl ⟨10, h, by decide⟩
set_option maxHeartbeats 2000000 in
set_option maxRecDepth 100000 in
theorem shows_a {w : World} (htab : Tab w) {x y : Ex} {L M : List Value} (hx : ExAt w L x) (hy : ExAt w M y) {g : Int} (hr : rightL false (oneP x) = g) (hg : g ≠ 0) : Calls Tryz.prog 9 #[.agg L.toArray, .agg M.toArray] w (Lived w) := by
  have HX := Lib.hid hx
  have HY := Lib.hid hy
  have HTB := Lib.hid htab
  obtain ⟨o1, s1, n1, A1, m1, k1, A2, m2, k2, rfl⟩ := hx.shape
  obtain ⟨o2, s2, n2, A3, m3, k3, A4, m4, k4, rfl⟩ := hy.shape
  have HG := Lib.hid hr
  have hg1 : (g == 0) = false := beq_eq_false_iff_ne.2 hg
  have hg2 : (g != 0) = true := by simp [hg]
  clear hx hy htab hr hg
  go_enter Tryz.func9, Tryz.ntmps9
  go_wp2_with (first
    | (go_at_call 10
       refine (lives_any _ (HTB.out.under (((Below.refl _ w).alloc (Nat.le_refl _) _).alloc (by simp) _))).mono ?_
       rintro e w1 ⟨rfl, hb1⟩
       have bx := box_a hb1
       have by_ := box_b hb1
       obtain ⟨p0, p1, p2, p3, p4⟩ := row5 bx
       obtain ⟨r0, r1, r2, r3, r4⟩ := row5 by_
       have BX1 := Lib.hid bx
       have BY1 := Lib.hid by_
       have HB1 := Lib.hid ((((Below.refl _ w).alloc (Nat.le_refl _) _).alloc (by simp) _).trans (hb1.mono (by simp; omega)))
       clear hb1 bx by_)
    | (go_at_call 27
       (with_reducible refine (one_any HX.out _ HB1.out).mono ?_)
       rintro e w2 ⟨La, rfl, hp, hb2⟩
       have HPa := Lib.hid hp
       obtain ⟨ev, nv, rfl, q1, q2⟩ := hp
       obtain ⟨Ba1, na1, ca1, rfl⟩ := SliceAt.shape q1
       obtain ⟨Ba2, na2, ca2, rfl⟩ := SliceAt.shape q2
       have bx := box_next hb2 BX1.out
       have by_ := box_next hb2 BY1.out
       obtain ⟨p0, p1, p2, p3, p4⟩ := row5 bx
       obtain ⟨r0, r1, r2, r3, r4⟩ := row5 by_
       have BX2 := Lib.hid bx
       have BY2 := Lib.hid by_
       have HB2 := Lib.hid (HB1.out.trans (hb2.mono HB1.out.size))
       clear q1 q2 hb2 bx by_)
    | (go_at_call 19
       (with_reducible refine (right_one HG.out HPa.out).mono ?_)
       rintro e w3 ⟨rfl, hb2⟩
       have bx := box_next hb2 BX2.out
       have by_ := box_next hb2 BY2.out
       obtain ⟨p0, p1, p2, p3, p4⟩ := row5 bx
       obtain ⟨r0, r1, r2, r3, r4⟩ := row5 by_
       have BX3 := Lib.hid bx
       have BY3 := Lib.hid by_
       have HB3 := Lib.hid (HB2.out.trans (hb2.mono HB2.out.size))
       clear hb2 bx by_))
  go_ret
  exact ⟨rfl, HB3.out⟩
set_option maxHeartbeats 2000000 in
set_option maxRecDepth 100000 in
theorem shows_b {w : World} (htab : Tab w) {x y : Ex} {L M : List Value} (hx : ExAt w L x) (hy : ExAt w M y) {g : Int} (hr0 : rightL false (oneP x) = 0) (hr : rightL false (oneP y) = g) (hg : g ≠ 0) : Calls Tryz.prog 9 #[.agg L.toArray, .agg M.toArray] w (Lived w) := by
  have HX := Lib.hid hx
  have HY := Lib.hid hy
  have HTB := Lib.hid htab
  obtain ⟨o1, s1, n1, A1, m1, k1, A2, m2, k2, rfl⟩ := hx.shape
  obtain ⟨o2, s2, n2, A3, m3, k3, A4, m4, k4, rfl⟩ := hy.shape
  have HG0 := Lib.hid hr0
  have HG := Lib.hid hr
  have hg1 : (g == 0) = false := beq_eq_false_iff_ne.2 hg
  have hg2 : (g != 0) = true := by simp [hg]
  clear hx hy htab hr hg hr0
  go_enter Tryz.func9, Tryz.ntmps9
  go_wp2_with (first
    | (go_at_call 10
       refine (lives_any _ (HTB.out.under (((Below.refl _ w).alloc (Nat.le_refl _) _).alloc (by simp) _))).mono ?_
       rintro e w1 ⟨rfl, hb1⟩
       have bx := box_a hb1
       have by_ := box_b hb1
       obtain ⟨p0, p1, p2, p3, p4⟩ := row5 bx
       obtain ⟨r0, r1, r2, r3, r4⟩ := row5 by_
       have BX1 := Lib.hid bx
       have BY1 := Lib.hid by_
       have HB1 := Lib.hid ((((Below.refl _ w).alloc (Nat.le_refl _) _).alloc (by simp) _).trans (hb1.mono (by simp; omega)))
       clear hb1 bx by_)
    | (go_at_call 27
       (with_reducible refine (one_any HX.out _ HB1.out).mono ?_)
       rintro e w2 ⟨La, rfl, hp, hb2⟩
       have HPa := Lib.hid hp
       obtain ⟨ev, nv, rfl, q1, q2⟩ := hp
       obtain ⟨Ba1, na1, ca1, rfl⟩ := SliceAt.shape q1
       obtain ⟨Ba2, na2, ca2, rfl⟩ := SliceAt.shape q2
       have bx := box_next hb2 BX1.out
       have by_ := box_next hb2 BY1.out
       obtain ⟨p0, p1, p2, p3, p4⟩ := row5 bx
       obtain ⟨r0, r1, r2, r3, r4⟩ := row5 by_
       have BX2 := Lib.hid bx
       have BY2 := Lib.hid by_
       have HB2 := Lib.hid (HB1.out.trans (hb2.mono HB1.out.size))
       clear q1 q2 hb2 bx by_)
    | (go_at_call 19
       (with_reducible refine (right_one HG0.out HPa.out).mono ?_)
       rintro e w3 ⟨rfl, hb2⟩
       have bx := box_next hb2 BX2.out
       have by_ := box_next hb2 BY2.out
       obtain ⟨p0, p1, p2, p3, p4⟩ := row5 bx
       obtain ⟨r0, r1, r2, r3, r4⟩ := row5 by_
       have BX3 := Lib.hid bx
       have BY3 := Lib.hid by_
       have HB3 := Lib.hid (HB2.out.trans (hb2.mono HB2.out.size))
       clear hb2 bx by_)
    | (go_at_call 27
       (with_reducible refine (one_any HY.out _ HB3.out).mono ?_)
       rintro e w4 ⟨La, rfl, hp, hb2⟩
       have HPb := Lib.hid hp
       obtain ⟨ev, nv, rfl, q1, q2⟩ := hp
       obtain ⟨Bb1, nb1, cb1, rfl⟩ := SliceAt.shape q1
       obtain ⟨Bb2, nb2, cb2, rfl⟩ := SliceAt.shape q2
       have bx := box_next hb2 BX3.out
       have by_ := box_next hb2 BY3.out
       obtain ⟨p0, p1, p2, p3, p4⟩ := row5 bx
       obtain ⟨r0, r1, r2, r3, r4⟩ := row5 by_
       have BX4 := Lib.hid bx
       have BY4 := Lib.hid by_
       have HB4 := Lib.hid (HB3.out.trans (hb2.mono HB3.out.size))
       clear q1 q2 hb2 bx by_)
    | (go_at_call 19
       (with_reducible refine (right_one HG.out HPb.out).mono ?_)
       rintro e w5 ⟨rfl, hb2⟩
       have bx := box_next hb2 BX4.out
       have by_ := box_next hb2 BY4.out
       obtain ⟨p0, p1, p2, p3, p4⟩ := row5 bx
       obtain ⟨r0, r1, r2, r3, r4⟩ := row5 by_
       have BX5 := Lib.hid bx
       have BY5 := Lib.hid by_
       have HB5 := Lib.hid (HB4.out.trans (hb2.mono HB4.out.size))
       clear hb2 bx by_))
  go_ret
  exact ⟨rfl, HB5.out⟩
set_option maxHeartbeats 4000000 in
set_option maxRecDepth 100000 in
theorem shows_c {w : World} (htab : Tab w) {x y : Ex} {L M : List Value} (hx : ExAt w L x) (hy : ExAt w M y) (hr0 : rightL false (oneP x) = 0) (hr1 : rightL false (oneP y) = 0) (sx : SizeOk (toksX x)) (sy : SizeOk (toksX y)) (hbx : bndX x) (hby : bndX y) : Calls Tryz.prog 9 #[.agg L.toArray, .agg M.toArray] w (Lived w) := by
  have HX := Lib.hid hx
  have HY := Lib.hid hy
  have HTB := Lib.hid htab
  obtain ⟨o1, s1, n1, A1, m1, k1, A2, m2, k2, rfl⟩ := hx.shape
  obtain ⟨o2, s2, n2, A3, m3, k3, A4, m4, k4, rfl⟩ := hy.shape
  have HG0 := Lib.hid hr0
  have HG1 := Lib.hid hr1
  have HSX := Lib.hid sx
  have HSY := Lib.hid sy
  have HEQ := Lib.hid (show ((str (spellL (toksX x))).toList == (str (spellL (toksX y))).toList) = sameX x y by
    have h1 := show_inj (one_right hr0) (one_right hr1) hbx hby
    rw [str_toL, str_toL, Bool.eq_iff_iff, beq_iff_eq, sameX_iff]
    exact h1)
  clear hx hy htab hr0 hr1 sx sy hbx hby
  go_enter Tryz.func9, Tryz.ntmps9
  go_wp2_with (first
    | (go_at_call 10
       refine (lives_any _ (HTB.out.under (((Below.refl _ w).alloc (Nat.le_refl _) _).alloc (by simp) _))).mono ?_
       rintro e w1 ⟨rfl, hb1⟩
       have bx := box_a hb1
       have by_ := box_b hb1
       obtain ⟨p0, p1, p2, p3, p4⟩ := row5 bx
       obtain ⟨r0, r1, r2, r3, r4⟩ := row5 by_
       have BX1 := Lib.hid bx
       have BY1 := Lib.hid by_
       have HB1 := Lib.hid ((((Below.refl _ w).alloc (Nat.le_refl _) _).alloc (by simp) _).trans (hb1.mono (by simp; omega)))
       clear hb1 bx by_)
    | (go_at_call 27
       (with_reducible refine (one_any HX.out _ HB1.out).mono ?_)
       rintro e w2 ⟨La, rfl, hp, hb2⟩
       have HPa := Lib.hid hp
       obtain ⟨ev, nv, rfl, q1, q2⟩ := hp
       obtain ⟨Ba1, na1, ca1, rfl⟩ := SliceAt.shape q1
       obtain ⟨Ba2, na2, ca2, rfl⟩ := SliceAt.shape q2
       have bx := box_next hb2 BX1.out
       have by_ := box_next hb2 BY1.out
       obtain ⟨p0, p1, p2, p3, p4⟩ := row5 bx
       obtain ⟨r0, r1, r2, r3, r4⟩ := row5 by_
       have BX2 := Lib.hid bx
       have BY2 := Lib.hid by_
       have HB2 := Lib.hid (HB1.out.trans (hb2.mono HB1.out.size))
       clear q1 q2 hb2 bx by_)
    | (go_at_call 19
       (with_reducible refine (right_one HG0.out HPa.out).mono ?_)
       rintro e w3 ⟨rfl, hb2⟩
       have bx := box_next hb2 BX2.out
       have by_ := box_next hb2 BY2.out
       obtain ⟨p0, p1, p2, p3, p4⟩ := row5 bx
       obtain ⟨r0, r1, r2, r3, r4⟩ := row5 by_
       have BX3 := Lib.hid bx
       have BY3 := Lib.hid by_
       have HB3 := Lib.hid (HB2.out.trans (hb2.mono HB2.out.size))
       clear hb2 bx by_)
    | (go_at_call 27
       (with_reducible refine (one_any HY.out _ HB3.out).mono ?_)
       rintro e w4 ⟨La, rfl, hp, hb2⟩
       have HPb := Lib.hid hp
       obtain ⟨ev, nv, rfl, q1, q2⟩ := hp
       obtain ⟨Bb1, nb1, cb1, rfl⟩ := SliceAt.shape q1
       obtain ⟨Bb2, nb2, cb2, rfl⟩ := SliceAt.shape q2
       have bx := box_next hb2 BX3.out
       have by_ := box_next hb2 BY3.out
       obtain ⟨p0, p1, p2, p3, p4⟩ := row5 bx
       obtain ⟨r0, r1, r2, r3, r4⟩ := row5 by_
       have BX4 := Lib.hid bx
       have BY4 := Lib.hid by_
       have HB4 := Lib.hid (HB3.out.trans (hb2.mono HB3.out.size))
       clear q1 q2 hb2 bx by_)
    | (go_at_call 19
       (with_reducible refine (right_one HG1.out HPb.out).mono ?_)
       rintro e w5 ⟨rfl, hb2⟩
       have bx := box_next hb2 BX4.out
       have by_ := box_next hb2 BY4.out
       obtain ⟨p0, p1, p2, p3, p4⟩ := row5 bx
       obtain ⟨r0, r1, r2, r3, r4⟩ := row5 by_
       have BX5 := Lib.hid bx
       have BY5 := Lib.hid by_
       have HB5 := Lib.hid (HB4.out.trans (hb2.mono HB4.out.size))
       clear hb2 bx by_))
  have BX5 := Lib.hid (show w5.drew.heap[w.heap.size]? = _ from BX5.out)
  have BY5 := Lib.hid (show w5.drew.heap[w.heap.size + 1]? = _ from BY5.out)
  have HB5 := Lib.hid HB5.out.drew
  go_region_held3 (fun W => W.cell? ⟨w.heap.size, 0, none⟩ = some (.int .i64 o1) ∧ W.cell? ⟨w.heap.size, 1, none⟩ = some (.string s1) ∧ W.cell? ⟨w.heap.size, 2, none⟩ = some (.int .i64 n1) ∧ W.cell? ⟨w.heap.size, 3, none⟩ = some (.slice A1 m1 k1) ∧ W.cell? ⟨w.heap.size, 4, none⟩ = some (.slice A2 m2 k2) ∧ W.cell? ⟨w.heap.size + 1, 0, none⟩ = some (.int .i64 o2) ∧ W.cell? ⟨w.heap.size + 1, 1, none⟩ = some (.string s2) ∧ W.cell? ⟨w.heap.size + 1, 2, none⟩ = some (.int .i64 n2) ∧ W.cell? ⟨w.heap.size + 1, 3, none⟩ = some (.slice A3 m3 k3) ∧ W.cell? ⟨w.heap.size + 1, 4, none⟩ = some (.slice A4 m4 k4)) (go_keep) (first
    | (go_at_call 15
       (with_reducible refine (show_any HTB.out HX.out HSX.out HB5.out).mono ?_)
       rintro e w6 ⟨rfl, hb2⟩
       have bx := box_next hb2 BX5.out
       have by_ := box_next hb2 BY5.out
       obtain ⟨p0, p1, p2, p3, p4⟩ := row5 bx
       obtain ⟨r0, r1, r2, r3, r4⟩ := row5 by_
       have BX6 := Lib.hid bx
       have BY6 := Lib.hid by_
       have HB6 := Lib.hid (HB5.out.trans (hb2.mono HB5.out.size))
       clear hb2 bx by_)
    | (go_at_call 15
       (with_reducible refine (show_any HTB.out HY.out HSY.out HB6.out).mono ?_)
       rintro e w7 ⟨rfl, hb2⟩
       have bx := box_next hb2 BX6.out
       have by_ := box_next hb2 BY6.out
       obtain ⟨p0, p1, p2, p3, p4⟩ := row5 bx
       obtain ⟨r0, r1, r2, r3, r4⟩ := row5 by_
       have BX7 := Lib.hid bx
       have BY7 := Lib.hid by_
       have HB7 := Lib.hid (HB6.out.trans (hb2.mono HB6.out.size))
       clear hb2 bx by_)
    | (go_at_call 17
       (with_reducible refine (sameExpr_any _ _ _ _ HX.out HY.out _ HB7.out).mono ?_)
       rintro e w8 ⟨rfl, hb2⟩
       have bx := box_next hb2 BX7.out
       have by_ := box_next hb2 BY7.out
       obtain ⟨p0, p1, p2, p3, p4⟩ := row5 bx
       obtain ⟨r0, r1, r2, r3, r4⟩ := row5 by_
       have BX8 := Lib.hid bx
       have BY8 := Lib.hid by_
       have HB8 := Lib.hid (HB7.out.trans (hb2.mono HB7.out.size))
       clear hb2 bx by_))
  go_wp2_with fail
  go_ret
  exact ⟨ret_bool (by rw [HEQ.out]; simp), HB8.out⟩
theorem shows_any {w : World} (htab : Tab w) {x y : Ex} {L M : List Value} (hx : ExAt w L x) (hy : ExAt w M y) (sx : SizeOk (toksX x)) (sy : SizeOk (toksX y)) (hbx : bndX x) (hby : bndX y) : Calls Tryz.prog 9 #[.agg L.toArray, .agg M.toArray] w (Lived w) := by
  rcases right_is x with ⟨g, h1, h2⟩ | h0
  · exact shows_a htab hx hy h1 h2
  · rcases right_is y with ⟨g, h1, h2⟩ | h1
    · exact shows_b htab hx hy h0 h1 h2
    · exact shows_c htab hx hy h0 h1 sx sy hbx hby
theorem ex_size {x : Ex} (h : i64x x) (hw : wX x ≤ 1048576) : SizeOk (toksX x) := size_of_wN (by have := toks_wN x h; omega)
theorem shows_law (L : List Value) (x : Ex) (M : List Value) (y : Ex) (w : World) (hx : ExAt w L x) (hq : wX x ≤ 1048576) (hy : ExAt w M y) (hr : wX y ≤ 1048576) (h : Tab w) : Calls Tryz.prog 9 #[.agg L.toArray, .agg M.toArray] w (Lived w) :=
  shows_any h hx hy (ex_size hx.i64 hq) (ex_size hy.i64 hr) (bnd_of_i64 _ hx.i64) (bnd_of_i64 _ hy.i64)
end Go.Proofs.YthffigagnodnmaaGreatDoor
