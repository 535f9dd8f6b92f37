/-
  Texts joined.
-/
import Derived.Deep.DeepCutAuto
import Derived.Test.YtoajfnfhphoaeaaGreatDoorKj03
import Derived.Test.YtoajfnfhphoaeaaGreatDoorKj14
import Derived.Test.YtoajfnfhphoaeaaGreatDoorKj22
namespace Go.Proofs.YtoajfnfhphoaeaaGreatDoor
open Go.RowKit
set_option maxHeartbeats 2000000 in
set_option maxRecDepth 100000 in
theorem rSameEqs_any {w0 : World} {va vb : Value} {la lb : List QEq} (ha : SliceAt w0 (EqAt w0) va la) (hb : SliceAt w0 (EqAt w0) vb lb) :
    ∀ w, Below w0.heap.size w0 w → Calls Tryz.prog 47 #[va, vb] w (BoolPost (sameBy sameQEq la lb) w) := by
  intro w hw; obtain ⟨A, ca, rfl, hca, hma, hea⟩ := ha; obtain ⟨B, cb, rfl, hcb, hmb, heb⟩ := hb; have hla : la.length ≤ 9223372036854775807 := (by unfold maxLen at hma; omega); have hlb : lb.length ≤ 9223372036854775807 := (by unfold maxLen at hmb; omega); have HW := Lib.hid hw; have hsz := hw.size; have HEA := Lib.hid hea; have HEB := Lib.hid heb; clear hw hca hma hcb hmb hea heb; by_cases hlen : la.length = lb.length
  · have hd : ((la.length : Int) != (lb.length : Int)) = false := by simp [hlen]
    have HL := Lib.hid hlen; clear hlen; go_enter Tryz.func47, Tryz.ntmps47
    go_wp2_with fail
    go_loopg [5] la.length (fun g v wr => ∃ k : Nat, k + g = la.length ∧ v = .int .i64 k ∧ SameTo sameQEq la lb k ∧ Below w.heap.size w wr)
    case atStart => exact ⟨0, by omega, rfl, SameTo.zero, Below.refl _ _⟩
    case round =>
      obtain ⟨k, hkg, rfl, hto, hbw⟩ := hrel; obtain ⟨wq, rfl⟩ : ∃ W, W = wr := ⟨_, rfl⟩; have HK := Lib.hid hkg; have HT := Lib.hid hto; have HQ := Lib.hid hbw; have HBQ := Lib.hid (HW.out.trans (hbw.mono hsz)); have hkl : k ≤ la.length := (by omega); clear hkg hto hbw; by_cases hlt : k < la.length
      · have hlt2 : k < lb.length := by have := HL.out; omega
        obtain ⟨x, hx⟩ : ∃ x, la[k]? = some x := ⟨_, List.getElem?_eq_getElem hlt⟩; obtain ⟨y, hy⟩ : ∃ y, lb[k]? = some y := ⟨_, List.getElem?_eq_getElem hlt2⟩; obtain ⟨X, hEX, pv, X', rfl, hNX, hRX⟩ := HEA.out k x hx; obtain ⟨Y, hEY, qv, Y', rfl, hNY, hRY⟩ := HEB.out k y hy; have HN := Lib.hid (rSameNames_any hNX hNY); have HF := Lib.hid (rSameExpr_any x.e y.e _ _ hRX hRY); obtain ⟨pA0, pn0, pk0, rfl⟩ := SliceAt.shape hNX; obtain ⟨qA0, qn0, qk0, rfl⟩ := SliceAt.shape hNY; obtain ⟨po1, ps2, po3, pA4, pn4, pk4, pA5, pn5, pk5, rfl⟩ := hRX.shape; obtain ⟨qo1, qs2, qo3, qA4, qn4, qk4, qA5, qn5, qk5, rfl⟩ := hRY.shape; have EX := Lib.hid hEX; have EY := Lib.hid hEY; obtain ⟨a1, rfl, hab, haa, d0, d1, d2, d3, d4, d5⟩ := elem6 (hEX.under HBQ.out); obtain ⟨b1, rfl, hbb, hba, f0, f1, f2, f3, f4, f5⟩ := elem6 (hEY.under HBQ.out); have HX := Lib.hid hx; have HY := Lib.hid hy; clear hx hy hEX hEY hNX hNY hRX hRY; cases hs : x.names == y.names
        · have HS := Lib.hid (show sameQEq x y = false by rw [sameQEq, hs, Bool.false_and]); rw [hs] at HN; clear hs; go_wp2_with fail
          refine wp_region_held_drew (S := (fun W => W.cell? (a1.add (k * 6)) = some (.slice pA0 pn0 pk0) ∧ W.cell? { block := (a1.add (k * 6)).block, off := (a1.add (k * 6)).off + 1 } = some (.int .i64 po1) ∧ W.cell? { block := (a1.add (k * 6)).block, off := (a1.add (k * 6)).off + 2 } = some (.string ps2) ∧ W.cell? { block := (a1.add (k * 6)).block, off := (a1.add (k * 6)).off + 3 } = some (.int .i64 po3) ∧ W.cell? { block := (a1.add (k * 6)).block, off := (a1.add (k * 6)).off + 4 } = some (.slice pA4 pn4 pk4) ∧ W.cell? { block := (a1.add (k * 6)).block, off := (a1.add (k * 6)).off + 5 } = some (.slice pA5 pn5 pk5) ∧ W.cell? (b1.add (k * 6)) = some (.slice qA0 qn0 qk0) ∧ W.cell? { block := (b1.add (k * 6)).block, off := (b1.add (k * 6)).off + 1 } = some (.int .i64 qo1) ∧ W.cell? { block := (b1.add (k * 6)).block, off := (b1.add (k * 6)).off + 2 } = some (.string qs2) ∧ W.cell? { block := (b1.add (k * 6)).block, off := (b1.add (k * 6)).off + 3 } = some (.int .i64 qo3) ∧ W.cell? { block := (b1.add (k * 6)).block, off := (b1.add (k * 6)).off + 4 } = some (.slice qA4 qn4 qk4) ∧ W.cell? { block := (b1.add (k * 6)).block, off := (b1.add (k * 6)).off + 5 } = some (.slice qA5 qn5 qk5))) (by kernel_rfl) ?_ (fun hHeld => ?_)
          · (try dsimp only); go_keep
          refine take_now 0 rfl ?_; try simp only [Act.put, setA, setZ, setS]
          refine take_now 1 rfl ?_; try simp only [Act.put, setA, setZ, setS]
          refine take_now 2 rfl ?_; try simp only [Act.put, setA, setZ, setS]
          refine take_now 3 rfl ?_; try simp only [Act.put, setA, setZ, setS]
          refine take_now 4 rfl ?_; try simp only [Act.put, setA, setZ, setS]
          refine take_now 5 rfl ?_; try simp only [Act.put, setA, setZ, setS]
          refine take_now 6 rfl ?_; try simp only [Act.put, setA, setZ, setS]
          refine take_now 7 rfl ?_; try simp only [Act.put, setA, setZ, setS]
          refine take_now 8 rfl ?_; try simp only [Act.put, setA, setZ, setS]
          refine take_now 9 rfl ?_; try simp only [Act.put, setA, setZ, setS]
          refine only_at 10 (by kernel_rfl) rfl (fun K hK => ?_); go_simp
          (go_at_call 25
           (with_reducible refine (HN.out _ (HBQ.out.drew)).mono ?_); rintro e w7 ⟨rfl, hb7⟩; obtain ⟨z7, rfl⟩ : ∃ W, W = w7 := ⟨_, rfl⟩; have G1 := Lib.hid ((Below.refl wq.heap.size wq).drew.trans hb7); obtain ⟨_, ea, _, _, d0, d1, d2, d3, d4, d5⟩ := elem6 (EX.out.under (HBQ.out.trans (G1.out.mono HBQ.out.size))); obtain rfl := Option.some.inj ea; obtain ⟨_, eb, _, _, f0, f1, f2, f3, f4, f5⟩ := elem6 (EY.out.under (HBQ.out.trans (G1.out.mono HBQ.out.size))); obtain rfl := Option.some.inj eb; clear hb7 ea eb)
          refine hK.out _ _ ?_ (fun hHeld => ?_)
          · (try dsimp only); go_keep
          clear hK K; try simp only [Act.put, setA, setZ, setS]
          refine take_now 11 rfl ?_; try simp only [Act.put, setA, setZ, setS]
          refine take_now 12 rfl ?_; try simp only [Act.put, setA, setZ, setS]
          refine skip_now 13 rfl ?_; try simp only [Act.put, setA, setZ, setS]
          refine skip_now 14 rfl ?_; try simp only [Act.put, setA, setZ, setS]
          refine skip_now 15 rfl ?_; try simp only [Act.put, setA, setZ, setS]
          refine skip_now 16 rfl ?_; try simp only [Act.put, setA, setZ, setS]
          refine skip_now 17 rfl ?_; try simp only [Act.put, setA, setZ, setS]
          refine skip_now 18 rfl ?_; try simp only [Act.put, setA, setZ, setS]
          refine skip_now 19 rfl ?_; try simp only [Act.put, setA, setZ, setS]
          refine skip_now 20 rfl ?_; try simp only [Act.put, setA, setZ, setS]
          refine skip_now 21 rfl ?_; try simp only [Act.put, setA, setZ, setS]
          refine skip_now 22 rfl ?_; try simp only [Act.put, setA, setZ, setS]
          refine skip_now 23 rfl ?_; try simp only [Act.put, setA, setZ, setS]
          refine skip_now 24 rfl ?_; try simp only [Act.put, setA, setZ, setS]
          refine take_now 25 rfl ?_; try simp only [Act.put, setA, setZ, setS]
          refine wpAnyH_done (by kernel_rfl) ?_ _; go_wp2_with fail
          go_ret; exact ⟨ret_bool (by rw [sameBy_no HX.out HY.out HS.out]), HQ.out.trans (G1.out.mono HQ.out.size)⟩
        · cases he : sameX x.e y.e
          · have HS := Lib.hid (show sameQEq x y = false by rw [sameQEq, he, Bool.and_false]); rw [hs] at HN; rw [he] at HF; clear hs he; go_wp2_with fail
            go_region_held3 (fun W => W.cell? (a1.add (k * 6)) = some (.slice pA0 pn0 pk0) ∧ W.cell? { block := (a1.add (k * 6)).block, off := (a1.add (k * 6)).off + 1 } = some (.int .i64 po1) ∧ W.cell? { block := (a1.add (k * 6)).block, off := (a1.add (k * 6)).off + 2 } = some (.string ps2) ∧ W.cell? { block := (a1.add (k * 6)).block, off := (a1.add (k * 6)).off + 3 } = some (.int .i64 po3) ∧ W.cell? { block := (a1.add (k * 6)).block, off := (a1.add (k * 6)).off + 4 } = some (.slice pA4 pn4 pk4) ∧ W.cell? { block := (a1.add (k * 6)).block, off := (a1.add (k * 6)).off + 5 } = some (.slice pA5 pn5 pk5) ∧ W.cell? (b1.add (k * 6)) = some (.slice qA0 qn0 qk0) ∧ W.cell? { block := (b1.add (k * 6)).block, off := (b1.add (k * 6)).off + 1 } = some (.int .i64 qo1) ∧ W.cell? { block := (b1.add (k * 6)).block, off := (b1.add (k * 6)).off + 2 } = some (.string qs2) ∧ W.cell? { block := (b1.add (k * 6)).block, off := (b1.add (k * 6)).off + 3 } = some (.int .i64 qo3) ∧ W.cell? { block := (b1.add (k * 6)).block, off := (b1.add (k * 6)).off + 4 } = some (.slice qA4 qn4 qk4) ∧ W.cell? { block := (b1.add (k * 6)).block, off := (b1.add (k * 6)).off + 5 } = some (.slice qA5 qn5 qk5)) (go_keep) (first
                    | (go_at_call 25; (with_reducible refine (HN.out _ (HBQ.out.drew)).mono ?_); rintro e w7 ⟨rfl, hb7⟩; obtain ⟨z7, rfl⟩ : ∃ W, W = w7 := ⟨_, rfl⟩; have G1 := Lib.hid ((Below.refl wq.heap.size wq).drew.trans hb7); obtain ⟨_, ea, _, _, d0, d1, d2, d3, d4, d5⟩ := elem6 (EX.out.under (HBQ.out.trans (G1.out.mono HBQ.out.size))); obtain rfl := Option.some.inj ea; obtain ⟨_, eb, _, _, f0, f1, f2, f3, f4, f5⟩ := elem6 (EY.out.under (HBQ.out.trans (G1.out.mono HBQ.out.size))); obtain rfl := Option.some.inj eb; clear hb7 ea eb)
                    | (go_at_call 15; (with_reducible refine (HF.out _ (HBQ.out.trans (G1.out.mono HBQ.out.size))).mono ?_); rintro e w7 ⟨rfl, hb7⟩; obtain ⟨z7, rfl⟩ : ∃ W, W = w7 := ⟨_, rfl⟩; have G2 := Lib.hid (G1.out.trans (hb7.mono G1.out.size)); obtain ⟨_, ea, _, _, d0, d1, d2, d3, d4, d5⟩ := elem6 (EX.out.under (HBQ.out.trans (G2.out.mono HBQ.out.size))); obtain rfl := Option.some.inj ea; obtain ⟨_, eb, _, _, f0, f1, f2, f3, f4, f5⟩ := elem6 (EY.out.under (HBQ.out.trans (G2.out.mono HBQ.out.size))); obtain rfl := Option.some.inj eb; clear hb7 ea eb))
            all_goals go_wp2_with fail
            all_goals go_ret
            all_goals exact ⟨ret_bool (by rw [sameBy_no HX.out HY.out HS.out]), HQ.out.trans (G2.out.mono HQ.out.size)⟩
          · have HS := Lib.hid (show sameQEq x y = true by rw [sameQEq, hs, he]; rfl); rw [hs] at HN; rw [he] at HF; clear hs he; go_wp2_with fail
            go_region_held3 (fun W => W.cell? (a1.add (k * 6)) = some (.slice pA0 pn0 pk0) ∧ W.cell? { block := (a1.add (k * 6)).block, off := (a1.add (k * 6)).off + 1 } = some (.int .i64 po1) ∧ W.cell? { block := (a1.add (k * 6)).block, off := (a1.add (k * 6)).off + 2 } = some (.string ps2) ∧ W.cell? { block := (a1.add (k * 6)).block, off := (a1.add (k * 6)).off + 3 } = some (.int .i64 po3) ∧ W.cell? { block := (a1.add (k * 6)).block, off := (a1.add (k * 6)).off + 4 } = some (.slice pA4 pn4 pk4) ∧ W.cell? { block := (a1.add (k * 6)).block, off := (a1.add (k * 6)).off + 5 } = some (.slice pA5 pn5 pk5) ∧ W.cell? (b1.add (k * 6)) = some (.slice qA0 qn0 qk0) ∧ W.cell? { block := (b1.add (k * 6)).block, off := (b1.add (k * 6)).off + 1 } = some (.int .i64 qo1) ∧ W.cell? { block := (b1.add (k * 6)).block, off := (b1.add (k * 6)).off + 2 } = some (.string qs2) ∧ W.cell? { block := (b1.add (k * 6)).block, off := (b1.add (k * 6)).off + 3 } = some (.int .i64 qo3) ∧ W.cell? { block := (b1.add (k * 6)).block, off := (b1.add (k * 6)).off + 4 } = some (.slice qA4 qn4 qk4) ∧ W.cell? { block := (b1.add (k * 6)).block, off := (b1.add (k * 6)).off + 5 } = some (.slice qA5 qn5 qk5)) (go_keep) (first
                    | (go_at_call 25; (with_reducible refine (HN.out _ (HBQ.out.drew)).mono ?_); rintro e w7 ⟨rfl, hb7⟩; obtain ⟨z7, rfl⟩ : ∃ W, W = w7 := ⟨_, rfl⟩; have G1 := Lib.hid ((Below.refl wq.heap.size wq).drew.trans hb7); obtain ⟨_, ea, _, _, d0, d1, d2, d3, d4, d5⟩ := elem6 (EX.out.under (HBQ.out.trans (G1.out.mono HBQ.out.size))); obtain rfl := Option.some.inj ea; obtain ⟨_, eb, _, _, f0, f1, f2, f3, f4, f5⟩ := elem6 (EY.out.under (HBQ.out.trans (G1.out.mono HBQ.out.size))); obtain rfl := Option.some.inj eb; clear hb7 ea eb)
                    | (go_at_call 15; (with_reducible refine (HF.out _ (HBQ.out.trans (G1.out.mono HBQ.out.size))).mono ?_); rintro e w7 ⟨rfl, hb7⟩; obtain ⟨z7, rfl⟩ : ∃ W, W = w7 := ⟨_, rfl⟩; have G2 := Lib.hid (G1.out.trans (hb7.mono G1.out.size)); obtain ⟨_, ea, _, _, d0, d1, d2, d3, d4, d5⟩ := elem6 (EX.out.under (HBQ.out.trans (G2.out.mono HBQ.out.size))); obtain rfl := Option.some.inj ea; obtain ⟨_, eb, _, _, f0, f1, f2, f3, f4, f5⟩ := elem6 (EY.out.under (HBQ.out.trans (G2.out.mono HBQ.out.size))); obtain rfl := Option.some.inj eb; clear hb7 ea eb))
            all_goals go_wp2_with fail
            all_goals
              go_roundg (la.length - (k + 1))
              case measure => have := HK.out; omega
              case rel => exact ⟨k + 1, by omega, by go_num, HT.out.succ HX.out HY.out HS.out, HQ.out.trans (G2.out.mono HQ.out.size)⟩
      · have hke : k = la.length := by omega
        have HKE := Lib.hid hke; clear hke; go_wp2_with fail
        go_ret; exact ⟨ret_bool (by rw [HT.out.all HL.out HKE.out]), HQ.out⟩
  · have hd : ((la.length : Int) != (lb.length : Int)) = true := by simp; omega
    have HL := Lib.hid hlen; clear hlen; go_enter Tryz.func47, Tryz.ntmps47
    go_wp2_with fail
    go_ret; exact ⟨ret_bool (by rw [sameBy_len HL.out]), Below.refl _ _⟩
end Go.Proofs.YtoajfnfhphoaeaaGreatDoor
namespace Go.Proofs.YtoajfnfhphoaeaaGreatDoor
open Go.RowKit
theorem item_head {w : World} {L : List Value} {i : QItem} (h : ItemAt w L i) : ∃ A0 n0 k0 o1 s2 o3 A4 n4 k4 A5 n5 k5 A6 k6, L = [.slice A0 n0 k0, .int .i64 o1, .string s2, .int .i64 o3, .slice A4 n4 k4, .slice A5 n5 k5, .slice A6 i.states.length k6] ∧
    EqAt w [.slice A0 n0 k0, .int .i64 o1, .string s2, .int .i64 o3, .slice A4 n4 k4, .slice A5 n5 k5] i.eq ∧ i.states.length ≤ maxLen ∧ SliceAt w (StateAt w) (.slice A6 i.states.length k6) i.states := by
  obtain ⟨L', sv, rfl, h1, h2⟩ := h; obtain ⟨A0, n0, k0, o1, s2, o3, A4, n4, k4, A5, n5, k5, rfl⟩ := h1.shape; obtain ⟨A6, k6, rfl, hca, hma, hea⟩ := h2; exact ⟨_, _, _, _, _, _, _, _, _, _, _, _, _, _, rfl, h1, Nat.le_trans hca hma, _, _, rfl, hca, hma, hea⟩
theorem two_box {w w1 : World} {A B C D : Obj} (hb : Below ((((w.alloc A).alloc B).alloc C).alloc D).heap.size ((((w.alloc A).alloc B).alloc C).alloc D) w1) :
    w1.heap[w.heap.size]? = some A ∧ w1.heap[w.heap.size + 1]? = some B ∧ Below w.heap.size w w1 :=
  ⟨box_next hb (alloc_below (alloc_below (alloc_below (alloc_at rfl)))), box_next hb (alloc_below (alloc_below (alloc_at (by simp)))),
   ((((((Below.refl _ w).alloc (Nat.le_refl _) A).alloc (by simp) B).alloc (by simp; omega) C).alloc (by simp; omega) D).trans (hb.mono (by simp; omega)))⟩
theorem heap_drew_of {w : World} {n : Nat} {o : Obj} (h : w.heap[n]? = some o) : w.drew.heap[n]? = some o := h
theorem below_four {w : World} {A B C D : Obj} : Below w.heap.size w ((((w.alloc A).alloc B).alloc C).alloc D) :=
  ((((Below.refl _ w).alloc (Nat.le_refl _) A).alloc (by simp) B).alloc (by simp; omega) C).alloc (by simp; omega) D
set_option maxHeartbeats 2000000 in
set_option maxRecDepth 100000 in
theorem rSameItem_any {w0 : World} {x y : QItem} {L M : List Value} (hL : ItemAt w0 L x) (hM : ItemAt w0 M y) : ∀ w, Below w0.heap.size w0 w → Calls Tryz.prog 26 #[.agg L.toArray, .agg M.toArray] w (BoolPost (sameQItem x y) w) := by
  intro w hw; obtain ⟨A0, n0, k0, o1, s2, o3, A4, n4, k4, A5, n5, k5, A6, k6, rfl, hEA, hla, hSA⟩ := item_head hL; obtain ⟨B0, m0, j0, q1, r2, q3, B4, m4, j4, B5, m5, j5, B6, j6, rfl, hEB, hlb, hSB⟩ := item_head hM; have EA := Lib.hid hEA; have EB := Lib.hid hEB; have HW := Lib.hid hw; have hsz := hw.size; have hla : x.states.length ≤ 9223372036854775807 := (by unfold maxLen at hla; omega); have hlb : y.states.length ≤ 9223372036854775807 := (by unfold maxLen at hlb; omega); obtain ⟨A, ca, eA, hca, hma, hea⟩ := hSA; injection eA with e1 e2 e3; subst e1 e3; obtain ⟨B, cb, eB, hcb, hmb, heb⟩ := hSB; injection eB with e1 e2 e3; subst e1 e3; have HEA := Lib.hid hea; have HEB := Lib.hid heb; clear hL hM hEA hEB hw hca hma hcb hmb hea heb; cases hq : sameQEq x.eq y.eq
  · have HQE := Lib.hid hq; clear hq; go_enter Tryz.func26, Tryz.ntmps26
    go_wp2_with (go_at_call 47
                 refine (rSameEqs_any (made1 (alloc_below (alloc_at (by simp))) (EA.out.under (HW.out.trans (below_four.mono hsz))) rfl) (made1 (alloc_at (by simp)) (EB.out.under (HW.out.trans (below_four.mono hsz))) rfl) _ (Below.refl _ _)).mono ?_; rintro e w1 ⟨rfl, hb1⟩; rw [show sameBy sameQEq [x.eq] [y.eq] = false by simp [sameBy, HQE.out]]; obtain ⟨ba, bb, hbw⟩ := two_box hb1; obtain ⟨p0, p1, p2, p3, p4, p5, p6⟩ := row7 ba; obtain ⟨r0, r1, r2, r3, r4, r5, r6⟩ := row7 bb; have BA := Lib.hid ba; have BB := Lib.hid bb; have HB1 := Lib.hid hbw; clear hb1 ba bb hbw)
    go_ret; exact ⟨ret_bool (by rw [sameQItem, HQE.out, Bool.false_and]), HB1.out⟩
  · by_cases hlen : x.states.length = y.states.length
    · have hd : ((x.states.length : Int) != (y.states.length : Int)) = false := by simp [hlen]
      have HL := Lib.hid hlen; have HQE := Lib.hid hq; clear hlen hq; go_enter Tryz.func26, Tryz.ntmps26
      go_wp2_with (go_at_call 47
                   refine (rSameEqs_any (made1 (alloc_below (alloc_at (by simp))) (EA.out.under (HW.out.trans (below_four.mono hsz))) rfl) (made1 (alloc_at (by simp)) (EB.out.under (HW.out.trans (below_four.mono hsz))) rfl) _ (Below.refl _ _)).mono ?_; rintro e w1 ⟨rfl, hb1⟩; rw [show sameBy sameQEq [x.eq] [y.eq] = true by simp [sameBy, HQE.out]]; obtain ⟨ba, bb, hbw⟩ := two_box hb1; obtain ⟨p0, p1, p2, p3, p4, p5, p6⟩ := row7 ba; obtain ⟨r0, r1, r2, r3, r4, r5, r6⟩ := row7 bb; have BA := Lib.hid ba; have BB := Lib.hid bb; have HB1 := Lib.hid hbw; clear hb1 ba bb hbw)
      clear p0 p1 p2 p3 p4 p5 p6 r0 r1 r2 r3 r4 r5 r6; go_loopg [5] x.states.length (fun g v wr => ∃ k : Nat, k + g = x.states.length ∧ v = .int .i64 k ∧ SameTo sameQState x.states y.states k ∧ Below w1.heap.size w1 wr)
      case atStart => exact ⟨0, by omega, rfl, SameTo.zero, Below.refl _ _⟩
      case round =>
        obtain ⟨k, hkg, rfl, hto, hbw⟩ := hrel; obtain ⟨wq, rfl⟩ : ∃ W, W = wr := ⟨_, rfl⟩; have HK := Lib.hid hkg; have HT := Lib.hid hto; have HW1 := Lib.hid hbw; have HQ := Lib.hid (HB1.out.trans (hbw.mono HB1.out.size)); have HBQ := Lib.hid (HW.out.trans (HQ.out.mono hsz)); have ba := box_next hbw BA.out; have bb := box_next hbw BB.out; obtain ⟨p0, p1, p2, p3, p4, p5, p6⟩ := row7 ba; obtain ⟨r0, r1, r2, r3, r4, r5, r6⟩ := row7 bb; have hkl : k ≤ x.states.length := (by omega); clear hkg hto hbw; by_cases hlt : k < x.states.length
        · have hlt2 : k < y.states.length := by have := HL.out; omega
          obtain ⟨s, hs⟩ : ∃ s, x.states[k]? = some s := ⟨_, List.getElem?_eq_getElem hlt⟩; obtain ⟨t, ht⟩ : ∃ t, y.states[k]? = some t := ⟨_, List.getElem?_eq_getElem hlt2⟩; obtain ⟨X, hEX, hRX⟩ := HEA.out k s hs; obtain ⟨Y, hEY, hRY⟩ := HEB.out k t ht; obtain ⟨ev, wv, rfl, _, hev, hwv⟩ := hRX; obtain ⟨fv, vv, rfl, _, hfv, hvv⟩ := hRY; obtain ⟨C1, c1, g1, rfl⟩ := SliceAt.shape hev; obtain ⟨C2, c2, g2, rfl⟩ := SliceAt.shape hwv; obtain ⟨D1, d1, h1, rfl⟩ := SliceAt.shape hfv; obtain ⟨D2, d2, h2, rfl⟩ := SliceAt.shape hvv; obtain ⟨a1, rfl, hab, haa, x0, x1, x2⟩ := elem3 (hEX.under HBQ.out); obtain ⟨b1, rfl, hbb, hba, y0, y1, y2⟩ := elem3 (hEY.under HBQ.out); go_wp2_with fail
          go_cut [6, 7] from 33 to 42 (fun s6 s7 wc => ∃ i6 i7 : Nat, s6 = .pointer (some ⟨i6, 0, none⟩) ∧ s7 = .pointer (some ⟨i7, 0, none⟩) ∧ Below wq.heap.size wq wc ∧ wc.heap[i6]? = some (.cells #[.string (str s.name), .slice C1 c1 g1, .slice C2 c2 g2] 112 (0, 0)) ∧ wc.heap[i7]? = some (.cells #[.string (str t.name), .slice D1 d1 h1, .slice D2 d2 h2] 112 (0, 0)))
          case first =>
            refine wp_region_held_drew (S := (fun W => W.cell? ⟨w.heap.size, 6, none⟩ = some (.slice (some a1) x.states.length k6) ∧ W.cell? ⟨w.heap.size + 1, 6, none⟩ = some (.slice (some b1) y.states.length j6) ∧ W.cell? (a1.add (k * 3)) = some (.string (str s.name)) ∧ W.cell? { block := (a1.add (k * 3)).block, off := (a1.add (k * 3)).off + 1 } = some (.slice C1 c1 g1) ∧ W.cell? { block := (a1.add (k * 3)).block, off := (a1.add (k * 3)).off + 2 } = some (.slice C2 c2 g2) ∧ W.cell? (b1.add (k * 3)) = some (.string (str t.name)) ∧ W.cell? { block := (b1.add (k * 3)).block, off := (b1.add (k * 3)).off + 1 } = some (.slice D1 d1 h1) ∧ W.cell? { block := (b1.add (k * 3)).block, off := (b1.add (k * 3)).off + 2 } = some (.slice D2 d2 h2))) (by kernel_rfl) ?_ (fun hHeld => ?_)
            · (try dsimp only); go_keep
            refine take_now 0 rfl ?_; try simp only [Act.put, setA, setZ, setS]
            refine take_now 1 rfl ?_; try simp only [Act.put, setA, setZ, setS]
            refine take_now 2 rfl ?_; try simp only [Act.put, setA, setZ, setS]
            refine take_now 3 rfl ?_; try simp only [Act.put, setA, setZ, setS]
            refine take_now 4 rfl ?_; try simp only [Act.put, setA, setZ, setS]
            refine take_now 5 rfl ?_; try simp only [Act.put, setA, setZ, setS]
            refine take_now 6 rfl ?_; try simp only [Act.put, setA, setZ, setS]
            refine take_now 7 rfl ?_; try simp only [Act.put, setA, setZ, setS]
            refine take_now 8 rfl ?_; try simp only [Act.put, setA, setZ, setS]
            refine take_now 9 rfl ?_; try simp only [Act.put, setA, setZ, setS]
            refine wpAnyH_ready (rs := [10, 11]) (by kernel_rfl) (by simp) (cons_at 10 rfl (fun K hK => ?_) (cons_at 11 rfl (fun K hK => ?_) AllReadyH.nil))
            · go_simp
              refine hK.out _ _ ?_ (fun hHeld => ?_)
              · (try dsimp only); go_keep
              clear hK K; try simp only [Act.put, setA, setZ, setS]
              refine only_at 11 (by kernel_rfl) rfl (fun K hK => ?_); go_simp
              refine hK.out _ _ ?_ (fun hHeld => ?_)
              · (try dsimp only); go_keep
              clear hK K; try simp only [Act.put, setA, setZ, setS]
              refine only_at 12 (by kernel_rfl) rfl (fun K hK => ?_); go_simp
              refine hK.out _ _ ?_ (fun hHeld => ?_)
              · (try dsimp only); go_keep
              clear hK K; try simp only [Act.put, setA, setZ, setS]
              refine only_at 13 (by kernel_rfl) rfl (fun K hK => ?_); go_simp
              refine hK.out _ _ ?_ (fun hHeld => ?_)
              · (try dsimp only); go_keep
              clear hK K; try simp only [Act.put, setA, setZ, setS]
              refine wpAnyH_done (by kernel_rfl) ?_ _; go_wp2_with fail
              go_meet
              case rel => exact ⟨_, _, rfl, rfl, (((Below.refl _ wq).alloc (Nat.le_refl _) _).alloc (by simp) _).drew, heap_drew_of (alloc_below (alloc_at rfl)), heap_drew_of (alloc_at (by simp))⟩
            · go_simp
              refine hK.out _ _ ?_ (fun hHeld => ?_)
              · (try dsimp only); go_keep
              clear hK K; try simp only [Act.put, setA, setZ, setS]
              refine only_at 10 (by kernel_rfl) rfl (fun K hK => ?_); go_simp
              refine hK.out _ _ ?_ (fun hHeld => ?_)
              · (try dsimp only); go_keep
              clear hK K; try simp only [Act.put, setA, setZ, setS]
              refine only_at 12 (by kernel_rfl) rfl (fun K hK => ?_); go_simp
              refine hK.out _ _ ?_ (fun hHeld => ?_)
              · (try dsimp only); go_keep
              clear hK K; try simp only [Act.put, setA, setZ, setS]
              refine only_at 13 (by kernel_rfl) rfl (fun K hK => ?_); go_simp
              refine hK.out _ _ ?_ (fun hHeld => ?_)
              · (try dsimp only); go_keep
              clear hK K; try simp only [Act.put, setA, setZ, setS]
              refine wpAnyH_done (by kernel_rfl) ?_ _; go_wp2_with fail
              go_meet
              case rel => exact ⟨_, _, rfl, rfl, (((Below.refl _ wq).alloc (Nat.le_refl _) _).alloc (by simp) _).drew, heap_drew_of (alloc_at (by simp)), heap_drew_of (alloc_below (alloc_at rfl))⟩
          case rest =>
            obtain ⟨i6, i7, rfl, rfl, hbz, hb6, hb7⟩ := hcut; obtain ⟨Z, rfl⟩ : ∃ W, W = wc := ⟨_, rfl⟩; have HZQ := Lib.hid hbz; have HZ := Lib.hid (HQ.out.trans (hbz.mono HQ.out.size)); have HBZ := Lib.hid (HBQ.out.trans (hbz.mono HBQ.out.size)); have B6 := Lib.hid hb6; have B7 := Lib.hid hb7; obtain ⟨s0, s1, s2⟩ := row3 hb6; obtain ⟨t0, t1, t2⟩ := row3 hb7; have HS := Lib.hid hs; have HT2 := Lib.hid ht; have HE := Lib.hid (rSameEqs_any hev hfv); clear hbz hb6 hb7 hs ht hev hfv p0 p1 p2 p3 p4 p5 p6 r0 r1 r2 r3 r4 r5 r6 x0 x1 x2 y0 y1 y2 hEX hEY; have NO : ∀ {b : Bool}, sameQState s t = b → b = false → sameQItem x y = false := fun h1 h2 => by
              rw [sameQItem, sameBy_no HS.out HT2.out (h1.trans h2), Bool.and_false]
            have NO := Lib.hid (fun h => @NO false h rfl); by_cases e1 : s.name = t.name
            · have f1 : ((str s.name).toList != (str t.name).toList) = false := by rw [e1]; simp
              have f2 : ((str s.name).toList == (str t.name).toList) = true := (by rw [e1]; simp); have E1 := Lib.hid e1; clear e1; cases e2 : sameBy sameQEq s.eqs t.eqs
              · have E2 := Lib.hid e2; rw [e2] at HE; clear e2
                go_wp2_with (go_at_call 47
                             refine (HE.out _ HBZ.out).mono ?_; rintro e w7 ⟨rfl, hb7⟩; obtain ⟨z7, rfl⟩ : ∃ W, W = w7 := ⟨_, rfl⟩; have G1 := Lib.hid hb7; clear hb7)
                go_ret; exact ⟨ret_bool (by rw [NO.out (by rw [sameQState, E2.out, Bool.false_and, Bool.and_false])]), HZ.out.trans (G1.out.mono HZ.out.size)⟩
              · have E2 := Lib.hid e2; rw [e2] at HE; clear e2; obtain ⟨C, cc, eC, hcc, hmc, hec⟩ := hwv; injection eC with q1 q2 q3; subst q1 q2 q3; obtain ⟨D, cd, eD, hcd, hmd, hed⟩ := hvv; injection eD with q1 q2 q3; subst q1 q2 q3; have hlc : s.ways.length ≤ 9223372036854775807 := (by unfold maxLen at hmc; omega); have hld : t.ways.length ≤ 9223372036854775807 := (by unfold maxLen at hmd; omega); have HEC := Lib.hid hec; have HED := Lib.hid hed; clear hcc hmc hec hcd hmd hed; by_cases e3 : s.ways.length = t.ways.length
                · have f3 : ((s.ways.length : Int) != (t.ways.length : Int)) = false := by simp [e3]
                  have E3 := Lib.hid e3; clear e3
                  go_wp2_with (go_at_call 47
                               refine (HE.out _ HBZ.out).mono ?_; rintro e w7 ⟨rfl, hb7⟩; obtain ⟨z7, rfl⟩ : ∃ W, W = w7 := ⟨_, rfl⟩; have G1 := Lib.hid hb7; obtain ⟨s0, s1, s2⟩ := row3 (box_next hb7 B6.out); obtain ⟨t0, t1, t2⟩ := row3 (box_next hb7 B7.out); clear hb7)
                  clear s0 s1 s2 t0 t1 t2; go_loopg [8] s.ways.length (fun g v wr => ∃ j : Nat, j + g = s.ways.length ∧ v = .int .i64 j ∧ SameTo sameQWay s.ways t.ways j ∧ Below z7.heap.size z7 wr)
                  case atStart => exact ⟨0, by omega, rfl, SameTo.zero, Below.refl _ _⟩
                  case round =>
                    obtain ⟨j, hjg, rfl, hto, hbw⟩ := hrel; obtain ⟨wy, rfl⟩ : ∃ W, W = wr := ⟨_, rfl⟩; have JK := Lib.hid hjg; have JT := Lib.hid hto; have JW := Lib.hid hbw; have JQ := Lib.hid (HZ.out.trans ((G1.out.trans (hbw.mono G1.out.size)).mono HZ.out.size)); have JB := Lib.hid (HW.out.trans (JQ.out.mono hsz)); have b6 := box_next hbw (box_next G1.out B6.out); have b7 := box_next hbw (box_next G1.out B7.out); obtain ⟨s0, s1, s2⟩ := row3 b6; obtain ⟨t0, t1, t2⟩ := row3 b7; have hjl : j ≤ s.ways.length := (by omega); have BY6 := Lib.hid b6; have BY7 := Lib.hid b7; clear hjg hto hbw b6 b7; by_cases hlt3 : j < s.ways.length
                    · have hlt4 : j < t.ways.length := by have := E3.out; omega
                      obtain ⟨u, hu⟩ : ∃ u, s.ways[j]? = some u := ⟨_, List.getElem?_eq_getElem hlt3⟩; obtain ⟨v, hv⟩ : ∃ v, t.ways[j]? = some v := ⟨_, List.getElem?_eq_getElem hlt4⟩; obtain ⟨U, hEU, U', rfl, hRU, _⟩ := HEC.out j u hu; obtain ⟨V, hEV, V', rfl, hRV, _⟩ := HED.out j v hv; have HF := Lib.hid (rSameExpr_any u.cond v.cond _ _ hRU hRV); obtain ⟨po0, ps1, po2, pA3, pn3, pk3, pA4, pn4, pk4, rfl⟩ := hRU.shape; obtain ⟨qo0, qs1, qo2, qA3, qn3, qk3, qA4, qn4, qk4, rfl⟩ := hRV.shape; have EU := Lib.hid hEU; have EV := Lib.hid hEV; obtain ⟨c2, rfl, hcb, hca, u0, u1, u2, u3, u4, u5⟩ := elem6 (hEU.under JB.out); obtain ⟨d2, rfl, hdb, hda, v0, v1, v2, v3, v4, v5⟩ := elem6 (hEV.under JB.out); have HU := Lib.hid hu; have HV := Lib.hid hv; clear hu hv hEU hEV hRU hRV; by_cases e4 : u.to = v.to
                      · have f4 : ((str u.to).toList != (str v.to).toList) = false := by rw [e4]; simp
                        have f5 : ((str u.to).toList == (str v.to).toList) = true := (by rw [e4]; simp); have E4 := Lib.hid e4; clear e4; cases e5 : sameX u.cond v.cond; all_goals
                          have E5 := Lib.hid e5; rw [e5] at HF; clear e5; go_wp2_with fail
                          refine wp_region_held_drew (S := (fun W => W.cell? ⟨i6, 2, none⟩ = some (.slice (some c2) s.ways.length g2) ∧ W.cell? ⟨i7, 2, none⟩ = some (.slice (some d2) t.ways.length h2) ∧ W.cell? (c2.add (j * 6)) = some (.int .i64 po0) ∧ W.cell? { block := (c2.add (j * 6)).block, off := (c2.add (j * 6)).off + 1 } = some (.string ps1) ∧ W.cell? { block := (c2.add (j * 6)).block, off := (c2.add (j * 6)).off + 2 } = some (.int .i64 po2) ∧ W.cell? { block := (c2.add (j * 6)).block, off := (c2.add (j * 6)).off + 3 } = some (.slice pA3 pn3 pk3) ∧ W.cell? { block := (c2.add (j * 6)).block, off := (c2.add (j * 6)).off + 4 } = some (.slice pA4 pn4 pk4) ∧ W.cell? { block := (c2.add (j * 6)).block, off := (c2.add (j * 6)).off + 5 } = some (.string (str u.to)) ∧ W.cell? (d2.add (j * 6)) = some (.int .i64 qo0) ∧ W.cell? { block := (d2.add (j * 6)).block, off := (d2.add (j * 6)).off + 1 } = some (.string qs1) ∧ W.cell? { block := (d2.add (j * 6)).block, off := (d2.add (j * 6)).off + 2 } = some (.int .i64 qo2) ∧ W.cell? { block := (d2.add (j * 6)).block, off := (d2.add (j * 6)).off + 3 } = some (.slice qA3 qn3 qk3) ∧ W.cell? { block := (d2.add (j * 6)).block, off := (d2.add (j * 6)).off + 4 } = some (.slice qA4 qn4 qk4) ∧ W.cell? { block := (d2.add (j * 6)).block, off := (d2.add (j * 6)).off + 5 } = some (.string (str v.to)))) (by kernel_rfl) ?_ (fun hHeld => ?_)
                          · (try dsimp only); go_keep
                          refine take_now 0 rfl ?_; try simp only [Act.put, setA, setZ, setS]
                          refine take_now 1 rfl ?_; try simp only [Act.put, setA, setZ, setS]
                          refine take_now 2 rfl ?_; try simp only [Act.put, setA, setZ, setS]
                          refine take_now 3 rfl ?_; try simp only [Act.put, setA, setZ, setS]
                          refine take_now 4 rfl ?_; try simp only [Act.put, setA, setZ, setS]
                          refine take_now 5 rfl ?_; try simp only [Act.put, setA, setZ, setS]
                          refine take_now 6 rfl ?_; try simp only [Act.put, setA, setZ, setS]
                          refine take_now 7 rfl ?_; try simp only [Act.put, setA, setZ, setS]
                          refine take_now 8 rfl ?_; try simp only [Act.put, setA, setZ, setS]
                          refine take_now 9 rfl ?_; try simp only [Act.put, setA, setZ, setS]
                          refine take_now 10 rfl ?_; try simp only [Act.put, setA, setZ, setS]
                          refine take_now 11 rfl ?_; try simp only [Act.put, setA, setZ, setS]
                          refine take_now 12 rfl ?_; try simp only [Act.put, setA, setZ, setS]
                          refine take_now 13 rfl ?_; try simp only [Act.put, setA, setZ, setS]
                          refine take_now 14 rfl ?_; try simp only [Act.put, setA, setZ, setS]
                          refine take_now 15 rfl ?_; try simp only [Act.put, setA, setZ, setS]
                          refine take_now 16 rfl ?_; try simp only [Act.put, setA, setZ, setS]
                          refine take_now 17 rfl ?_; try simp only [Act.put, setA, setZ, setS]
                          refine take_now 18 rfl ?_; try simp only [Act.put, setA, setZ, setS]
                          refine take_now 19 rfl ?_; try simp only [Act.put, setA, setZ, setS]
                          refine take_now 20 rfl ?_; try simp only [Act.put, setA, setZ, setS]
                          refine take_now 21 rfl ?_; try simp only [Act.put, setA, setZ, setS]
                          refine take_now 22 rfl ?_; try simp only [Act.put, setA, setZ, setS]
                          refine take_now 23 rfl ?_; try simp only [Act.put, setA, setZ, setS]
                          refine take_now 24 rfl ?_; try simp only [Act.put, setA, setZ, setS]
                          refine take_now 25 rfl ?_; try simp only [Act.put, setA, setZ, setS]
                          refine only_at 26 (by kernel_rfl) rfl (fun K hK => ?_); go_simp
                          (go_at_call 15
                           (with_reducible refine (HF.out _ (JB.out.drew)).mono ?_); rintro e w7 ⟨rfl, hb7⟩; obtain ⟨y7, rfl⟩ : ∃ W, W = w7 := ⟨_, rfl⟩; have G2 := Lib.hid ((Below.refl wy.heap.size wy).drew.trans hb7); obtain ⟨_, ea, _, _, u0, u1, u2, u3, u4, u5⟩ := elem6 (EU.out.under (JB.out.trans (G2.out.mono JB.out.size))); obtain rfl := Option.some.inj ea; obtain ⟨_, eb, _, _, v0, v1, v2, v3, v4, v5⟩ := elem6 (EV.out.under (JB.out.trans (G2.out.mono JB.out.size))); obtain rfl := Option.some.inj eb; obtain ⟨s0, s1, s2⟩ := row3 (box_next G2.out BY6.out); obtain ⟨t0, t1, t2⟩ := row3 (box_next G2.out BY7.out); clear hb7 ea eb)
                          refine hK.out _ _ ?_ (fun hHeld => ?_)
                          · (try dsimp only); go_keep
                          clear hK K; try simp only [Act.put, setA, setZ, setS]
                          refine take_now 27 rfl ?_; try simp only [Act.put, setA, setZ, setS]
                          refine take_now 28 rfl ?_; try simp only [Act.put, setA, setZ, setS]
                          refine wpAnyH_done (by kernel_rfl) ?_ _; go_wp2_with fail
                        · go_ret; exact ⟨ret_bool (by rw [NO.out (by rw [sameQState, sameBy_no (f := sameQWay) HU.out HV.out (by rw [sameQWay, E5.out, Bool.and_false]), Bool.and_false, Bool.and_false])]), JQ.out.trans (G2.out.mono JQ.out.size)⟩
                        · go_roundg (s.ways.length - (j + 1))
                          case measure => have := JK.out; omega
                          case rel => exact ⟨j + 1, by omega, by go_num, JT.out.succ HU.out HV.out (by rw [sameQWay, E5.out, E4.out]; simp), JW.out.trans (G2.out.mono JW.out.size)⟩
                      · have f4 : ((str u.to).toList != (str v.to).toList) = true := by rw [str_toL, str_toL]; simpa using e4
                        have f5 : ((str u.to).toList == (str v.to).toList) = false := (by rw [str_toL, str_toL]; simpa using e4); have E4 := Lib.hid e4; clear e4; go_wp2_with fail
                        refine wp_region_held_drew (S := (fun W => W.cell? ⟨i6, 2, none⟩ = some (.slice (some c2) s.ways.length g2) ∧ W.cell? ⟨i7, 2, none⟩ = some (.slice (some d2) t.ways.length h2) ∧ W.cell? (c2.add (j * 6)) = some (.int .i64 po0) ∧ W.cell? { block := (c2.add (j * 6)).block, off := (c2.add (j * 6)).off + 1 } = some (.string ps1) ∧ W.cell? { block := (c2.add (j * 6)).block, off := (c2.add (j * 6)).off + 2 } = some (.int .i64 po2) ∧ W.cell? { block := (c2.add (j * 6)).block, off := (c2.add (j * 6)).off + 3 } = some (.slice pA3 pn3 pk3) ∧ W.cell? { block := (c2.add (j * 6)).block, off := (c2.add (j * 6)).off + 4 } = some (.slice pA4 pn4 pk4) ∧ W.cell? { block := (c2.add (j * 6)).block, off := (c2.add (j * 6)).off + 5 } = some (.string (str u.to)) ∧ W.cell? (d2.add (j * 6)) = some (.int .i64 qo0) ∧ W.cell? { block := (d2.add (j * 6)).block, off := (d2.add (j * 6)).off + 1 } = some (.string qs1) ∧ W.cell? { block := (d2.add (j * 6)).block, off := (d2.add (j * 6)).off + 2 } = some (.int .i64 qo2) ∧ W.cell? { block := (d2.add (j * 6)).block, off := (d2.add (j * 6)).off + 3 } = some (.slice qA3 qn3 qk3) ∧ W.cell? { block := (d2.add (j * 6)).block, off := (d2.add (j * 6)).off + 4 } = some (.slice qA4 qn4 qk4) ∧ W.cell? { block := (d2.add (j * 6)).block, off := (d2.add (j * 6)).off + 5 } = some (.string (str v.to)))) (by kernel_rfl) ?_ (fun hHeld => ?_)
                        · (try dsimp only); go_keep
                        refine take_now 0 rfl ?_; try simp only [Act.put, setA, setZ, setS]
                        refine take_now 1 rfl ?_; try simp only [Act.put, setA, setZ, setS]
                        refine take_now 2 rfl ?_; try simp only [Act.put, setA, setZ, setS]
                        refine take_now 3 rfl ?_; try simp only [Act.put, setA, setZ, setS]
                        refine take_now 4 rfl ?_; try simp only [Act.put, setA, setZ, setS]
                        refine take_now 5 rfl ?_; try simp only [Act.put, setA, setZ, setS]
                        refine take_now 6 rfl ?_; try simp only [Act.put, setA, setZ, setS]
                        refine take_now 7 rfl ?_; try simp only [Act.put, setA, setZ, setS]
                        refine take_now 8 rfl ?_; try simp only [Act.put, setA, setZ, setS]
                        refine take_now 9 rfl ?_; try simp only [Act.put, setA, setZ, setS]
                        refine take_now 10 rfl ?_; try simp only [Act.put, setA, setZ, setS]
                        refine take_now 11 rfl ?_; try simp only [Act.put, setA, setZ, setS]
                        refine take_now 12 rfl ?_; try simp only [Act.put, setA, setZ, setS]
                        refine take_now 13 rfl ?_; try simp only [Act.put, setA, setZ, setS]
                        refine skip_now 14 rfl ?_; try simp only [Act.put, setA, setZ, setS]
                        refine skip_now 15 rfl ?_; try simp only [Act.put, setA, setZ, setS]
                        refine skip_now 16 rfl ?_; try simp only [Act.put, setA, setZ, setS]
                        refine skip_now 17 rfl ?_; try simp only [Act.put, setA, setZ, setS]
                        refine skip_now 18 rfl ?_; try simp only [Act.put, setA, setZ, setS]
                        refine skip_now 19 rfl ?_; try simp only [Act.put, setA, setZ, setS]
                        refine skip_now 20 rfl ?_; try simp only [Act.put, setA, setZ, setS]
                        refine skip_now 21 rfl ?_; try simp only [Act.put, setA, setZ, setS]
                        refine skip_now 22 rfl ?_; try simp only [Act.put, setA, setZ, setS]
                        refine skip_now 23 rfl ?_; try simp only [Act.put, setA, setZ, setS]
                        refine skip_now 24 rfl ?_; try simp only [Act.put, setA, setZ, setS]
                        refine skip_now 25 rfl ?_; try simp only [Act.put, setA, setZ, setS]
                        refine skip_now 26 rfl ?_; try simp only [Act.put, setA, setZ, setS]
                        refine skip_now 27 rfl ?_; try simp only [Act.put, setA, setZ, setS]
                        refine take_now 28 rfl ?_; try simp only [Act.put, setA, setZ, setS]
                        refine wpAnyH_done (by kernel_rfl) ?_ _; go_wp2_with fail
                        go_ret; exact ⟨ret_bool (by rw [NO.out (by rw [sameQState, sameBy_no (f := sameQWay) HU.out HV.out (by rw [sameQWay, show (u.to == v.to) = false by simpa using E4.out, Bool.false_and]), Bool.and_false, Bool.and_false])]), JQ.out.drew⟩
                    · have hje : j = s.ways.length := by omega
                      have HJE := Lib.hid hje; clear hje; go_wp2_with fail
                      go_roundg (x.states.length - (k + 1))
                      case measure => have := HK.out; omega
                      case rel => exact ⟨k + 1, by omega, by go_num, HT.out.succ HS.out HT2.out (by rw [sameQState, E1.out, E2.out, JT.out.all E3.out HJE.out]; simp), HW1.out.trans ((HZQ.out.trans ((G1.out.trans (JW.out.mono G1.out.size)).mono HZQ.out.size)).mono HW1.out.size)⟩
                · have f3 : ((s.ways.length : Int) != (t.ways.length : Int)) = true := by simp; omega
                  have E3 := Lib.hid e3; clear e3
                  go_wp2_with (go_at_call 47
                               refine (HE.out _ HBZ.out).mono ?_; rintro e w7 ⟨rfl, hb7⟩; obtain ⟨z7, rfl⟩ : ∃ W, W = w7 := ⟨_, rfl⟩; have G1 := Lib.hid hb7; obtain ⟨s0, s1, s2⟩ := row3 (box_next hb7 B6.out); obtain ⟨t0, t1, t2⟩ := row3 (box_next hb7 B7.out); clear hb7)
                  go_ret; exact ⟨ret_bool (by rw [NO.out (by rw [sameQState, sameBy_len (f := sameQWay) E3.out, Bool.and_false, Bool.and_false])]), HZ.out.trans (G1.out.mono HZ.out.size)⟩
            · have f1 : ((str s.name).toList != (str t.name).toList) = true := by rw [str_toL, str_toL]; simpa using e1
              have f2 : ((str s.name).toList == (str t.name).toList) = false := (by rw [str_toL, str_toL]; simpa using e1); have E1 := Lib.hid e1; clear e1; go_wp2_with fail
              go_ret; exact ⟨ret_bool (by rw [NO.out (by rw [sameQState, show (s.name == t.name) = false by simpa using E1.out, Bool.false_and])]), HZ.out⟩
        · have hke : k = x.states.length := by omega
          have HKE := Lib.hid hke; clear hke; go_wp2_with fail
          go_ret; exact ⟨ret_bool (by rw [sameQItem, HQE.out, HT.out.all HL.out HKE.out]; rfl), HQ.out⟩
    · have hd : ((x.states.length : Int) != (y.states.length : Int)) = true := by simp; omega
      have HL := Lib.hid hlen; have HQE := Lib.hid hq; clear hlen hq; go_enter Tryz.func26, Tryz.ntmps26
      go_wp2_with (go_at_call 47
                   refine (rSameEqs_any (made1 (alloc_below (alloc_at (by simp))) (EA.out.under (HW.out.trans (below_four.mono hsz))) rfl) (made1 (alloc_at (by simp)) (EB.out.under (HW.out.trans (below_four.mono hsz))) rfl) _ (Below.refl _ _)).mono ?_; rintro e w1 ⟨rfl, hb1⟩; rw [show sameBy sameQEq [x.eq] [y.eq] = true by simp [sameBy, HQE.out]]; obtain ⟨ba, bb, hbw⟩ := two_box hb1; obtain ⟨p0, p1, p2, p3, p4, p5, p6⟩ := row7 ba; obtain ⟨r0, r1, r2, r3, r4, r5, r6⟩ := row7 bb; have BA := Lib.hid ba; have BB := Lib.hid bb; have HB1 := Lib.hid hbw; clear hb1 ba bb hbw)
      go_ret; exact ⟨ret_bool (by rw [sameQItem, sameBy_len HL.out, Bool.and_false]), HB1.out⟩
end Go.Proofs.YtoajfnfhphoaeaaGreatDoor
namespace Go.Proofs.YtoajfnfhphoaeaaGreatDoor
open Go.RowKit
set_option maxHeartbeats 4000000 in
set_option maxRecDepth 100000 in
theorem rSame_any {w0 : World} {p q : QProg} {L M : List Value} (hL : ProgAt w0 L p) (hM : ProgAt w0 M q) : ∀ w, Below w0.heap.size w0 w → Calls Tryz.prog 11 #[.agg L.toArray, .agg M.toArray] w (BoolPost (sameQProg p q) w) := by
  intro w hw; obtain ⟨ev, nv, rfl, ⟨A, ka, rfl, hca, hma, hea⟩, ⟨C, la, rfl, hcc, hmc, hec⟩⟩ := hL; obtain ⟨fv, mv, rfl, ⟨B, kb, rfl, hcb, hmb, heb⟩, ⟨D, lb, rfl, hcd, hmd, hed⟩⟩ := hM; have h1 : p.enums.length ≤ 9223372036854775807 := (by unfold maxLen at hma; omega); have h2 : q.enums.length ≤ 9223372036854775807 := (by unfold maxLen at hmb; omega); have h3 : p.nodes.length ≤ 9223372036854775807 := (by unfold maxLen at hmc; omega); have h4 : q.nodes.length ≤ 9223372036854775807 := (by unfold maxLen at hmd; omega); have HEA := Lib.hid hea; have HEB := Lib.hid heb; have HEC := Lib.hid hec; have HED := Lib.hid hed; have HW := Lib.hid hw; have hsz := hw.size; clear hw hca hma hcb hmb hea heb hcc hmc hcd hmd hec hed; by_cases e0 : p.enums.length = q.enums.length
  · have f0 : ((p.enums.length : Int) != (q.enums.length : Int)) = false := by simp [e0]
    have E0 := Lib.hid e0; clear e0; by_cases e9 : p.nodes.length = q.nodes.length
    · have f9 : ((p.nodes.length : Int) != (q.nodes.length : Int)) = false := by simp [e9]
      have E9 := Lib.hid e9; clear e9; go_enter Tryz.func11, Tryz.ntmps11
      go_wp2_with fail
      generalize hV : (w.alloc (.cells #[.slice A p.enums.length ka, .slice C p.nodes.length la] 25)).alloc (.cells #[.slice B q.enums.length kb, .slice D q.nodes.length lb] 25) = V; have BA := Lib.hid (show V.heap[w.heap.size]? = some (.cells #[.slice A p.enums.length ka, .slice C p.nodes.length la] 25 (0, 0)) by rw [← hV]; exact alloc_below (alloc_at rfl)); have BB := Lib.hid (show V.heap[w.heap.size + 1]? = some (.cells #[.slice B q.enums.length kb, .slice D q.nodes.length lb] 25 (0, 0)) by rw [← hV]; exact alloc_at (by simp)); have HV := Lib.hid (show Below w.heap.size w V by rw [← hV]; exact ((Below.refl _ w).alloc (Nat.le_refl _) _).alloc (by simp) _); clear hV; go_loopg [5] p.enums.length (fun g v wr => ∃ k : Nat, k + g = p.enums.length ∧ v = .int .i64 k ∧ SameTo sameQEnum p.enums q.enums k ∧ Below V.heap.size V wr)
      case atStart => exact ⟨0, by omega, rfl, SameTo.zero, Below.refl _ _⟩
      case round =>
        obtain ⟨k, hkg, rfl, hto, hbw⟩ := hrel; obtain ⟨wq, rfl⟩ : ∃ W, W = wr := ⟨_, rfl⟩; have HK := Lib.hid hkg; have HT := Lib.hid hto; have HVQ := Lib.hid hbw; have HQ := Lib.hid (HV.out.trans (hbw.mono HV.out.size)); have HBQ := Lib.hid (HW.out.trans (HQ.out.mono hsz)); have ba := box_next hbw BA.out; have bb := box_next hbw BB.out; obtain ⟨p0, p1⟩ := row2 ba; obtain ⟨r0, r1⟩ := row2 bb; have BAQ := Lib.hid ba; have BBQ := Lib.hid bb; have hkl : k ≤ p.enums.length := (by omega); clear hkg hto hbw ba bb; by_cases hlt : k < p.enums.length
        · have hlt2 : k < q.enums.length := by have := E0.out; omega
          obtain ⟨x, hx⟩ : ∃ x, p.enums[k]? = some x := ⟨_, List.getElem?_eq_getElem hlt⟩; obtain ⟨y, hy⟩ : ∃ y, q.enums[k]? = some y := ⟨_, List.getElem?_eq_getElem hlt2⟩; obtain ⟨X, hEX, cv, rfl, _, hcv⟩ := HEA.out k x hx; obtain ⟨Y, hEY, dv, rfl, _, hdv⟩ := HEB.out k y hy; have HN := Lib.hid (rSameNames_any hcv hdv); obtain ⟨X1, n1, k1, rfl⟩ := SliceAt.shape hcv; obtain ⟨Y1, m1, j1, rfl⟩ := SliceAt.shape hdv; have EX := Lib.hid hEX; have EY := Lib.hid hEY; obtain ⟨a1, rfl, hab, haa, x0, x1⟩ := elem2 (hEX.under HBQ.out); obtain ⟨b1, rfl, hbb, hba, y0, y1⟩ := elem2 (hEY.under HBQ.out); have HX := Lib.hid hx; have HY := Lib.hid hy; clear hx hy hEX hEY hcv hdv; by_cases e4 : x.name = y.name
          · have f4 : ((str x.name).toList != (str y.name).toList) = false := by rw [e4]; simp
            have f5 : ((str x.name).toList == (str y.name).toList) = true := (by rw [e4]; simp); have E4 := Lib.hid e4; clear e4; cases e5 : x.cons == y.cons; all_goals
              have E5 := Lib.hid e5; rw [e5] at HN; clear e5; go_wp2_with fail
              refine wp_region_held_drew (S := (fun W => W.cell? ⟨w.heap.size, 0, none⟩ = some (.slice (some a1) p.enums.length ka) ∧ W.cell? ⟨w.heap.size + 1, 0, none⟩ = some (.slice (some b1) q.enums.length kb) ∧ W.cell? (a1.add (k * 2)) = some (.string (str x.name)) ∧ W.cell? { block := (a1.add (k * 2)).block, off := (a1.add (k * 2)).off + 1 } = some (.slice X1 n1 k1) ∧ W.cell? (b1.add (k * 2)) = some (.string (str y.name)) ∧ W.cell? { block := (b1.add (k * 2)).block, off := (b1.add (k * 2)).off + 1 } = some (.slice Y1 m1 j1))) (by kernel_rfl) ?_ (fun hHeld => ?_)
              · (try dsimp only); go_keep
              refine take_now 0 rfl ?_; try simp only [Act.put, setA, setZ, setS]
              refine take_now 1 rfl ?_; try simp only [Act.put, setA, setZ, setS]
              refine take_now 2 rfl ?_; try simp only [Act.put, setA, setZ, setS]
              refine take_now 3 rfl ?_; try simp only [Act.put, setA, setZ, setS]
              refine take_now 4 rfl ?_; try simp only [Act.put, setA, setZ, setS]
              refine take_now 5 rfl ?_; try simp only [Act.put, setA, setZ, setS]
              refine take_now 6 rfl ?_; try simp only [Act.put, setA, setZ, setS]
              refine take_now 7 rfl ?_; try simp only [Act.put, setA, setZ, setS]
              refine take_now 8 rfl ?_; try simp only [Act.put, setA, setZ, setS]
              refine take_now 9 rfl ?_; try simp only [Act.put, setA, setZ, setS]
              refine take_now 10 rfl ?_; try simp only [Act.put, setA, setZ, setS]
              refine take_now 11 rfl ?_; try simp only [Act.put, setA, setZ, setS]
              refine take_now 12 rfl ?_; try simp only [Act.put, setA, setZ, setS]
              refine take_now 13 rfl ?_; try simp only [Act.put, setA, setZ, setS]
              refine take_now 14 rfl ?_; try simp only [Act.put, setA, setZ, setS]
              refine take_now 15 rfl ?_; try simp only [Act.put, setA, setZ, setS]
              refine take_now 16 rfl ?_; try simp only [Act.put, setA, setZ, setS]
              refine take_now 17 rfl ?_; try simp only [Act.put, setA, setZ, setS]
              refine take_now 18 rfl ?_; try simp only [Act.put, setA, setZ, setS]
              refine take_now 19 rfl ?_; try simp only [Act.put, setA, setZ, setS]
              refine take_now 20 rfl ?_; try simp only [Act.put, setA, setZ, setS]
              refine take_now 21 rfl ?_; try simp only [Act.put, setA, setZ, setS]
              refine take_now 22 rfl ?_; try simp only [Act.put, setA, setZ, setS]
              refine take_now 23 rfl ?_; try simp only [Act.put, setA, setZ, setS]
              refine take_now 24 rfl ?_; try simp only [Act.put, setA, setZ, setS]
              refine take_now 25 rfl ?_; try simp only [Act.put, setA, setZ, setS]
              refine only_at 26 (by kernel_rfl) rfl (fun K hK => ?_); go_simp
              (go_at_call 25
               (with_reducible refine (HN.out _ (HBQ.out.drew)).mono ?_); rintro e w7 ⟨rfl, hb7⟩; obtain ⟨y7, rfl⟩ : ∃ W, W = w7 := ⟨_, rfl⟩; have G2 := Lib.hid ((Below.refl wq.heap.size wq).drew.trans hb7); obtain ⟨_, ea, _, _, x0, x1⟩ := elem2 (EX.out.under (HBQ.out.trans (G2.out.mono HBQ.out.size))); obtain rfl := Option.some.inj ea; obtain ⟨_, eb, _, _, y0, y1⟩ := elem2 (EY.out.under (HBQ.out.trans (G2.out.mono HBQ.out.size))); obtain rfl := Option.some.inj eb; obtain ⟨p0, p1⟩ := row2 (box_next G2.out BAQ.out); obtain ⟨r0, r1⟩ := row2 (box_next G2.out BBQ.out); clear hb7 ea eb)
              refine hK.out _ _ ?_ (fun hHeld => ?_)
              · (try dsimp only); go_keep
              clear hK K; try simp only [Act.put, setA, setZ, setS]
              refine take_now 27 rfl ?_; try simp only [Act.put, setA, setZ, setS]
              refine take_now 28 rfl ?_; try simp only [Act.put, setA, setZ, setS]
              refine wpAnyH_done (by kernel_rfl) ?_ _; go_wp2_with fail
            · go_ret; exact ⟨ret_bool (by rw [sameQProg, sameBy_no (f := sameQEnum) HX.out HY.out (by rw [sameQEnum, E5.out, Bool.and_false]), Bool.false_and]), HQ.out.trans (G2.out.mono HQ.out.size)⟩
            · go_roundg (p.enums.length - (k + 1))
              case measure => have := HK.out; omega
              case rel => exact ⟨k + 1, by omega, by go_num, HT.out.succ HX.out HY.out (by rw [sameQEnum, E5.out, E4.out]; simp), HVQ.out.trans (G2.out.mono HVQ.out.size)⟩
          · have f4 : ((str x.name).toList != (str y.name).toList) = true := by rw [str_toL, str_toL]; simpa using e4
            have f5 : ((str x.name).toList == (str y.name).toList) = false := (by rw [str_toL, str_toL]; simpa using e4); have E4 := Lib.hid e4; clear e4; go_wp2_with fail
            refine wp_region_held_drew (S := (fun W => W.cell? ⟨w.heap.size, 0, none⟩ = some (.slice (some a1) p.enums.length ka) ∧ W.cell? ⟨w.heap.size + 1, 0, none⟩ = some (.slice (some b1) q.enums.length kb) ∧ W.cell? (a1.add (k * 2)) = some (.string (str x.name)) ∧ W.cell? { block := (a1.add (k * 2)).block, off := (a1.add (k * 2)).off + 1 } = some (.slice X1 n1 k1) ∧ W.cell? (b1.add (k * 2)) = some (.string (str y.name)) ∧ W.cell? { block := (b1.add (k * 2)).block, off := (b1.add (k * 2)).off + 1 } = some (.slice Y1 m1 j1))) (by kernel_rfl) ?_ (fun hHeld => ?_)
            · (try dsimp only); go_keep
            refine take_now 0 rfl ?_; try simp only [Act.put, setA, setZ, setS]
            refine take_now 1 rfl ?_; try simp only [Act.put, setA, setZ, setS]
            refine take_now 2 rfl ?_; try simp only [Act.put, setA, setZ, setS]
            refine take_now 3 rfl ?_; try simp only [Act.put, setA, setZ, setS]
            refine take_now 4 rfl ?_; try simp only [Act.put, setA, setZ, setS]
            refine take_now 5 rfl ?_; try simp only [Act.put, setA, setZ, setS]
            refine take_now 6 rfl ?_; try simp only [Act.put, setA, setZ, setS]
            refine take_now 7 rfl ?_; try simp only [Act.put, setA, setZ, setS]
            refine take_now 8 rfl ?_; try simp only [Act.put, setA, setZ, setS]
            refine take_now 9 rfl ?_; try simp only [Act.put, setA, setZ, setS]
            refine take_now 10 rfl ?_; try simp only [Act.put, setA, setZ, setS]
            refine take_now 11 rfl ?_; try simp only [Act.put, setA, setZ, setS]
            refine take_now 12 rfl ?_; try simp only [Act.put, setA, setZ, setS]
            refine take_now 13 rfl ?_; try simp only [Act.put, setA, setZ, setS]
            refine skip_now 14 rfl ?_; try simp only [Act.put, setA, setZ, setS]
            refine skip_now 15 rfl ?_; try simp only [Act.put, setA, setZ, setS]
            refine skip_now 16 rfl ?_; try simp only [Act.put, setA, setZ, setS]
            refine skip_now 17 rfl ?_; try simp only [Act.put, setA, setZ, setS]
            refine skip_now 18 rfl ?_; try simp only [Act.put, setA, setZ, setS]
            refine skip_now 19 rfl ?_; try simp only [Act.put, setA, setZ, setS]
            refine skip_now 20 rfl ?_; try simp only [Act.put, setA, setZ, setS]
            refine skip_now 21 rfl ?_; try simp only [Act.put, setA, setZ, setS]
            refine skip_now 22 rfl ?_; try simp only [Act.put, setA, setZ, setS]
            refine skip_now 23 rfl ?_; try simp only [Act.put, setA, setZ, setS]
            refine skip_now 24 rfl ?_; try simp only [Act.put, setA, setZ, setS]
            refine skip_now 25 rfl ?_; try simp only [Act.put, setA, setZ, setS]
            refine skip_now 26 rfl ?_; try simp only [Act.put, setA, setZ, setS]
            refine skip_now 27 rfl ?_; try simp only [Act.put, setA, setZ, setS]
            refine take_now 28 rfl ?_; try simp only [Act.put, setA, setZ, setS]
            refine wpAnyH_done (by kernel_rfl) ?_ _; go_wp2_with fail
            go_ret; exact ⟨ret_bool (by rw [sameQProg, sameBy_no (f := sameQEnum) HX.out HY.out (by rw [sameQEnum, show (x.name == y.name) = false by simpa using E4.out, Bool.false_and]), Bool.false_and]), HQ.out.drew⟩
        · have hke : k = p.enums.length := by omega
          have ENUMS := Lib.hid (HT.out.all E0.out hke); clear hke; go_wp2_with fail
          clear hlt hkl HK HT BA BB HV HVQ f0; go_loopg [6] p.nodes.length (fun g v wr => ∃ k : Nat, k + g = p.nodes.length ∧ v = .int .i64 k ∧ SameTo sameQNode p.nodes q.nodes k ∧ Below wq.heap.size wq wr)
          case atStart => exact ⟨0, by omega, rfl, SameTo.zero, Below.refl _ _⟩
          clear p0 p1 r0 r1
          case round =>
            obtain ⟨k, hkg, rfl, hto, hbw⟩ := hrel; obtain ⟨wn, rfl⟩ : ∃ W, W = wr := ⟨_, rfl⟩; have HK := Lib.hid hkg; have HT := Lib.hid hto; have HVQ := Lib.hid hbw; have HN0 := Lib.hid (HQ.out.trans (hbw.mono HQ.out.size)); have HBN := Lib.hid (HW.out.trans (HN0.out.mono hsz)); obtain ⟨p0, p1⟩ := row2 (box_next hbw BAQ.out); obtain ⟨r0, r1⟩ := row2 (box_next hbw BBQ.out); have hkl : k ≤ p.nodes.length := (by omega); clear hkg hto hbw; by_cases hlt : k < p.nodes.length
            · have hlt2 : k < q.nodes.length := by have := E9.out; omega
              obtain ⟨x, hx⟩ : ∃ x, p.nodes[k]? = some x := ⟨_, List.getElem?_eq_getElem hlt⟩; obtain ⟨y, hy⟩ : ∃ y, q.nodes[k]? = some y := ⟨_, List.getElem?_eq_getElem hlt2⟩; obtain ⟨X, hEX, xav, xbv, xcv, xdv, rfl, _, hxa, hxb, hxc, hxd⟩ := HEC.out k x hx; obtain ⟨Y, hEY, yav, ybv, ycv, ydv, rfl, _, hya, hyb, hyc, hyd⟩ := HED.out k y hy; have HN1 := Lib.hid (rSameNames_any hxa hya); have HN2 := Lib.hid (rSameNames_any hxb hyb); have HN3 := Lib.hid (rSameNames_any hxc hyc); obtain ⟨XA, xa1, xa2, rfl⟩ := SliceAt.shape hxa; obtain ⟨XB, xb1, xb2, rfl⟩ := SliceAt.shape hxb; obtain ⟨XC, xc1, xc2, rfl⟩ := SliceAt.shape hxc; obtain ⟨XD, xd2, rfl, hcx, hmx, hex_⟩ := hxd; obtain ⟨YA, ya1, ya2, rfl⟩ := SliceAt.shape hya; obtain ⟨YB, yb1, yb2, rfl⟩ := SliceAt.shape hyb; obtain ⟨YC, yc1, yc2, rfl⟩ := SliceAt.shape hyc; obtain ⟨YD, yd2, rfl, hcy, hmy, hey⟩ := hyd; have HEX := Lib.hid hex_; have HEY := Lib.hid hey; have h5 : x.items.length ≤ 9223372036854775807 := (by unfold maxLen at hmx; omega); have h6 : y.items.length ≤ 9223372036854775807 := (by unfold maxLen at hmy; omega); obtain ⟨a1, rfl, hab, haa, x0, x1, x2, x3, x4⟩ := elem5 (hEX.under HBN.out); obtain ⟨b1, rfl, hbb, hba, y0, y1, y2, y3, y4⟩ := elem5 (hEY.under HBN.out); have HX := Lib.hid hx; have HY := Lib.hid hy; have NO := Lib.hid (fun (h : sameQNode x y = false) => show sameQProg p q = false by rw [sameQProg, sameBy_no (f := sameQNode) HX.out HY.out h, Bool.and_false]); clear hx hy hEX hEY hxa hxb hxc hya hyb hyc hcx hmx hcy hmy hex_ hey; go_wp2_with fail
              go_cut [7, 8] from 69 to 78 (fun s7 s8 wc => ∃ i7 i8 : Nat, s7 = .pointer (some ⟨i7, 0, none⟩) ∧ s8 = .pointer (some ⟨i8, 0, none⟩) ∧ Below wn.heap.size wn wc ∧ wc.heap[i7]? = some (.cells #[.string (str x.name), .slice XA xa1 xa2, .slice XB xb1 xb2, .slice XC xc1 xc2, .slice XD x.items.length xd2] 56 (0, 0)) ∧ wc.heap[i8]? = some (.cells #[.string (str y.name), .slice YA ya1 ya2, .slice YB yb1 yb2, .slice YC yc1 yc2, .slice YD y.items.length yd2] 56 (0, 0)))
              case first =>
                refine wp_region_held_drew (S := (fun W => W.cell? ⟨w.heap.size, 1, none⟩ = some (.slice (some a1) p.nodes.length la) ∧ W.cell? ⟨w.heap.size + 1, 1, none⟩ = some (.slice (some b1) q.nodes.length lb) ∧ W.cell? (a1.add (k * 5)) = some (.string (str x.name)) ∧ W.cell? { block := (a1.add (k * 5)).block, off := (a1.add (k * 5)).off + 1 } = some (.slice XA xa1 xa2) ∧ W.cell? { block := (a1.add (k * 5)).block, off := (a1.add (k * 5)).off + 2 } = some (.slice XB xb1 xb2) ∧ W.cell? { block := (a1.add (k * 5)).block, off := (a1.add (k * 5)).off + 3 } = some (.slice XC xc1 xc2) ∧ W.cell? { block := (a1.add (k * 5)).block, off := (a1.add (k * 5)).off + 4 } = some (.slice XD x.items.length xd2) ∧ W.cell? (b1.add (k * 5)) = some (.string (str y.name)) ∧ W.cell? { block := (b1.add (k * 5)).block, off := (b1.add (k * 5)).off + 1 } = some (.slice YA ya1 ya2) ∧ W.cell? { block := (b1.add (k * 5)).block, off := (b1.add (k * 5)).off + 2 } = some (.slice YB yb1 yb2) ∧ W.cell? { block := (b1.add (k * 5)).block, off := (b1.add (k * 5)).off + 3 } = some (.slice YC yc1 yc2) ∧ W.cell? { block := (b1.add (k * 5)).block, off := (b1.add (k * 5)).off + 4 } = some (.slice YD y.items.length yd2))) (by kernel_rfl) ?_ (fun hHeld => ?_)
                · (try dsimp only); go_keep
                refine take_now 0 rfl ?_; try simp only [Act.put, setA, setZ, setS]
                refine take_now 1 rfl ?_; try simp only [Act.put, setA, setZ, setS]
                refine take_now 2 rfl ?_; try simp only [Act.put, setA, setZ, setS]
                refine take_now 3 rfl ?_; try simp only [Act.put, setA, setZ, setS]
                refine take_now 4 rfl ?_; try simp only [Act.put, setA, setZ, setS]
                refine take_now 5 rfl ?_; try simp only [Act.put, setA, setZ, setS]
                refine take_now 6 rfl ?_; try simp only [Act.put, setA, setZ, setS]
                refine take_now 7 rfl ?_; try simp only [Act.put, setA, setZ, setS]
                refine take_now 8 rfl ?_; try simp only [Act.put, setA, setZ, setS]
                refine take_now 9 rfl ?_; try simp only [Act.put, setA, setZ, setS]
                refine wpAnyH_ready (rs := [10, 11]) (by kernel_rfl) (by simp) (cons_at 10 rfl (fun K hK => ?_) (cons_at 11 rfl (fun K hK => ?_) AllReadyH.nil))
                · go_simp
                  refine hK.out _ _ ?_ (fun hHeld => ?_)
                  · (try dsimp only); go_keep
                  clear hK K; try simp only [Act.put, setA, setZ, setS]
                  refine only_at 11 (by kernel_rfl) rfl (fun K hK => ?_); go_simp
                  refine hK.out _ _ ?_ (fun hHeld => ?_)
                  · (try dsimp only); go_keep
                  clear hK K; try simp only [Act.put, setA, setZ, setS]
                  refine only_at 12 (by kernel_rfl) rfl (fun K hK => ?_); go_simp
                  refine hK.out _ _ ?_ (fun hHeld => ?_)
                  · (try dsimp only); go_keep
                  clear hK K; try simp only [Act.put, setA, setZ, setS]
                  refine only_at 13 (by kernel_rfl) rfl (fun K hK => ?_); go_simp
                  refine hK.out _ _ ?_ (fun hHeld => ?_)
                  · (try dsimp only); go_keep
                  clear hK K; try simp only [Act.put, setA, setZ, setS]
                  refine wpAnyH_done (by kernel_rfl) ?_ _; go_wp2_with fail
                  go_meet
                  case rel => exact ⟨_, _, rfl, rfl, (((Below.refl _ wn).alloc (Nat.le_refl _) _).alloc (by simp) _).drew, heap_drew_of (alloc_below (alloc_at rfl)), heap_drew_of (alloc_at (by simp))⟩
                · go_simp
                  refine hK.out _ _ ?_ (fun hHeld => ?_)
                  · (try dsimp only); go_keep
                  clear hK K; try simp only [Act.put, setA, setZ, setS]
                  refine only_at 10 (by kernel_rfl) rfl (fun K hK => ?_); go_simp
                  refine hK.out _ _ ?_ (fun hHeld => ?_)
                  · (try dsimp only); go_keep
                  clear hK K; try simp only [Act.put, setA, setZ, setS]
                  refine only_at 12 (by kernel_rfl) rfl (fun K hK => ?_); go_simp
                  refine hK.out _ _ ?_ (fun hHeld => ?_)
                  · (try dsimp only); go_keep
                  clear hK K; try simp only [Act.put, setA, setZ, setS]
                  refine only_at 13 (by kernel_rfl) rfl (fun K hK => ?_); go_simp
                  refine hK.out _ _ ?_ (fun hHeld => ?_)
                  · (try dsimp only); go_keep
                  clear hK K; try simp only [Act.put, setA, setZ, setS]
                  refine wpAnyH_done (by kernel_rfl) ?_ _; go_wp2_with fail
                  go_meet
                  case rel => exact ⟨_, _, rfl, rfl, (((Below.refl _ wn).alloc (Nat.le_refl _) _).alloc (by simp) _).drew, heap_drew_of (alloc_at (by simp)), heap_drew_of (alloc_below (alloc_at rfl))⟩
              case rest =>
                obtain ⟨i7, i8, rfl, rfl, hbz, hb7, hb8⟩ := hcut; obtain ⟨Z, rfl⟩ : ∃ W, W = wc := ⟨_, rfl⟩; have HZQ := Lib.hid hbz; have HZ := Lib.hid (HN0.out.trans (hbz.mono HN0.out.size)); have HBZ := Lib.hid (HBN.out.trans (hbz.mono HBN.out.size)); have B7 := Lib.hid hb7; have B8 := Lib.hid hb8; obtain ⟨s0, s1, s2, s3, s4⟩ := row5 hb7; obtain ⟨t0, t1, t2, t3, t4⟩ := row5 hb8; clear hbz hb7 hb8 p0 p1 r0 r1 x0 x1 x2 x3 x4 y0 y1 y2 y3 y4; by_cases e1 : x.name = y.name
                · have f1 : ((str x.name).toList != (str y.name).toList) = false := by rw [e1]; simp
                  have f2 : ((str x.name).toList == (str y.name).toList) = true := (by rw [e1]; simp); have E1 := Lib.hid e1; clear e1; cases n1 : x.funs == y.funs
                  · have N1 := Lib.hid n1; rw [n1] at HN1; clear n1; go_wp2_with (first | (go_at_call 25; (with_reducible refine (HN1.out _ (HBZ.out)).mono ?_); rintro e w7 ⟨rfl, hb7⟩; obtain ⟨z1, rfl⟩ : ∃ W, W = w7 := ⟨_, rfl⟩; have G1 := Lib.hid (hb7); obtain ⟨s0, s1, s2, s3, s4⟩ := row5 (box_next G1.out B7.out); obtain ⟨t0, t1, t2, t3, t4⟩ := row5 (box_next G1.out B8.out); clear hb7))
                    go_ret; exact ⟨ret_bool (by rw [NO.out (by rw [sameQNode, N1.out, Bool.false_and, Bool.and_false])]), HZ.out.trans (G1.out.mono HZ.out.size)⟩
                  have N1 := Lib.hid n1; rw [n1] at HN1; clear n1; cases n2 : x.ins == y.ins
                  · have N2 := Lib.hid n2; rw [n2] at HN2; clear n2; go_wp2_with (first | (go_at_call 25; (with_reducible refine (HN1.out _ (HBZ.out)).mono ?_); rintro e w7 ⟨rfl, hb7⟩; obtain ⟨z1, rfl⟩ : ∃ W, W = w7 := ⟨_, rfl⟩; have G1 := Lib.hid (hb7); obtain ⟨s0, s1, s2, s3, s4⟩ := row5 (box_next G1.out B7.out); obtain ⟨t0, t1, t2, t3, t4⟩ := row5 (box_next G1.out B8.out); clear hb7) | (go_at_call 25; (with_reducible refine (HN2.out _ (HBZ.out.trans (G1.out.mono HBZ.out.size))).mono ?_); rintro e w7 ⟨rfl, hb7⟩; obtain ⟨z2, rfl⟩ : ∃ W, W = w7 := ⟨_, rfl⟩; have G2 := Lib.hid (G1.out.trans (hb7.mono G1.out.size)); obtain ⟨s0, s1, s2, s3, s4⟩ := row5 (box_next G2.out B7.out); obtain ⟨t0, t1, t2, t3, t4⟩ := row5 (box_next G2.out B8.out); clear hb7))
                    go_ret; exact ⟨ret_bool (by rw [NO.out (by rw [sameQNode, N2.out, Bool.false_and, Bool.and_false, Bool.and_false])]), HZ.out.trans (G2.out.mono HZ.out.size)⟩
                  have N2 := Lib.hid n2; rw [n2] at HN2; clear n2; cases n3 : x.outs == y.outs
                  · have N3 := Lib.hid n3; rw [n3] at HN3; clear n3; go_wp2_with (first | (go_at_call 25; (with_reducible refine (HN1.out _ (HBZ.out)).mono ?_); rintro e w7 ⟨rfl, hb7⟩; obtain ⟨z1, rfl⟩ : ∃ W, W = w7 := ⟨_, rfl⟩; have G1 := Lib.hid (hb7); obtain ⟨s0, s1, s2, s3, s4⟩ := row5 (box_next G1.out B7.out); obtain ⟨t0, t1, t2, t3, t4⟩ := row5 (box_next G1.out B8.out); clear hb7) | (go_at_call 25; (with_reducible refine (HN2.out _ (HBZ.out.trans (G1.out.mono HBZ.out.size))).mono ?_); rintro e w7 ⟨rfl, hb7⟩; obtain ⟨z2, rfl⟩ : ∃ W, W = w7 := ⟨_, rfl⟩; have G2 := Lib.hid (G1.out.trans (hb7.mono G1.out.size)); obtain ⟨s0, s1, s2, s3, s4⟩ := row5 (box_next G2.out B7.out); obtain ⟨t0, t1, t2, t3, t4⟩ := row5 (box_next G2.out B8.out); clear hb7) | (go_at_call 25; (with_reducible refine (HN3.out _ (HBZ.out.trans (G2.out.mono HBZ.out.size))).mono ?_); rintro e w7 ⟨rfl, hb7⟩; obtain ⟨z3, rfl⟩ : ∃ W, W = w7 := ⟨_, rfl⟩; have G3 := Lib.hid (G2.out.trans (hb7.mono G2.out.size)); obtain ⟨s0, s1, s2, s3, s4⟩ := row5 (box_next G3.out B7.out); obtain ⟨t0, t1, t2, t3, t4⟩ := row5 (box_next G3.out B8.out); clear hb7))
                    go_ret; exact ⟨ret_bool (by rw [NO.out (by rw [sameQNode, N3.out, Bool.false_and, Bool.and_false, Bool.and_false, Bool.and_false])]), HZ.out.trans (G3.out.mono HZ.out.size)⟩
                  have N3 := Lib.hid n3; rw [n3] at HN3; clear n3; by_cases e3 : x.items.length = y.items.length
                  · have f3 : ((x.items.length : Int) != (y.items.length : Int)) = false := by simp [e3]
                    have E3 := Lib.hid e3; clear e3; go_wp2_with (first | (go_at_call 25; (with_reducible refine (HN1.out _ (HBZ.out)).mono ?_); rintro e w7 ⟨rfl, hb7⟩; obtain ⟨z1, rfl⟩ : ∃ W, W = w7 := ⟨_, rfl⟩; have G1 := Lib.hid (hb7); obtain ⟨s0, s1, s2, s3, s4⟩ := row5 (box_next G1.out B7.out); obtain ⟨t0, t1, t2, t3, t4⟩ := row5 (box_next G1.out B8.out); clear hb7) | (go_at_call 25; (with_reducible refine (HN2.out _ (HBZ.out.trans (G1.out.mono HBZ.out.size))).mono ?_); rintro e w7 ⟨rfl, hb7⟩; obtain ⟨z2, rfl⟩ : ∃ W, W = w7 := ⟨_, rfl⟩; have G2 := Lib.hid (G1.out.trans (hb7.mono G1.out.size)); obtain ⟨s0, s1, s2, s3, s4⟩ := row5 (box_next G2.out B7.out); obtain ⟨t0, t1, t2, t3, t4⟩ := row5 (box_next G2.out B8.out); clear hb7) | (go_at_call 25; (with_reducible refine (HN3.out _ (HBZ.out.trans (G2.out.mono HBZ.out.size))).mono ?_); rintro e w7 ⟨rfl, hb7⟩; obtain ⟨z3, rfl⟩ : ∃ W, W = w7 := ⟨_, rfl⟩; have G3 := Lib.hid (G2.out.trans (hb7.mono G2.out.size)); obtain ⟨s0, s1, s2, s3, s4⟩ := row5 (box_next G3.out B7.out); obtain ⟨t0, t1, t2, t3, t4⟩ := row5 (box_next G3.out B8.out); clear hb7))
                    clear s0 s1 s2 s3 s4 t0 t1 t2 t3 t4; go_loopg [9] x.items.length (fun g v wr => ∃ j : Nat, j + g = x.items.length ∧ v = .int .i64 j ∧ SameTo sameQItem x.items y.items j ∧ Below z3.heap.size z3 wr)
                    case atStart => exact ⟨0, by omega, rfl, SameTo.zero, Below.refl _ _⟩
                    case round =>
                      obtain ⟨j, hjg, rfl, hto, hbw⟩ := hrel; obtain ⟨wy, rfl⟩ : ∃ W, W = wr := ⟨_, rfl⟩; have JK := Lib.hid hjg; have JT := Lib.hid hto; have JW := Lib.hid hbw; have JQ := Lib.hid (HZ.out.trans ((G3.out.trans (hbw.mono G3.out.size)).mono HZ.out.size)); have JB := Lib.hid (HW.out.trans (JQ.out.mono hsz)); have b7 := box_next hbw (box_next G3.out B7.out); have b8 := box_next hbw (box_next G3.out B8.out); obtain ⟨s0, s1, s2, s3, s4⟩ := row5 b7; obtain ⟨t0, t1, t2, t3, t4⟩ := row5 b8; have hjl : j ≤ x.items.length := (by omega); have BY7 := Lib.hid b7; have BY8 := Lib.hid b8; clear hjg hto hbw b7 b8; by_cases hlt3 : j < x.items.length
                      · have hlt4 : j < y.items.length := by have := E3.out; omega
                        obtain ⟨u, hu⟩ : ∃ u, x.items[j]? = some u := ⟨_, List.getElem?_eq_getElem hlt3⟩; obtain ⟨v, hv⟩ : ∃ v, y.items[j]? = some v := ⟨_, List.getElem?_eq_getElem hlt4⟩; obtain ⟨U, hEU, hRU⟩ := HEX.out j u hu; obtain ⟨V, hEV, hRV⟩ := HEY.out j v hv; have HF := Lib.hid (rSameItem_any hRU hRV); obtain ⟨uA0, un0, uk0, uo1, us2, uo3, uA4, un4, uk4, uA5, un5, uk5, uA6, un6, uk6, rfl⟩ := ItemAt.shape hRU; obtain ⟨vA0, vn0, vk0, vo1, vs2, vo3, vA4, vn4, vk4, vA5, vn5, vk5, vA6, vn6, vk6, rfl⟩ := ItemAt.shape hRV; have EU := Lib.hid hEU; have EV := Lib.hid hEV; obtain ⟨c2, rfl, hcb, hca, u0, u1, u2, u3, u4, u5, u6⟩ := elem7 (hEU.under JB.out); obtain ⟨d2, rfl, hdb, hda, v0, v1, v2, v3, v4, v5, v6⟩ := elem7 (hEV.under JB.out); have HU := Lib.hid hu; have HV := Lib.hid hv; clear hu hv hEU hEV hRU hRV; cases e5 : sameQItem u v; all_goals
                          have E5 := Lib.hid e5; rw [e5] at HF; clear e5; go_wp2_with fail
                          refine wp_region_held_drew (S := (fun W => W.cell? ⟨i7, 4, none⟩ = some (.slice (some c2) x.items.length xd2) ∧ W.cell? ⟨i8, 4, none⟩ = some (.slice (some d2) y.items.length yd2) ∧ W.cell? (c2.add (j * 7)) = some (.slice uA0 un0 uk0) ∧ W.cell? { block := (c2.add (j * 7)).block, off := (c2.add (j * 7)).off + 1 } = some (.int .i64 uo1) ∧ W.cell? { block := (c2.add (j * 7)).block, off := (c2.add (j * 7)).off + 2 } = some (.string us2) ∧ W.cell? { block := (c2.add (j * 7)).block, off := (c2.add (j * 7)).off + 3 } = some (.int .i64 uo3) ∧ W.cell? { block := (c2.add (j * 7)).block, off := (c2.add (j * 7)).off + 4 } = some (.slice uA4 un4 uk4) ∧ W.cell? { block := (c2.add (j * 7)).block, off := (c2.add (j * 7)).off + 5 } = some (.slice uA5 un5 uk5) ∧ W.cell? { block := (c2.add (j * 7)).block, off := (c2.add (j * 7)).off + 6 } = some (.slice uA6 un6 uk6) ∧ W.cell? (d2.add (j * 7)) = some (.slice vA0 vn0 vk0) ∧ W.cell? { block := (d2.add (j * 7)).block, off := (d2.add (j * 7)).off + 1 } = some (.int .i64 vo1) ∧ W.cell? { block := (d2.add (j * 7)).block, off := (d2.add (j * 7)).off + 2 } = some (.string vs2) ∧ W.cell? { block := (d2.add (j * 7)).block, off := (d2.add (j * 7)).off + 3 } = some (.int .i64 vo3) ∧ W.cell? { block := (d2.add (j * 7)).block, off := (d2.add (j * 7)).off + 4 } = some (.slice vA4 vn4 vk4) ∧ W.cell? { block := (d2.add (j * 7)).block, off := (d2.add (j * 7)).off + 5 } = some (.slice vA5 vn5 vk5) ∧ W.cell? { block := (d2.add (j * 7)).block, off := (d2.add (j * 7)).off + 6 } = some (.slice vA6 vn6 vk6))) (by kernel_rfl) ?_ (fun hHeld => ?_)
                          · (try dsimp only); go_keep
                          refine take_now 0 rfl ?_; try simp only [Act.put, setA, setZ, setS]
                          refine take_now 1 rfl ?_; try simp only [Act.put, setA, setZ, setS]
                          refine take_now 2 rfl ?_; try simp only [Act.put, setA, setZ, setS]
                          refine take_now 3 rfl ?_; try simp only [Act.put, setA, setZ, setS]
                          refine take_now 4 rfl ?_; try simp only [Act.put, setA, setZ, setS]
                          refine take_now 5 rfl ?_; try simp only [Act.put, setA, setZ, setS]
                          refine take_now 6 rfl ?_; try simp only [Act.put, setA, setZ, setS]
                          refine take_now 7 rfl ?_; try simp only [Act.put, setA, setZ, setS]
                          refine take_now 8 rfl ?_; try simp only [Act.put, setA, setZ, setS]
                          refine take_now 9 rfl ?_; try simp only [Act.put, setA, setZ, setS]
                          refine only_at 10 (by kernel_rfl) rfl (fun K hK => ?_); go_simp
                          (go_at_call 26
                           (with_reducible refine (HF.out _ (JB.out.drew)).mono ?_); rintro e w7 ⟨rfl, hb7⟩; obtain ⟨y7, rfl⟩ : ∃ W, W = w7 := ⟨_, rfl⟩; have H2 := Lib.hid ((Below.refl wy.heap.size wy).drew.trans hb7); obtain ⟨_, ea, _, _, u0, u1, u2, u3, u4, u5, u6⟩ := elem7 (EU.out.under (JB.out.trans (H2.out.mono JB.out.size))); obtain rfl := Option.some.inj ea; obtain ⟨_, eb, _, _, v0, v1, v2, v3, v4, v5, v6⟩ := elem7 (EV.out.under (JB.out.trans (H2.out.mono JB.out.size))); obtain rfl := Option.some.inj eb; obtain ⟨s0, s1, s2, s3, s4⟩ := row5 (box_next H2.out BY7.out); obtain ⟨t0, t1, t2, t3, t4⟩ := row5 (box_next H2.out BY8.out); clear hb7 ea eb)
                          refine hK.out _ _ ?_ (fun hHeld => ?_)
                          · (try dsimp only); go_keep
                          clear hK K; try simp only [Act.put, setA, setZ, setS]
                          refine take_now 11 rfl ?_; try simp only [Act.put, setA, setZ, setS]
                          refine wpAnyH_done (by kernel_rfl) ?_ _; go_wp2_with fail
                        · go_ret; exact ⟨ret_bool (by rw [NO.out (by rw [sameQNode, sameBy_no (f := sameQItem) HU.out HV.out E5.out, Bool.and_false, Bool.and_false, Bool.and_false, Bool.and_false])]), JQ.out.trans (H2.out.mono JQ.out.size)⟩
                        · go_roundg (x.items.length - (j + 1))
                          case measure => have := JK.out; omega
                          case rel => exact ⟨j + 1, by omega, by go_num, JT.out.succ HU.out HV.out E5.out, JW.out.trans (H2.out.mono JW.out.size)⟩
                      · have hje : j = x.items.length := by omega
                        have HJE := Lib.hid hje; clear hje; go_wp2_with fail
                        go_roundg (p.nodes.length - (k + 1))
                        case measure => have := HK.out; omega
                        case rel => exact ⟨k + 1, by omega, by go_num, HT.out.succ HX.out HY.out (by rw [sameQNode, E1.out, N1.out, N2.out, N3.out, JT.out.all E3.out HJE.out]; simp), HVQ.out.trans ((HZQ.out.trans ((G3.out.trans (JW.out.mono G3.out.size)).mono HZQ.out.size)).mono HVQ.out.size)⟩
                  · have f3 : ((x.items.length : Int) != (y.items.length : Int)) = true := by simp; omega
                    have E3 := Lib.hid e3; clear e3; go_wp2_with (first | (go_at_call 25; (with_reducible refine (HN1.out _ (HBZ.out)).mono ?_); rintro e w7 ⟨rfl, hb7⟩; obtain ⟨z1, rfl⟩ : ∃ W, W = w7 := ⟨_, rfl⟩; have G1 := Lib.hid (hb7); obtain ⟨s0, s1, s2, s3, s4⟩ := row5 (box_next G1.out B7.out); obtain ⟨t0, t1, t2, t3, t4⟩ := row5 (box_next G1.out B8.out); clear hb7) | (go_at_call 25; (with_reducible refine (HN2.out _ (HBZ.out.trans (G1.out.mono HBZ.out.size))).mono ?_); rintro e w7 ⟨rfl, hb7⟩; obtain ⟨z2, rfl⟩ : ∃ W, W = w7 := ⟨_, rfl⟩; have G2 := Lib.hid (G1.out.trans (hb7.mono G1.out.size)); obtain ⟨s0, s1, s2, s3, s4⟩ := row5 (box_next G2.out B7.out); obtain ⟨t0, t1, t2, t3, t4⟩ := row5 (box_next G2.out B8.out); clear hb7) | (go_at_call 25; (with_reducible refine (HN3.out _ (HBZ.out.trans (G2.out.mono HBZ.out.size))).mono ?_); rintro e w7 ⟨rfl, hb7⟩; obtain ⟨z3, rfl⟩ : ∃ W, W = w7 := ⟨_, rfl⟩; have G3 := Lib.hid (G2.out.trans (hb7.mono G2.out.size)); obtain ⟨s0, s1, s2, s3, s4⟩ := row5 (box_next G3.out B7.out); obtain ⟨t0, t1, t2, t3, t4⟩ := row5 (box_next G3.out B8.out); clear hb7))
                    go_ret; exact ⟨ret_bool (by rw [NO.out (by rw [sameQNode, sameBy_len (f := sameQItem) E3.out, Bool.and_false, Bool.and_false, Bool.and_false, Bool.and_false])]), HZ.out.trans (G3.out.mono HZ.out.size)⟩
                · have f1 : ((str x.name).toList != (str y.name).toList) = true := by rw [str_toL, str_toL]; simpa using e1
                  have f2 : ((str x.name).toList == (str y.name).toList) = false := (by rw [str_toL, str_toL]; simpa using e1); have E1 := Lib.hid e1; clear e1; go_wp2_with fail
                  go_ret; exact ⟨ret_bool (by rw [NO.out (by rw [sameQNode, show (x.name == y.name) = false by simpa using E1.out, Bool.false_and])]), HZ.out⟩
            · have hke : k = p.nodes.length := by omega
              have HKE := Lib.hid hke; clear hke; go_wp2_with fail
              go_ret; exact ⟨ret_bool (by rw [sameQProg, ENUMS.out, HT.out.all E9.out HKE.out]; rfl), HN0.out⟩
    · have f9 : ((p.nodes.length : Int) != (q.nodes.length : Int)) = true := by simp; omega
      have E9 := Lib.hid e9; clear e9; go_enter Tryz.func11, Tryz.ntmps11
      go_wp2_with fail
      go_ret; exact ⟨ret_bool (by rw [sameQProg, sameBy_len (f := sameQNode) E9.out, Bool.and_false]), ((Below.refl _ w).alloc (Nat.le_refl _) _).alloc (by simp) _⟩
  · have f0 : ((p.enums.length : Int) != (q.enums.length : Int)) = true := by simp; omega
    have E0 := Lib.hid e0; clear e0; go_enter Tryz.func11, Tryz.ntmps11
    go_wp2_with fail
    go_ret; exact ⟨ret_bool (by rw [sameQProg, sameBy_len (f := sameQEnum) E0.out, Bool.false_and]), ((Below.refl _ w).alloc (Nat.le_refl _) _).alloc (by simp) _⟩
end Go.Proofs.YtoajfnfhphoaeaaGreatDoor
