/-
  The reference's Exprs: a new slice of all expressions of a node.
-/
import Derived.Test.YtbpbnebcbjacdaaGreatTreeExprs
namespace Go.Proofs.YtbpbnebcbjacdaaGreat
open Go.RowKit

theorem heap_one {w : World} {g : Nat} {o : Obj} (h : w.heap[g]? = some o) (A : Obj) : (w.alloc A).heap[g]? = some o := (Below.heap_alloc _ _ _ (lt_of_heap h)).trans h
set_option maxRecDepth 100000 in
set_option maxHeartbeats 4000000 in
theorem rExprs_any {w0 : World} {x : QNode} {L : List Value} (hL : NodeAt w0 L x) (hq : (nodeX x).length ≤ 1048576) : ∀ w, Below w0.heap.size w0 w → Calls Tryz.prog 35 #[.agg L.toArray] w (ExprsPost w0 (nodeX x) w) := by
  intro w hw
  obtain ⟨fv, iv, ov, xv, rfl, _, hf1, hf2, hf3, hxs⟩ := hL
  obtain ⟨F1, F2, F3, rfl⟩ := SliceAt.shape hf1
  obtain ⟨G1, G2, G3, rfl⟩ := SliceAt.shape hf2
  obtain ⟨H1, H2, H3, rfl⟩ := SliceAt.shape hf3
  obtain ⟨A, ca, rfl, hca, hma, hea⟩ := hxs
  have hla : x.items.length ≤ 9223372036854775807 := by unfold maxLen at hma; omega
  have HW0 := Lib.hid hw
  have hsz0 := hw.size
  have HQ := Lib.hid hq
  have HEA := Lib.hid hea
  clear hw hf1 hf2 hf3 hca hma hq hea
  go_enter Tryz.func35, Tryz.ntmps35
  go_wp2_with fail
  go_loopg [3, 4] x.items.length (fun g v i wr => ∃ k : Nat, k + g = x.items.length ∧ i = .int .i64 k ∧ OwnE w0 w.heap.size wr v ((x.items.take k).flatMap itemX) ∧ Below w.heap.size w wr ∧ wr.heap[w.heap.size]? = some (.cells #[.string (str x.name), .slice F1 F2 F3, .slice G1 G2 G3, .slice H1 H2 H3, .slice A x.items.length ca] 41 (0, 0)))
  case atStart => exact ⟨0, by omega, rfl, by simpa using OwnE.nil _ _ _, (Below.refl _ _).alloc (Nat.le_refl _) _, heap_alloc_new w _⟩
  case round =>
    obtain ⟨k, hkg, rfl, ho, hbw, hnb⟩ := hrel
    have HK := Lib.hid hkg
    have HW := Lib.hid hbw
    have hszw := hbw.size
    have hkl : k ≤ x.items.length := by omega
    have HO := Lib.hid ho
    have NB := Lib.hid hnb
    obtain ⟨n0, n1, n2, n3, n4⟩ := row5 hnb
    have hnl := lt_of_heap hnb
    clear hkg hbw ho hnb
    by_cases hlt : k < x.items.length
    · obtain ⟨y, hy⟩ : ∃ y, x.items[k]? = some y := ⟨_, List.getElem?_eq_getElem hlt⟩
      obtain ⟨wr1, rfl⟩ : ∃ W, W = wr := ⟨_, rfl⟩
      have HT := Lib.hid (flat_snoc (f := itemX) hy)
      have hlenT : ((x.items.take k).flatMap itemX).length + (itemX y).length ≤ 1048576 := by
        have h1 := flat_le itemX x.items (k + 1)
        rw [flat_snoc hy, List.length_append] at h1
        have h2 : (nodeX x).length ≤ 1048576 := HQ.out
        unfold nodeX at h2
        omega
      obtain ⟨M, hEM, hRM⟩ := HEA.out k y hy
      obtain ⟨⟨nm, e⟩, sts⟩ := y
      obtain ⟨L', sv, rfl, hEq, hst⟩ := hRM
      obtain ⟨nv, Le, rfl, hnv, hxe⟩ := hEq
      obtain ⟨nA, nn, nk, rfl⟩ := SliceAt.shape hnv
      obtain ⟨eo1, es2, eo3, eA4, en4, ek4, eA5, en5, ek5, rfl⟩ := hxe.shape
      obtain ⟨sA, sc, rfl, hsc, hsm, hes⟩ := hst
      simp only [List.cons_append, List.nil_append] at hEM
      have hsl : sts.length ≤ 9223372036854775807 := by have h : sts.length ≤ sc := hsc; unfold maxLen at hsm; omega
      have HXE := Lib.hid hxe
      have HES := Lib.hid hes
      have HB0 := Lib.hid (HW0.out.trans (HW.out.mono hsz0))
      obtain ⟨a, rfl, hab, haa, d0, d1, d2, d3, d4, d5, d6⟩ := elem7 (hEM.under HB0.out)
      clear hnv hxe hsm hsc hEM hy hes
      by_cases hst0 : sts = []
      · subst hst0
        simp only [itemX, if_true, List.flatMap_nil, List.append_nil, List.length_singleton, List.length_nil] at *
        go_wp2_with (at_builtin; refine append_expr rfl _ _ rfl rfl rfl (heap_new1 wr1 _ _) ((HO.out.alloc _).alloc _) HXE.out ?_ ?_ ?_; (first | omega | (simp; omega)); (first | omega | (simp; omega)); (intro v5 w5 h5; obtain ⟨ho5, hb5, hk5⟩ := h5; have HO5 := Lib.hid ho5; have HB5 := Lib.hid (((HW.out.alloc (by omega) _).alloc (by simp; omega) _).trans hb5); have NB5 := Lib.hid (hk5 _ _ 41 (by decide) (heap_two NB.out _ _)); obtain ⟨z0, z1, z2, z3, z4, z5, z6⟩ := row7 (hk5 _ _ 55 (by decide) (heap_new0 wr1 _ _)); clear ho5 hb5 hk5))
        go_loopg [3, 6] 0 (fun g v i wr2 => g = 0 ∧ v = v5 ∧ i = .int .i64 0 ∧ wr2 = w5)
        case atStart => exact ⟨rfl, rfl, rfl, rfl⟩
        case round =>
          obtain ⟨rfl, rfl, rfl, rfl⟩ := hrel
          go_wp2_with fail
          go_roundg (x.items.length - (k + 1))
          case measure => have := HK.out; omega
          case rel => exact ⟨k + 1, by omega, by go_num, by rw [HT.out]; exact HO5.out, HB5.out, NB5.out⟩
      · have hd : ((sts.length : Int) == 0) = false := by cases sts with
          | nil => exact absurd rfl hst0
          | cons a b => simp; omega
        have HST := Lib.hid hst0
        clear hst0
        have hX : itemX ⟨⟨nm, e⟩, sts⟩ = sts.flatMap stateX := by simp [itemX, HST.out]
        rw [hX] at HT hlenT
        clear hX
        clear HXE
        generalize hacc : (x.items.take k).flatMap itemX = acc at *
        go_wp2_with fail
        clear n0 n1 n2 n3 n4 d0 d1 d2 d3 d4 d5 d6
        go_loopg [3, 6] sts.length (fun g v i wr2 => ∃ k2 : Nat, k2 + g = sts.length ∧ i = .int .i64 k2 ∧ OwnE w0 w.heap.size wr2 v (acc ++ (sts.take k2).flatMap stateX) ∧ Below w.heap.size w wr2 ∧ wr2.heap[w.heap.size]? = some (.cells #[.string (str x.name), .slice F1 F2 F3, .slice G1 G2 G3, .slice H1 H2 H3, .slice (some a) x.items.length ca] 41 (0, 0)) ∧ wr2.heap[wr1.heap.size]? = some (.cells #[.slice nA nn nk, .int .i64 eo1, .string es2, .int .i64 eo3, .slice eA4 en4 ek4, .slice eA5 en5 ek5, .slice sA sts.length sc] 55 (0, 0)))
        case atStart => exact ⟨0, by omega, rfl, by simpa using HO.out.alloc _, HW.out.alloc (by omega) _, heap_one NB.out _, heap_alloc_new wr1 _⟩
        case round =>
          obtain ⟨wr2, rfl⟩ : ∃ W, W = wr := ⟨_, rfl⟩
          obtain ⟨k2, hkg2, rfl, ho2, hbw2, hnb2, hxb2⟩ := hrel
          have HK2 := Lib.hid hkg2
          have HW2 := Lib.hid hbw2
          have hszw2 := hbw2.size
          have hkl2 : k2 ≤ sts.length := by omega
          have HO2 := Lib.hid ho2
          have NB2 := Lib.hid hnb2
          have XB2 := Lib.hid hxb2
          obtain ⟨x0, x1, x2, x3, x4, x5, x6⟩ := row7 hxb2
          clear hkg2 hbw2 ho2 hnb2 hxb2
          by_cases hlt2 : k2 < sts.length
          · obtain ⟨z, hz⟩ : ∃ z, sts[k2]? = some z := ⟨_, List.getElem?_eq_getElem hlt2⟩
            have HT2 := Lib.hid (flat_snoc (f := stateX) hz)
            have hlen2 : (acc ++ (sts.take k2).flatMap stateX).length + (stateX z).length ≤ 1048576 := by
              have h1 := flat_le stateX sts (k2 + 1)
              rw [flat_snoc hz, List.length_append] at h1
              rw [List.length_append]
              omega
            obtain ⟨N, hEN, hRN⟩ := HES.out k2 z hz
            obtain ⟨zn, eqs, ways⟩ := z
            obtain ⟨ev, wv, rfl, _, hev, hwv⟩ := hRN
            obtain ⟨qA, qc, rfl, hqc, hqm, heq⟩ := hev
            obtain ⟨yA, yc, rfl, hyc, hym, hey⟩ := hwv
            have hql : eqs.length ≤ 9223372036854775807 := by have h : eqs.length ≤ qc := hqc; unfold maxLen at hqm; omega
            have hyl : ways.length ≤ 9223372036854775807 := by have h : ways.length ≤ yc := hyc; unfold maxLen at hym; omega
            simp only [stateX, List.length_append, List.length_map] at hlen2
            have HEQ := Lib.hid heq
            have HEY := Lib.hid hey
            have HEN := Lib.hid hEN
            have hHB2 := (HW0.out.trans (HW2.out.mono hsz0))
            obtain ⟨b, rfl, hbb, hbbb, e0, e1, e2⟩ := elem3 (hEN.under hHB2)
            clear hqc hqm hyc hym hEN hz heq hey e0 e1 e2 hHB2
            generalize hacc2 : acc ++ (sts.take k2).flatMap stateX = acc2 at *
            have hlen2' : acc2.length + (eqs.length + ways.length) ≤ 1048576 := by rw [← hacc2]; simp only [List.length_append]; omega
            go_wp2_with fail
            clear x0 x1 x2 x3 x4 x5 x6
            go_loopg [3, 7] eqs.length (fun g v i wr3 => ∃ k3 : Nat, k3 + g = eqs.length ∧ i = .int .i64 k3 ∧ OwnE w0 w.heap.size wr3 v (acc2 ++ (eqs.take k3).map QEq.e) ∧ Below w.heap.size w wr3 ∧ wr3.heap[w.heap.size]? = some (.cells #[.string (str x.name), .slice F1 F2 F3, .slice G1 G2 G3, .slice H1 H2 H3, .slice (some a) x.items.length ca] 41 (0, 0)) ∧ wr3.heap[wr1.heap.size]? = some (.cells #[.slice nA nn nk, .int .i64 eo1, .string es2, .int .i64 eo3, .slice eA4 en4 ek4, .slice eA5 en5 ek5, .slice (some b) sts.length sc] 55 (0, 0)))
            case atStart => exact ⟨0, by omega, rfl, by simpa using HO2.out, HW2.out, NB2.out, XB2.out⟩
            case round =>
              obtain ⟨wr3, rfl⟩ : ∃ W, W = wr := ⟨_, rfl⟩
              obtain ⟨k3, hkg3, rfl, ho3, hbw3, hnb3, hxb3⟩ := hrel
              have HK3 := Lib.hid hkg3
              have HW3 := Lib.hid hbw3
              have hszw3 := hbw3.size
              have hkl3 : k3 ≤ eqs.length := by omega
              have NB3 := Lib.hid hnb3
              have XB3 := Lib.hid hxb3
              obtain ⟨x0, x1, x2, x3, x4, x5, x6⟩ := row7 hxb3
              have HB3 := Lib.hid (HW0.out.trans (HW3.out.mono hsz0))
              obtain ⟨_, eb, _, _, e0, e1, e2⟩ := elem3 (HEN.out.under HB3.out)
              obtain rfl := Option.some.inj eb
              clear hkg3 hbw3 hnb3 hxb3 eb
              by_cases hlt3 : k3 < eqs.length
              · obtain ⟨q, hq⟩ : ∃ q, eqs[k3]? = some q := ⟨_, List.getElem?_eq_getElem hlt3⟩
                have HT3 := Lib.hid (show (eqs.take (k3 + 1)).map QEq.e = (eqs.take k3).map QEq.e ++ [q.e] by rw [take_snoc hq]; simp)
                obtain ⟨N3, hEN3, nv3, Le3, rfl, hnv3, hxe3⟩ := HEQ.out k3 q hq
                obtain ⟨nA3, nn3, nk3, rfl⟩ := SliceAt.shape hnv3
                obtain ⟨fo1, fs2, fo3, fA4, fn4, fk4, fA5, fn5, fk5, rfl⟩ := hxe3.shape
                have HXE := Lib.hid hxe3
                obtain ⟨c, rfl, hcb, hcbb, f0, f1, f2, f3, f4, f5⟩ := elem6 (hEN3.under HB3.out)
                have HO3 := Lib.hid ho3
                have hlen3 : (acc2 ++ (eqs.take k3).map QEq.e).length ≤ acc2.length + k3 := by simp; omega
                clear ho3 hnv3 hxe3 hEN3 hq
                go_wp2_with (at_builtin; refine append_expr rfl _ _ rfl rfl rfl (heap_alloc_new wr3 _) (HO3.out.alloc _) HXE.out ?_ ?_ ?_; (first | omega | (simp; omega)); (first | omega | (simp; omega)); (intro v5 w5 h5; obtain ⟨ho5, hb5, hk5⟩ := h5; have HO5 := Lib.hid ho5; have HB5 := Lib.hid ((HW3.out.alloc (by omega) _).trans hb5); have NB5 := Lib.hid (hk5 _ _ 41 (by decide) (heap_one NB3.out _)); have XB5 := Lib.hid (hk5 _ _ 55 (by decide) (heap_one XB3.out _)); clear ho5 hb5 hk5))
                go_roundg (eqs.length - (k3 + 1))
                case measure => have := HK3.out; omega
                case rel => exact ⟨k3 + 1, by omega, by go_num, by rw [HT3.out, ← List.append_assoc]; exact HO5.out, HB5.out, NB5.out, XB5.out⟩
              · have hke3 : k3 = eqs.length := by omega
                have HO3 := Lib.hid (show OwnE w0 w.heap.size wr3 _ (acc2 ++ eqs.map QEq.e) by rw [hke3, List.take_length] at ho3; exact ho3)
                have HKE3 := Lib.hid hke3
                clear ho3 hke3
                go_wp2_with fail
                clear hlt3 hkl3 x0 x1 x2 x3 x4 x5 x6 e0 e1 e2
                go_loopg [3, 8] ways.length (fun g v i wr4 => ∃ k4 : Nat, k4 + g = ways.length ∧ i = .int .i64 k4 ∧ OwnE w0 w.heap.size wr4 v (acc2 ++ eqs.map QEq.e ++ (ways.take k4).map QWay.cond) ∧ Below w.heap.size w wr4 ∧ wr4.heap[w.heap.size]? = some (.cells #[.string (str x.name), .slice F1 F2 F3, .slice G1 G2 G3, .slice H1 H2 H3, .slice (some a) x.items.length ca] 41 (0, 0)) ∧ wr4.heap[wr1.heap.size]? = some (.cells #[.slice nA nn nk, .int .i64 eo1, .string es2, .int .i64 eo3, .slice eA4 en4 ek4, .slice eA5 en5 ek5, .slice (some b) sts.length sc] 55 (0, 0)))
                case atStart => exact ⟨0, by omega, rfl, by simpa using HO3.out, HW3.out, NB3.out, XB3.out⟩
                case round =>
                  obtain ⟨wr4, rfl⟩ : ∃ W, W = wr := ⟨_, rfl⟩
                  obtain ⟨k4, hkg4, rfl, ho4, hbw4, hnb4, hxb4⟩ := hrel
                  have HK4 := Lib.hid hkg4
                  have HW4 := Lib.hid hbw4
                  have hszw4 := hbw4.size
                  have hkl4 : k4 ≤ ways.length := by omega
                  have NB4 := Lib.hid hnb4
                  have XB4 := Lib.hid hxb4
                  obtain ⟨x0, x1, x2, x3, x4, x5, x6⟩ := row7 hxb4
                  have HB4 := Lib.hid (HW0.out.trans (HW4.out.mono hsz0))
                  obtain ⟨_, eb, _, _, e0, e1, e2⟩ := elem3 (HEN.out.under HB4.out)
                  obtain rfl := Option.some.inj eb
                  clear hkg4 hbw4 hnb4 hxb4 eb
                  by_cases hlt4 : k4 < ways.length
                  · obtain ⟨q, hq⟩ : ∃ q, ways[k4]? = some q := ⟨_, List.getElem?_eq_getElem hlt4⟩
                    have HT4 := Lib.hid (show (ways.take (k4 + 1)).map QWay.cond = (ways.take k4).map QWay.cond ++ [q.cond] by rw [take_snoc hq]; simp)
                    obtain ⟨N4, hEN4, Le4, rfl, hxe4, _⟩ := HEY.out k4 q hq
                    obtain ⟨fo1, fs2, fo3, fA4, fn4, fk4, fA5, fn5, fk5, rfl⟩ := hxe4.shape
                    simp only [List.cons_append, List.nil_append] at hEN4
                    have HXE := Lib.hid hxe4
                    obtain ⟨c, rfl, hcb, hcbb, f0, f1, f2, f3, f4, f5⟩ := elem6 (hEN4.under HB4.out)
                    have HO4 := Lib.hid ho4
                    have hlen4 : (acc2 ++ eqs.map QEq.e ++ (ways.take k4).map QWay.cond).length ≤ acc2.length + eqs.length + k4 := by simp; omega
                    clear ho4 hxe4 hEN4 hq
                    go_wp2_with (at_builtin; refine append_expr rfl _ _ rfl rfl rfl (heap_alloc_new wr4 _) (HO4.out.alloc _) HXE.out ?_ ?_ ?_; (first | omega | (simp; omega)); (first | omega | (simp; omega)); (intro v5 w5 h5; obtain ⟨ho5, hb5, hk5⟩ := h5; have HO5 := Lib.hid ho5; have HB5 := Lib.hid ((HW4.out.alloc (by omega) _).trans hb5); have NB5 := Lib.hid (hk5 _ _ 41 (by decide) (heap_one NB4.out _)); have XB5 := Lib.hid (hk5 _ _ 55 (by decide) (heap_one XB4.out _)); clear ho5 hb5 hk5))
                    go_roundg (ways.length - (k4 + 1))
                    case measure => have := HK4.out; omega
                    case rel => exact ⟨k4 + 1, by omega, by go_num, by rw [HT4.out, ← List.append_assoc]; exact HO5.out, HB5.out, NB5.out, XB5.out⟩
                  · have hke4 : k4 = ways.length := by omega
                    have HO4 := Lib.hid (show OwnE w0 w.heap.size wr4 _ (acc ++ (sts.take (k2 + 1)).flatMap stateX) by
                      rw [hke4, List.take_length] at ho4
                      rw [HT2.out, ← List.append_assoc, hacc2, stateX, ← List.append_assoc]
                      exact ho4)
                    clear ho4 hke4
                    go_wp2_with fail
                    go_roundg (sts.length - (k2 + 1))
                    case measure => have := HK2.out; omega
                    case rel => exact ⟨k2 + 1, by omega, by go_num, HO4.out, HW4.out, NB4.out, XB4.out⟩
          · have hke2 : k2 = sts.length := by omega
            have HO3 := Lib.hid (show OwnE w0 w.heap.size wr2 _ ((x.items.take (k + 1)).flatMap itemX) by
              have h := HO2.out
              rw [hke2, List.take_length] at h
              rw [HT.out]
              exact h)
            clear hke2
            go_wp2_with fail
            go_roundg (x.items.length - (k + 1))
            case measure => have := HK.out; omega
            case rel => exact ⟨k + 1, by omega, by go_num, HO3.out, HW2.out, NB2.out⟩
    · have hke : k = x.items.length := by omega
      have HKE := Lib.hid hke
      clear hke
      go_wp2_with fail
      go_ret
      exact ⟨_, rfl, by have := HO.out; rw [HKE.out, List.take_length] at this; exact this, HW.out⟩
end Go.Proofs.YtbpbnebcbjacdaaGreat
