/-
  scope.Vars, and the reference's Defines: the names that an item defines.
-/
import Derived.Test.YtifbdglhfoimjaaGreatDoorScopeSpec
import Derived.Test.YtifbdglhfoimjaaGreatDoorOwnStr
import Derived.Test.YtifbdglhfoimjaaGreatDoorTreeMade
import Derived.Test.YtifbdglhfoimjaaGreatDoorHeld
import Derived.Lib.Hide
import Derived.Lib.SliceRun
namespace Go.Proofs.YtifbdglhfoimjaaGreatDoor
open Go.RowKit

theorem flat_snoc {X Y : Type} {f : X → List Y} {l : List X} {k : Nat} {x : X} (h : l[k]? = some x) : (l.take (k + 1)).flatMap f = (l.take k).flatMap f ++ f x := by
  rw [take_snoc h, List.flatMap_append]; simp
theorem flat_le {X Y : Type} (f : X → List Y) (l : List X) (k : Nat) : ((l.take k).flatMap f).length ≤ (l.flatMap f).length := by
  have : l.flatMap f = (l.take k).flatMap f ++ (l.drop k).flatMap f := by rw [← List.flatMap_append, List.take_append_drop]
  rw [this, List.length_append]
  omega
/-- a row of the call's own -/
def OwnPost (l : List Tx) (w : World) (e : Ending) (w' : World) : Prop := ∃ v, e = .returned v ∧ OwnS w.heap.size w' v l ∧ Below w.heap.size w w'
/-- a slice that holds the strings l, read only -/
def StrsPost (l : List Tx) (w : World) (e : Ending) (w' : World) : Prop := ∃ v, e = .returned v ∧ StrsAt w' v l ∧ Below w.heap.size w w'
theorem at_zero {w : World} {a : Addr} {v : Value} {n : Nat} (h : w.cell? { block := (a.add (0 * n)).block, off := (a.add (0 * n)).off + 1 } = some v) : w.cell? { block := a.block, off := a.off + 1 } = some v := by
  rw [Nat.zero_mul, add_zero] at h; exact h
set_option maxHeartbeats 4000000 in
set_option maxRecDepth 100000 in
theorem defined_any {w0 : World} {L : List Value} {i : QItem} (hL : ItemAt w0 L i) (hlen : (definedQ i).length ≤ 2097152) : ∀ w, Below w0.heap.size w0 w → Calls Tryz.prog 97 #[.agg L.toArray] w (StrsPost (definedQ i) w) := by
  intro w hb
  have HB := Lib.hid hb
  have hsz := hb.size
  obtain ⟨⟨nm, e⟩, sts⟩ := i
  obtain ⟨L', sv, rfl, ⟨nv, Le, rfl, hnv, hxe⟩, hst⟩ := hL
  have HNV := Lib.hid hnv
  obtain ⟨nA, nn, nk, rfl⟩ := SliceAt.shape hnv
  obtain ⟨eo1, es2, eo3, eA4, en4, ek4, eA5, en5, ek5, rfl⟩ := hxe.shape
  obtain ⟨sA, sc, rfl, hsc, hsm, hes⟩ := hst
  simp only [List.cons_append, List.nil_append]
  have hsl : sts.length ≤ 9223372036854775807 := by have h : sts.length ≤ sc := hsc; unfold maxLen at hsm; omega
  clear hb hnv hxe hsc hsm
  cases sts with
  | nil =>
    have hal := Lib.hid ((Below.refl w.heap.size w).alloc (Nat.le_refl _) (.cells #[.slice nA nn nk, .int .i64 eo1, .string es2, .int .i64 eo3, .slice eA4 en4 ek4, .slice eA5 en5 ek5, .slice sA ([] : List QState).length sc] 80))
    clear hes
    go_enter Tryz.func97, Tryz.ntmps97
    go_wp2_with fail
    go_ret
    exact ⟨_, rfl, (HNV.out.under HB.out).under hal.out, hal.out⟩
  | cons z sr =>
    have hd : (((z :: sr).length : Int) == 0) = false := by simp; omega
    have hpos : 0 < (z :: sr).length := by simp
    obtain ⟨N, hEN, hRN⟩ := hes 0 z rfl
    obtain ⟨zn, eqs, ways⟩ := z
    obtain ⟨ev, wv, rfl, _, hev, hwv⟩ := hRN
    obtain ⟨qA, qc, rfl, hqc, hqm, heq⟩ := hev
    obtain ⟨yA, yn, yc, rfl⟩ := SliceAt.shape hwv
    have hql : eqs.length ≤ 9223372036854775807 := by have h : eqs.length ≤ qc := hqc; unfold maxLen at hqm; omega
    have hX : definedQ ⟨⟨nm, e⟩, ⟨zn, eqs, ways⟩ :: sr⟩ = eqs.flatMap QEq.names := rfl
    rw [hX] at hlen ⊢
    obtain ⟨b, rfl, hbb, hbbb, e0, e1, e2⟩ := elem3 (hEN.under HB.out)
    have e1 := at_zero e1
    generalize hn : (⟨zn, eqs, ways⟩ :: sr : List QState).length = sn at *
    clear hqc hqm hEN hes hwv hX e0 e2 hbbb
    go_enter Tryz.func97, Tryz.ntmps97
    go_wp2_with fail
    go_loopg [3, 19] eqs.length (fun g v i wr => ∃ k : Nat, k + g = eqs.length ∧ i = .int .i64 k ∧ OwnS w.heap.size wr v ((eqs.take k).flatMap QEq.names) ∧ Below w.heap.size w wr)
    case atStart => exact ⟨0, by omega, rfl, by simpa using OwnS.nil _ _, (Below.refl _ w).alloc (Nat.le_refl _) _⟩
    case round =>
      obtain ⟨wr1, rfl⟩ : ∃ W, W = wr := ⟨_, rfl⟩
      obtain ⟨k, hkg, rfl, ho, hbw⟩ := hrel
      have HK := Lib.hid hkg
      have HW := Lib.hid hbw
      have HO := Lib.hid ho
      have hszw := hbw.size
      have hkl : k ≤ eqs.length := by omega
      clear hkg hbw ho
      by_cases hlt : k < eqs.length
      · obtain ⟨q, hq⟩ : ∃ q, eqs[k]? = some q := ⟨_, List.getElem?_eq_getElem hlt⟩
        have HT := Lib.hid (flat_snoc (f := QEq.names) hq)
        have hlen1 : ((eqs.take k).flatMap QEq.names).length + q.names.length ≤ 4194304 := by
          have h1 := flat_le QEq.names eqs (k + 1)
          rw [flat_snoc hq, List.length_append] at h1
          omega
        obtain ⟨N3, hEN3, nv3, Le3, rfl, hnv3, hxe3⟩ := heq k q hq
        have HN3 := Lib.hid hnv3
        obtain ⟨nA3, nn3, nk3, rfl⟩ := SliceAt.shape hnv3
        obtain ⟨fo1, fs2, fo3, fA4, fn4, fk4, fA5, fn5, fk5, rfl⟩ := hxe3.shape
        have HB3 := Lib.hid (HB.out.trans (HW.out.mono hsz))
        obtain ⟨c, rfl, hcb, hcbb, f0, f1, f2, f3, f4, f5⟩ := elem6 (hEN3.under HB3.out)
        have HA3 := Lib.hid ((Below.refl wr1.heap.size wr1).alloc (Nat.le_refl _) (.cells #[.slice nA3 nn3 nk3, .int .i64 fo1, .string fs2, .int .i64 fo3, .slice fA4 fn4 fk4, .slice fA5 fn5 fk5] 77))
        clear hnv3 hxe3 hEN3 hq heq
        go_wp2_with (at_builtin; refine append_strs rfl _ _ rfl rfl rfl (HO.out.alloc _) ((HN3.out.under HB3.out).under HA3.out) hlen1 ?_ ?_; (first | omega | (simp; omega)); (intro v5 w5 h5; obtain ⟨ho5, hb5, _⟩ := h5; have HO5 := Lib.hid ho5; have HB5 := Lib.hid ((HW.out.alloc (by omega) _).trans hb5); clear ho5 hb5))
        go_roundg (eqs.length - (k + 1))
        case measure => have := HK.out; omega
        case rel => exact ⟨k + 1, by omega, by go_num, by rw [HT.out]; exact HO5.out, HB5.out⟩
      · have hke : k = eqs.length := by omega
        have HOe := Lib.hid (show OwnS w.heap.size wr1 _ (eqs.flatMap QEq.names) by have := HO.out; rwa [hke, List.take_length] at this)
        clear hke
        go_wp2_with fail
        go_ret
        exact ⟨_, rfl, HOe.out.strs, HW.out⟩
set_option maxHeartbeats 1000000 in
theorem clone_any {w : World} {va : Value} {l : List Tx} (ha : StrsAt w va l) (hl : l.length ≤ 2097152) : Calls Tryz.prog 96 #[va] w (OwnPost l w) := by
  have q24 : ∀ (w : World) (a : Option Addr) (n c n' c' : Nat), (binOp .eql 22 (.slice a n c) (.slice none n' c')).run Tryz.prog w = .ok (.bool a.isNone) w := fun w a n c n' c' => Lib.run_eql_slice_nil w _ _ a n c n' c' Tryz.underlying22
  have HA := Lib.hid ha
  obtain ⟨A, c, rfl, _, _, he⟩ := ha
  cases A with
  | none =>
    have hn : l = [] := by
      cases l with
      | nil => rfl
      | cons y r =>
        obtain ⟨L, ⟨a', e, _⟩, _⟩ := he 0 y rfl
        cases e
    subst hn
    clear he
    go_enter Tryz.func96, Tryz.ntmps96
    go_wp2_with fail
    go_ret
    exact ⟨_, rfl, OwnS.nil _ _, Below.refl _ _⟩
  | some a =>
    have hal := Lib.hid ((Below.refl w.heap.size w).alloc (Nat.le_refl _) (.cells #[] 9))
    have HO := Lib.hid (show OwnS w.heap.size (w.alloc (.cells #[] 9)) (.slice (some ⟨w.heap.size, 0, none⟩) 0 0) [] from ⟨World.ownsRow_made w #[] 0 (Nat.le_refl _) (Nat.zero_le _) rfl, by simp⟩)
    have hlen : ([] : List Tx).length + l.length ≤ 4194304 := by simp; omega
    clear he
    go_enter Tryz.func96, Tryz.ntmps96
    go_wp2_with (at_builtin; refine append_strs rfl _ _ rfl rfl rfl HO.out (HA.out.under hal.out) hlen (by simp) ?_; (intro v5 w5 h5; obtain ⟨ho5, hb5, _⟩ := h5; have HO5 := Lib.hid ho5; have HB5 := Lib.hid (hal.out.trans hb5); clear ho5 hb5))
    go_ret
    exact ⟨_, rfl, by simpa using HO5.out, HB5.out⟩
theorem vars_part {n : QNode} (k : Nat) (h : (varsQ n).length ≤ 2097152) : (n.ins ++ (n.items.take k).flatMap definedQ).length ≤ 2097152 := by
  have h1 := flat_le definedQ n.items k
  unfold varsQ at h
  rw [List.length_append] at h ⊢
  omega
theorem defined_part {n : QNode} {i : QItem} (hi : i ∈ n.items) (h : (varsQ n).length ≤ 2097152) : (definedQ i).length ≤ 2097152 := by
  obtain ⟨k, hk⟩ := List.getElem?_of_mem hi
  have h1 := flat_le definedQ n.items (k + 1)
  rw [flat_snoc hk, List.length_append] at h1
  unfold varsQ at h
  rw [List.length_append] at h
  omega
set_option maxHeartbeats 4000000 in
set_option maxRecDepth 100000 in
theorem vars_any {w0 : World} {L : List Value} {n : QNode} (hL : NodeAt w0 L n) (hlen : (varsQ n).length ≤ 2097152) : ∀ w, Below w0.heap.size w0 w → Calls Tryz.prog 51 #[.agg L.toArray] w (OwnPost (varsQ n) w) := by
  intro w hb
  have HB := Lib.hid hb
  have hsz := hb.size
  have HPART := Lib.hid (fun k => vars_part (n := n) k hlen)
  have HDP := Lib.hid (fun i hi => defined_part (n := n) (i := i) hi hlen)
  have hil : n.ins.length ≤ 2097152 := by have := vars_part (n := n) 0 hlen; simpa using this
  have HVQ := Lib.hid (show varsQ n = n.ins ++ n.items.flatMap definedQ from rfl)
  obtain ⟨fv, iv, ov, xv, rfl, hnl, hfu, hin, hou, hit⟩ := hL
  have HIN := Lib.hid (hin.under hb)
  obtain ⟨fA, fn, fk, rfl⟩ := SliceAt.shape hfu
  obtain ⟨iA, im, ik, rfl⟩ := SliceAt.shape hin
  obtain ⟨oA, on, ok, rfl⟩ := SliceAt.shape hou
  obtain ⟨xA, xk, rfl, hxc, hxm, hxe⟩ := hit
  have HXE := Lib.hid hxe
  have hxl : n.items.length ≤ 9223372036854775807 := by have h : n.items.length ≤ xk := hxc; unfold maxLen at hxm; omega
  have hal := Lib.hid ((Below.refl w.heap.size w).alloc (Nat.le_refl _) (.cells #[.string (str n.name), .slice fA fn fk, .slice iA im ik, .slice oA on ok, .slice xA n.items.length xk] 32))
  have BN := Lib.hid (heap_alloc_new w (.cells #[.string (str n.name), .slice fA fn fk, .slice iA im ik, .slice oA on ok, .slice xA n.items.length xk] 32))
  clear hb hlen hfu hin hou hxc hxm hxe hnl
  go_enter Tryz.func51, Tryz.ntmps51
  go_wp2_with (go_at_call 96
               (with_reducible refine (clone_any (HIN.out.under hal.out) hil).mono ?_)
               rintro e w7 ⟨v7, rfl, ho7, hb7⟩
               obtain ⟨V, rfl⟩ : ∃ W, W = w7 := ⟨_, rfl⟩
               have HO7 := Lib.hid (ho7.mono hal.out.size)
               have HV := Lib.hid (hal.out.trans (hb7.mono hal.out.size))
               have BN7 := Lib.hid (box_next hb7 BN.out)
               obtain ⟨_, _, _, _, nb4⟩ := row5 BN7.out
               clear ho7 hb7)
  have hszV := HV.out.size
  clear nb4
  go_loopg [3, 12] n.items.length (fun g v i wr => ∃ k : Nat, k + g = n.items.length ∧ i = .int .i64 k ∧ OwnS w.heap.size wr v (n.ins ++ (n.items.take k).flatMap definedQ) ∧ Below w.heap.size w wr)
  case atStart => exact ⟨0, by omega, rfl, by simpa using HO7.out, HV.out⟩
  case round =>
    obtain ⟨wq, rfl⟩ : ∃ W, W = wr := ⟨_, rfl⟩
    obtain ⟨k, hkg, rfl, ho, hbw⟩ := hrel
    have HK := Lib.hid hkg
    have HW := Lib.hid hbw
    have HO := Lib.hid ho
    have hszw := hbw.size
    have hkl : k ≤ n.items.length := by omega
    clear hkg hbw ho
    by_cases hlt : k < n.items.length
    · obtain ⟨q, hq⟩ : ∃ q, n.items[k]? = some q := ⟨_, List.getElem?_eq_getElem hlt⟩
      have HT := Lib.hid (show n.ins ++ (n.items.take (k + 1)).flatMap definedQ = (n.ins ++ (n.items.take k).flatMap definedQ) ++ definedQ q by rw [flat_snoc hq, List.append_assoc])
      have HDQ := Lib.hid (HDP.out q (List.mem_of_getElem? hq))
      have hlen1 : (n.ins ++ (n.items.take k).flatMap definedQ).length + (definedQ q).length ≤ 4194304 := by
        have h1 := HPART.out k
        have h2 := HDQ.out
        omega
      obtain ⟨Lq, hEq, hRq⟩ := HXE.out k q hq
      have HITM := Lib.hid hRq
      obtain ⟨A0, n0, k0, o1, s2, o3, A4, n4, k4, A5, n5, k5, A6, n6, k6, rfl⟩ := hRq.shape
      have HBQ := Lib.hid (HB.out.trans (HW.out.mono hsz))
      obtain ⟨a, ea, ha, haa, d0, d1, d2, d3, d4, d5, d6⟩ := elem7 (hEq.under HBQ.out)
      subst ea
      have HA3 := Lib.hid ((Below.refl wq.heap.size wq).alloc (Nat.le_refl _) (.cells #[.slice A0 n0 k0, .int .i64 o1, .string s2, .int .i64 o3, .slice A4 n4 k4, .slice A5 n5 k5, .slice A6 n6 k6] 80))
      have HDEF := Lib.hid (defined_any HITM.out HDQ.out _ (HBQ.out.trans (HA3.out.mono HBQ.out.size)))
      clear hq hEq hRq
      go_wp2_with (first
        | (go_at_call 97
           (with_reducible refine HDEF.out.mono ?_)
           rintro e w8 ⟨v8, rfl, hs8, hb8⟩
           obtain ⟨A8, n8, k8, rfl⟩ := SliceAt.shape hs8
           obtain ⟨V8, rfl⟩ : ∃ W, W = w8 := ⟨_, rfl⟩
           have HS8 := Lib.hid hs8
           have HB8 := Lib.hid (HW.out.trans ((HA3.out.trans (hb8.mono HA3.out.size)).mono hszw))
           have HO8 := Lib.hid ((HO.out.alloc _).under hb8)
           have hsz8 := HB8.out.size
           clear hs8 hb8)
        | (at_builtin; refine append_strs rfl _ _ rfl rfl rfl HO8.out HS8.out hlen1 hsz8 ?_; (intro v5 w5 h5; obtain ⟨ho5, hb5, _⟩ := h5; have HO5 := Lib.hid ho5; have HB5 := Lib.hid (HB8.out.trans hb5); clear ho5 hb5)))
      go_roundg (n.items.length - (k + 1))
      case measure => have := HK.out; omega
      case rel => exact ⟨k + 1, by omega, by go_num, by rw [HT.out]; exact HO5.out, HB5.out⟩
    · have hke : k = n.items.length := by omega
      have HOe := Lib.hid (show OwnS w.heap.size wq _ (varsQ n) by have := HO.out; rwa [hke, List.take_length, ← HVQ.out] at this)
      clear hke
      go_wp2_with fail
      go_ret
      exact ⟨_, rfl, HOe.out, HW.out⟩
set_option maxHeartbeats 4000000 in
set_option maxRecDepth 100000 in
theorem rdefined_any {w0 : World} {L : List Value} {i : QItem} (hL : ItemAt w0 L i) (hlen : (definedQ i).length ≤ 2097152) : ∀ w, Below w0.heap.size w0 w → Calls Tryz.prog 54 #[.agg L.toArray] w (StrsPost (definedQ i) w) := by
  intro w hb
  have HB := Lib.hid hb
  have hsz := hb.size
  obtain ⟨⟨nm, e⟩, sts⟩ := i
  obtain ⟨L', sv, rfl, ⟨nv, Le, rfl, hnv, hxe⟩, hst⟩ := hL
  have HNV := Lib.hid hnv
  obtain ⟨nA, nn, nk, rfl⟩ := SliceAt.shape hnv
  obtain ⟨eo1, es2, eo3, eA4, en4, ek4, eA5, en5, ek5, rfl⟩ := hxe.shape
  obtain ⟨sA, sc, rfl, hsc, hsm, hes⟩ := hst
  simp only [List.cons_append, List.nil_append]
  have hsl : sts.length ≤ 9223372036854775807 := by have h : sts.length ≤ sc := hsc; unfold maxLen at hsm; omega
  clear hb hnv hxe hsc hsm
  cases sts with
  | nil =>
    have hal := Lib.hid ((Below.refl w.heap.size w).alloc (Nat.le_refl _) (.cells #[.slice nA nn nk, .int .i64 eo1, .string es2, .int .i64 eo3, .slice eA4 en4 ek4, .slice eA5 en5 ek5, .slice sA ([] : List QState).length sc] 80))
    clear hes
    go_enter Tryz.func54, Tryz.ntmps54
    go_wp2_with fail
    go_ret
    exact ⟨_, rfl, (HNV.out.under HB.out).under hal.out, hal.out⟩
  | cons z sr =>
    have hd : (((z :: sr).length : Int) == 0) = false := by simp; omega
    have hpos : 0 < (z :: sr).length := by simp
    obtain ⟨N, hEN, hRN⟩ := hes 0 z rfl
    obtain ⟨zn, eqs, ways⟩ := z
    obtain ⟨ev, wv, rfl, _, hev, hwv⟩ := hRN
    obtain ⟨qA, qc, rfl, hqc, hqm, heq⟩ := hev
    obtain ⟨yA, yn, yc, rfl⟩ := SliceAt.shape hwv
    have hql : eqs.length ≤ 9223372036854775807 := by have h : eqs.length ≤ qc := hqc; unfold maxLen at hqm; omega
    have hX : definedQ ⟨⟨nm, e⟩, ⟨zn, eqs, ways⟩ :: sr⟩ = eqs.flatMap QEq.names := rfl
    rw [hX] at hlen ⊢
    obtain ⟨b, rfl, hbb, hbbb, e0, e1, e2⟩ := elem3 (hEN.under HB.out)
    have HEN := Lib.hid hEN
    have HEQ := Lib.hid heq
    have hal := Lib.hid ((Below.refl w.heap.size w).alloc (Nat.le_refl _) (.cells #[.slice nA nn nk, .int .i64 eo1, .string es2, .int .i64 eo3, .slice eA4 en4 ek4, .slice eA5 en5 ek5, .slice (some b) (⟨zn, eqs, ways⟩ :: sr : List QState).length sc] 80))
    have BX := Lib.hid (heap_alloc_new w (.cells #[.slice nA nn nk, .int .i64 eo1, .string es2, .int .i64 eo3, .slice eA4 en4 ek4, .slice eA5 en5 ek5, .slice (some b) (⟨zn, eqs, ways⟩ :: sr : List QState).length sc] 80))
    generalize hn : (⟨zn, eqs, ways⟩ :: sr : List QState).length = sn at *
    clear hqc hqm hEN hes hwv hX e0 e1 e2 hbbb heq
    go_enter Tryz.func54, Tryz.ntmps54
    go_wp2_with fail
    go_loopg [3, 4] eqs.length (fun g v i wr => ∃ k : Nat, k + g = eqs.length ∧ i = .int .i64 k ∧ OwnS (w.heap.size + 1) wr v ((eqs.take k).flatMap QEq.names) ∧ Below (w.heap.size + 1) (w.alloc (.cells #[.slice nA nn nk, .int .i64 eo1, .string es2, .int .i64 eo3, .slice eA4 en4 ek4, .slice eA5 en5 ek5, .slice (some b) sn sc] 80)) wr)
    case atStart => exact ⟨0, by omega, rfl, by simpa using OwnS.nil _ _, Below.refl _ _⟩
    case round =>
      obtain ⟨wr1, rfl⟩ : ∃ W, W = wr := ⟨_, rfl⟩
      obtain ⟨k, hkg, rfl, ho, hbw⟩ := hrel
      have HK := Lib.hid hkg
      have HW := Lib.hid hbw
      have HO := Lib.hid ho
      have hszw : w.heap.size + 1 ≤ wr1.heap.size := by have := hbw.size; simpa using this
      have HWW := Lib.hid (hal.out.trans (hbw.mono (Nat.le_succ _)))
      have HB3 := Lib.hid (HB.out.trans (HWW.out.mono hsz))
      have hkl : k ≤ eqs.length := by omega
      obtain ⟨z0, z1, z2, z3, z4, z5, z6⟩ := row7 ((hbw.block w.heap.size (Nat.lt_succ_self _)).trans BX.out)
      obtain ⟨b', eb', _, _, _, e1, _⟩ := elem3 (HEN.out.under HB3.out)
      cases eb'
      have e1 := at_zero e1
      clear hkg hbw ho
      by_cases hlt : k < eqs.length
      · obtain ⟨q, hq⟩ : ∃ q, eqs[k]? = some q := ⟨_, List.getElem?_eq_getElem hlt⟩
        have HT := Lib.hid (flat_snoc (f := QEq.names) hq)
        have hlen1 : ((eqs.take k).flatMap QEq.names).length + q.names.length ≤ 4194304 := by
          have h1 := flat_le QEq.names eqs (k + 1)
          rw [flat_snoc hq, List.length_append] at h1
          omega
        obtain ⟨N3, hEN3, nv3, Le3, rfl, hnv3, hxe3⟩ := HEQ.out k q hq
        have HN3 := Lib.hid hnv3
        obtain ⟨nA3, nn3, nk3, rfl⟩ := SliceAt.shape hnv3
        obtain ⟨fo1, fs2, fo3, fA4, fn4, fk4, fA5, fn5, fk5, rfl⟩ := hxe3.shape
        obtain ⟨c, rfl, hcb, hcbb, f0, f1, f2, f3, f4, f5⟩ := elem6 (hEN3.under HB3.out)
        clear hnv3 hxe3 hEN3 hq f1 f2 f3 f4 f5
        go_wp2_with (at_builtin; refine append_strs rfl _ _ rfl rfl rfl HO.out (HN3.out.under HB3.out) hlen1 hszw ?_; (intro v5 w5 h5; obtain ⟨ho5, hb5, _⟩ := h5; have HO5 := Lib.hid ho5; have HB5 := Lib.hid (HW.out.trans hb5); clear ho5 hb5))
        go_roundg (eqs.length - (k + 1))
        case measure => have := HK.out; omega
        case rel => exact ⟨k + 1, by omega, by go_num, by rw [HT.out]; exact HO5.out, HB5.out⟩
      · have hke : k = eqs.length := by omega
        have HOe := Lib.hid (show OwnS (w.heap.size + 1) wr1 _ (eqs.flatMap QEq.names) by have := HO.out; rwa [hke, List.take_length] at this)
        clear hke
        go_wp2_with fail
        go_ret
        exact ⟨_, rfl, HOe.out.strs, HWW.out⟩
end Go.Proofs.YtifbdglhfoimjaaGreatDoor
