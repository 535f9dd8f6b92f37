/-
  defined: the names that an item defines.
-/
import Derived.Test.YtbpbnebcbjacdaaGreatScopeOnce
import Derived.Test.YtbpbnebcbjacdaaGreatOwnStr
namespace Go.Proofs.YtbpbnebcbjacdaaGreat
open Go.RowKit

/-- a slice that holds the strings l, read only -/
def StrsPost (l : List Tx) (w : World) (e : Ending) (w' : World) : Prop := ∃ v, e = .returned v ∧ StrsAt w' v l ∧ Below w.heap.size w w'
theorem at_zero {w : World} {a : Addr} {v : Value} {n : Nat} (h : w.cell? { block := (a.add (0 * n)).block, off := (a.add (0 * n)).off + 1 } = some v) : w.cell? { block := a.block, off := a.off + 1 } = some v := by
  rw [Nat.zero_mul, add_zero] at h; exact h
set_option maxHeartbeats 4000000 in
set_option maxRecDepth 100000 in
theorem defined_any {w0 : World} {L : List Value} {i : QItem} (hL : ItemAt w0 L i) (hlen : (definedQ i).length ≤ 2097152) : ∀ w, Below w0.heap.size w0 w → Calls Tryz.prog 33 #[.agg L.toArray] w (StrsPost (definedQ i) w) := by
  intro w hb
  have HB := Lib.hid hb
  have hsz := hb.size
  obtain ⟨⟨nm, e⟩, sts⟩ := i
  obtain ⟨L', sv, rfl, ⟨nv, Le, rfl, hnv, hxe⟩, hst⟩ := hL
  have HNV := Lib.hid hnv
  obtain ⟨nA, nn, nk, rfl⟩ := SliceAt.shape hnv
  obtain ⟨eo1, es2, eo3, eA4, en4, ek4, eA5, en5, ek5, rfl⟩ := hxe.shape
  obtain ⟨sA, sc, rfl, hsc, hsm, hes⟩ := hst
  simp only [List.cons_append, List.nil_append]
  have hsl : sts.length ≤ 9223372036854775807 := by have h : sts.length ≤ sc := hsc; unfold maxLen at hsm; omega
  clear hb hnv hxe hsc hsm
  cases sts with
  | nil =>
    have hal := Lib.hid ((Below.refl w.heap.size w).alloc (Nat.le_refl _) (.cells #[.slice nA nn nk, .int .i64 eo1, .string es2, .int .i64 eo3, .slice eA4 en4 ek4, .slice eA5 en5 ek5, .slice sA ([] : List QState).length sc] 55))
    clear hes
    go_enter Tryz.func33, Tryz.ntmps33
    go_wp2_with fail
    go_ret
    exact ⟨_, rfl, (HNV.out.under HB.out).under hal.out, hal.out⟩
  | cons z sr =>
    have hd : (((z :: sr).length : Int) == 0) = false := by simp; omega
    have hpos : 0 < (z :: sr).length := by simp
    obtain ⟨N, hEN, hRN⟩ := hes 0 z rfl
    obtain ⟨zn, eqs, ways⟩ := z
    obtain ⟨ev, wv, rfl, _, hev, hwv⟩ := hRN
    obtain ⟨qA, qc, rfl, hqc, hqm, heq⟩ := hev
    obtain ⟨yA, yn, yc, rfl⟩ := SliceAt.shape hwv
    have hql : eqs.length ≤ 9223372036854775807 := by have h : eqs.length ≤ qc := hqc; unfold maxLen at hqm; omega
    have hX : definedQ ⟨⟨nm, e⟩, ⟨zn, eqs, ways⟩ :: sr⟩ = eqs.flatMap QEq.names := rfl
    rw [hX] at hlen ⊢
    obtain ⟨b, rfl, hbb, hbbb, e0, e1, e2⟩ := elem3 (hEN.under HB.out)
    have e1 := at_zero e1
    generalize hn : (⟨zn, eqs, ways⟩ :: sr : List QState).length = sn at *
    clear hqc hqm hEN hes hwv hX e0 e2 hbbb
    go_enter Tryz.func33, Tryz.ntmps33
    go_wp2_with fail
    go_loopg [3, 19] eqs.length (fun g v i wr => ∃ k : Nat, k + g = eqs.length ∧ i = .int .i64 k ∧ OwnS w.heap.size wr v ((eqs.take k).flatMap QEq.names) ∧ Below w.heap.size w wr)
    case atStart => exact ⟨0, by omega, rfl, by simpa using OwnS.nil _ _, (Below.refl _ w).alloc (Nat.le_refl _) _⟩
    case round =>
      obtain ⟨wr1, rfl⟩ : ∃ W, W = wr := ⟨_, rfl⟩
      obtain ⟨k, hkg, rfl, ho, hbw⟩ := hrel
      have HK := Lib.hid hkg
      have HW := Lib.hid hbw
      have HO := Lib.hid ho
      have hszw := hbw.size
      have hkl : k ≤ eqs.length := by omega
      clear hkg hbw ho
      by_cases hlt : k < eqs.length
      · obtain ⟨q, hq⟩ : ∃ q, eqs[k]? = some q := ⟨_, List.getElem?_eq_getElem hlt⟩
        have HT := Lib.hid (flat_snoc (f := QEq.names) hq)
        have hlen1 : ((eqs.take k).flatMap QEq.names).length + q.names.length ≤ 4194304 := by
          have h1 := flat_le QEq.names eqs (k + 1)
          rw [flat_snoc hq, List.length_append] at h1
          omega
        obtain ⟨N3, hEN3, nv3, Le3, rfl, hnv3, hxe3⟩ := heq k q hq
        have HN3 := Lib.hid hnv3
        obtain ⟨nA3, nn3, nk3, rfl⟩ := SliceAt.shape hnv3
        obtain ⟨fo1, fs2, fo3, fA4, fn4, fk4, fA5, fn5, fk5, rfl⟩ := hxe3.shape
        have HB3 := Lib.hid (HB.out.trans (HW.out.mono hsz))
        obtain ⟨c, rfl, hcb, hcbb, f0, f1, f2, f3, f4, f5⟩ := elem6 (hEN3.under HB3.out)
        have HA3 := Lib.hid ((Below.refl wr1.heap.size wr1).alloc (Nat.le_refl _) (.cells #[.slice nA3 nn3 nk3, .int .i64 fo1, .string fs2, .int .i64 fo3, .slice fA4 fn4 fk4, .slice fA5 fn5 fk5] 52))
        clear hnv3 hxe3 hEN3 hq heq
        go_wp2_with (at_builtin; refine append_strs rfl _ _ rfl rfl rfl (HO.out.alloc _) ((HN3.out.under HB3.out).under HA3.out) hlen1 ?_ ?_; (first | omega | (simp; omega)); (intro v5 w5 h5; obtain ⟨ho5, hb5, _⟩ := h5; have HO5 := Lib.hid ho5; have HB5 := Lib.hid ((HW.out.alloc (by omega) _).trans hb5); clear ho5 hb5))
        go_roundg (eqs.length - (k + 1))
        case measure => have := HK.out; omega
        case rel => exact ⟨k + 1, by omega, by go_num, by rw [HT.out]; exact HO5.out, HB5.out⟩
      · have hke : k = eqs.length := by omega
        have HOe := Lib.hid (show OwnS w.heap.size wr1 _ (eqs.flatMap QEq.names) by have := HO.out; rwa [hke, List.take_length] at this)
        clear hke
        go_wp2_with fail
        go_ret
        exact ⟨_, rfl, HOe.out.strs, HW.out⟩
end Go.Proofs.YtbpbnebcbjacdaaGreat
