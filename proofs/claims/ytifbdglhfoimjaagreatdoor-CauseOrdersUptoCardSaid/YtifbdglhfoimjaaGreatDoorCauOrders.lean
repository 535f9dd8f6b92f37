/-
  CauseOrders: the walk.
-/
import Derived.Test.YtifbdglhfoimjaaGreatDoorCauOrdR
import Derived.Test.YtifbdglhfoimjaaGreatDoorCauReads
namespace Go.Proofs.YtifbdglhfoimjaaGreatDoor
open Go.RowKit

theorem defined_w (i : QItem) : (definedQ i).length ≤ wItem i := by
  obtain ⟨⟨nm, e⟩, sts⟩ := i
  cases sts with
  | nil =>
    have := len_wN nm
    show nm.length ≤ _
    simp only [wItem, wEq, wL]
    omega
  | cons z r =>
    have h1 := len_flat (f := QEq.names) (g := wEq) (l := z.eqs) (fun q _ => by have := len_wN q.names; simp only [wEq]; omega)
    show (z.eqs.flatMap QEq.names).length ≤ _
    simp only [wItem, wL, wState]
    omega
theorem occ_wI (i : QItem) : (occX i.eq.e).length ≤ wItem i := by
  have := occ_wX i.eq.e
  simp only [wItem, wEq]
  omega
theorem items_w (n : QNode) : wL wItem n.items ≤ wNode n := by unfold wNode; omega
set_option maxRecDepth 100000 in
set_option maxHeartbeats 4000000 in
theorem orders_law {w : World} {L : List Value} {n : QNode} (h : NodeAt w L n) (hq : wNode n ≤ 1048576) : Calls Tryz.prog 4 #[.agg L.toArray] w (Lived w) := by
  have hw := items_w n
  have hd : ∀ i ∈ n.items, (definedQ i).length ≤ 2097152 := fun i hi => by have h1 := defined_w i; have h2 := wL_mem (f := wItem) hi; omega
  have ho : ∀ i ∈ n.items, (occX i.eq.e).length ≤ 2097152 := fun i hi => by have h1 := occ_wI i; have h2 := wL_mem (f := wItem) hi; omega
  have hn : n.items.length ≤ 1048576 := by have := len_wL (f := wItem) (l := n.items) (fun i _ => by unfold wItem; omega); omega
  have hf : (n.items.flatMap fun i => occX i.eq.e).length ≤ 2097152 := by have := len_flat (f := fun i => occX i.eq.e) (g := wItem) (l := n.items) (fun i _ => occ_wI i); omega
  have HOA := Lib.hid (fun W hW => orderN_any h hd ho hn hf W hW)
  have HOB := Lib.hid (fun W hW => orderR_any h hd ho hn W hW)
  have HAL := Lib.hid (srcS_len n.items)
  have HQL := Lib.hid (ordQ_len (srcS n.items))
  have HN := Lib.hid hn
  obtain ⟨S, hS⟩ : ∃ S, S = srcS n.items := ⟨_, rfl⟩
  rw [← hS] at HOA HOB HAL HQL
  have HLA := Lib.hid (show (ordA S).length ≤ 9223372036854775807 by
    have h1 := HQL.out; have h2 := HAL.out; have h3 := HN.out
    unfold ordA
    split <;> simp <;> omega)
  obtain ⟨fv, iv, ov, xv, rfl, _, hfu, hin, hou, hit⟩ := h
  obtain ⟨fA, fn, fk, rfl⟩ := SliceAt.shape hfu
  obtain ⟨iA, im, ik, rfl⟩ := SliceAt.shape hin
  obtain ⟨oA, on, ok, rfl⟩ := SliceAt.shape hou
  obtain ⟨xA, xn, xk, rfl⟩ := SliceAt.shape hit
  have H0 := Lib.hid ((Below.refl w.heap.size w).alloc (Nat.le_refl _) (.cells #[.string (str n.name), .slice fA fn fk, .slice iA im ik, .slice oA on ok, .slice xA xn xk] 32))
  have B0 := Lib.hid (heap_alloc_new w (.cells #[.string (str n.name), .slice fA fn fk, .slice iA im ik, .slice oA on ok, .slice xA xn xk] 32))
  clear hfu hin hou hit hw hd ho hn hf hS hq
  go_enter Tryz.func4, Tryz.ntmps4
  go_wp2_with (first
    | (go_at_call 6
       (with_reducible refine (lives11_any _).mono ?_)
       rintro e w7 ⟨rfl, hb7⟩
       obtain ⟨V1, rfl⟩ : ∃ W, W = w7 := ⟨_, rfl⟩
       have H1 := Lib.hid (H0.out.trans (hb7.mono H0.out.size))
       have B1 := Lib.hid (box_next hb7 B0.out)
       obtain ⟨p0, p1, p2, p3, p4⟩ := row5 B1.out
       clear hb7)
    | (go_at_call 10
       (with_reducible refine (HOA.out _ H1.out).mono ?_)
       rintro e w8 ⟨v8, rfl, ho8, hb8⟩
       obtain ⟨V2, rfl⟩ : ∃ W, W = w8 := ⟨_, rfl⟩
       have H2 := Lib.hid (H1.out.trans (hb8.mono H1.out.size))
       have B2 := Lib.hid (box_next hb8 B1.out)
       obtain ⟨A8, n8, c8, rfl, hn8⟩ := ho8.shape
       rw [natI_len] at hn8
       subst hn8
       have HA2 := Lib.hid ho8
       clear hb8 ho8 p0 p1 p2 p3 p4
       obtain ⟨p0, p1, p2, p3, p4⟩ := row5 B2.out)
    | (go_at_call 11
       (with_reducible refine (HOB.out _ H2.out).mono ?_)
       rintro e w9 ⟨v9, rfl, ho9, hb9⟩
       obtain ⟨V3, rfl⟩ : ∃ W, W = w9 := ⟨_, rfl⟩
       have H3 := Lib.hid (H2.out.trans (hb9.mono H2.out.size))
       obtain ⟨A9, n9, c9, rfl, hn9⟩ := ho9.shape
       rw [natI_len] at hn9
       subst hn9
       have HA3 := Lib.hid (HA2.out.under hb9)
       have HB3 := Lib.hid ho9
       clear hb9 ho9 p0 p1 p2 p3 p4))
  have hlo := HLA.out
  go_loopg [7] (ordA S).length (fun g v wr => ∃ k : Nat, k + g = (ordA S).length ∧ v = .int .i64 k ∧ Below V3.heap.size V3 wr)
  case atStart => exact ⟨0, by omega, rfl, Below.refl _ _⟩
  case round =>
    obtain ⟨k, hkg, rfl, hbz⟩ := hrel
    obtain ⟨wz, rfl⟩ : ∃ W, W = wr := ⟨_, rfl⟩
    have HK := Lib.hid hkg
    have HBZ := Lib.hid hbz
    have hkl : k ≤ (ordA S).length := by omega
    clear hkg hbz
    by_cases hlt : k < (ordA S).length
    · obtain ⟨x, hx⟩ : ∃ x, (ordA S)[k]? = some x := ⟨_, List.getElem?_eq_getElem hlt⟩
      obtain ⟨g1, k1, e1, _, _, _, _, hc1, _⟩ := (HA3.out.under HBZ.out).at_ (by rw [natI_len]; omega)
      obtain ⟨g2, k2, e2, _, _, _, _, hc2, _⟩ := (HB3.out.under HBZ.out).at_ (by rw [natI_len]; omega)
      injection e1 with e1 _ _
      injection e2 with e2 _ _
      subst e1 e2
      have t1 := hc1 k x (natI_get hx)
      have t2 := hc2 k x (natI_get hx)
      clear hc1 hc2 hx
      go_wp2_with fail
      go_quiet (fail)
      go_wp2_with fail
      go_roundg ((ordA S).length - (k + 1))
      case measure => have := HK.out; omega
      case rel => exact ⟨k + 1, by omega, by go_num, below_drewN HBZ.out _⟩
    · have hke : k = (ordA S).length := by omega
      have HR := Lib.hid (show Lived w (.returned (.bool true)) wz from ⟨rfl, H3.out.trans (HBZ.out.mono H3.out.size)⟩)
      clear hke
      go_wp2_with fail
      go_ret
      exact HR.out
theorem orders_call (L : List Value) (n : QNode) (w : World) (h : NodeAt w L n) (hq : wNode n ≤ 1048576) : Calls Tryz.prog 4 #[.agg L.toArray] w (Lived w) := orders_law h hq
end Go.Proofs.YtifbdglhfoimjaaGreatDoor
