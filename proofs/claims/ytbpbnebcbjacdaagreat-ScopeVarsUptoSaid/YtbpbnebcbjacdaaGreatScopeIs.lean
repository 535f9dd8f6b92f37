/-
  The closures of addStates and addHead: is it a constant, is it taken?
-/
import Derived.Test.YtbpbnebcbjacdaaGreatScopeDef
import Derived.Test.YtbpbnebcbjacdaaGreatScopeKid
namespace Go.Proofs.YtbpbnebcbjacdaaGreat
open Go.RowKit
open Go.ChangeMaps Go.MapKept
open Go.Maps

theorem consR_shape {w : World} {l : List (Tx × Value)} {cs : List (Tx × List Tx)} (h : ConsR w l cs) : ∀ p ∈ l, ShE p.2 := by
  intro p hp
  obtain ⟨i, hi⟩ := List.getElem?_of_mem hp
  obtain ⟨a, b⟩ := p
  obtain ⟨x, hx⟩ := pair_at (l := cs) (m := l) h.1.symm hi
  obtain ⟨s, A, m, j, e, _⟩ := h.2 i _ _ hi hx
  exact ⟨s, A, m, j, e⟩
theorem nodesR_shape {l : List (Tx × Value)} {ns : List (Tx × QNode)} (h : NodesR l ns) : ∀ p ∈ l, ShN p.2 := by
  intro p hp
  obtain ⟨i, hi⟩ := List.getElem?_of_mem hp
  obtain ⟨a, b⟩ := p
  obtain ⟨x, hx⟩ := pair_at (l := ns) (m := l) h.1.symm hi
  obtain ⟨s, A1, c1, A2, c2, A3, c3, A4, m4, c4, e⟩ := h.2 i _ _ hi hx
  exact ⟨s, A1, A2, A3, A4, _, c1, _, c2, _, c3, m4, c4, e⟩
theorem enter97 : EntersP 97 := enters_of Tryz.func97 (by kernel_rfl) rfl
theorem enter72 : EntersP 72 := enters_of Tryz.func72 (by kernel_rfl) rfl
section
variable {S P e1 c1 n1 t1 : Nat} {x1 x2 x3 x4 x5 x6 x7 : Value} {sp : SProg}
set_option maxHeartbeats 1000000 in
theorem isConC_any {w0 : World} (h : ScopeAt w0 P e1 c1 n1 t1 sp) (hbox : w0.heap[S]? = some (.cells #[.pointer (some ⟨P, 0, none⟩), x1, x2, x3, x4, x5, x6, x7] 92 (0, 0)))
    {N : Nat} (hN : w0.heap[N]? = some (.cells #[.pointer (some ⟨S, 0, none⟩)] 89 (0, 0))) {x : Tx} (hl : x.length ≤ maxLen) :
    ∀ w, Below w0.heap.size w0 w → Calls Tryz.prog 97 #[.string (str x), .pointer (some ⟨N, 0, none⟩)] w (BoolPost (sp.conKeys.contains x) w) := by
  intro w hw
  have h := h.under hw
  obtain ⟨l, hm, hr⟩ := h.mc
  have HK := Lib.hid (show keysOf l = sp.conKeys from hr.1)
  have H := Lib.hid (knownE_any hm (consR_shape hr) hl)
  have x0 := row1 (box_next hw hN)
  obtain ⟨y0, y1, y2, y3, y4, y5, y6, y7⟩ := row8 (box_next hw hbox)
  obtain ⟨z0, z1, z2, z3⟩ := h.row
  clear h hN hl hw hbox hm hr
  go_enter Tryz.func97, Tryz.ntmps97
  go_wp2_with (go_at_call 70; (with_reducible refine H.out.mono ?_); rintro e w1 ⟨rfl, hb1⟩)
  go_ret
  exact ⟨ret_bool (by rw [HK.out, List.contains_eq_mem]), hb1⟩
set_option maxHeartbeats 2000000 in
theorem takenC_any {w0 : World} (h : ScopeAt w0 P e1 c1 n1 t1 sp) (hbox : w0.heap[S]? = some (.cells #[.pointer (some ⟨P, 0, none⟩), x1, x2, x3, x4, x5, x6, x7] 92 (0, 0)))
    {N M : Nat} (hN : w0.heap[N]? = some (.cells #[.pointer (some ⟨S, 0, none⟩)] 89 (0, 0))) {nm : Tx} {u1 u2 u3 u4 : Value} (hM : w0.heap[M]? = some (.cells #[.string (str nm), u1, u2, u3, u4] 41 (0, 0))) {x : Tx} (hl : x.length ≤ maxLen) :
    ∀ w, Below w0.heap.size w0 w → Calls Tryz.prog 72 #[.string (str x), .pointer (some ⟨M, 0, none⟩), .pointer (some ⟨N, 0, none⟩)] w (BoolPost (x == nm || sp.nodeKeys.contains x) w) := by
  intro w hw
  have h := h.under hw
  obtain ⟨l, hm, hr⟩ := h.mn
  have HK := Lib.hid (show keysOf l = sp.nodeKeys from hr.1)
  have H := Lib.hid (knownN_any hm (nodesR_shape hr) hl)
  have x0 := row1 (box_next hw hN)
  obtain ⟨y0, y1, y2, y3, y4, y5, y6, y7⟩ := row8 (box_next hw hbox)
  obtain ⟨z0, z1, z2, z3⟩ := h.row
  obtain ⟨v0, _, _, _, _⟩ := row5 (box_next hw hM)
  clear h hN hl hw hbox hm hr hM
  by_cases hx : x = nm
  · subst hx
    go_enter Tryz.func72, Tryz.ntmps72
    go_wp2_with fail
    go_ret
    exact ⟨ret_bool (by simp), Below.refl _ _⟩
  · have hq : ((str x).toList == (str nm).toList) = false := by rw [str_toL, str_toL]; simp; exact fun e => hx e
    have HX := Lib.hid hx
    clear hx
    go_enter Tryz.func72, Tryz.ntmps72
    go_wp2_with (go_at_call 73; (with_reducible refine H.out.mono ?_); rintro e w1 ⟨rfl, hb1⟩; have HB1 := Lib.hid hb1; clear hb1)
    go_ret
    exact ⟨ret_bool (by rw [HK.out]; simp [HX.out]), HB1.out⟩
end
end Go.Proofs.YtbpbnebcbjacdaaGreat
