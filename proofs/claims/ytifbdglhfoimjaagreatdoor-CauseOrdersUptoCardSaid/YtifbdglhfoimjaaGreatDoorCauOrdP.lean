/-
  Order: the order of a node's items.
-/
import Derived.Test.YtifbdglhfoimjaaGreatDoorCauRun
import Derived.Test.YtifbdglhfoimjaaGreatDoorCauSrc
namespace Go.Proofs.YtifbdglhfoimjaaGreatDoor
open Go.RowKit

theorem ordF_len (S : List (List Nat)) : ∀ (f : Nat) (out : List Nat), (ordF S f out).length ≤ out.length + f := by
  intro f
  induction f with
  | zero => intro out; exact Nat.le_refl _
  | succ f ih =>
    intro out
    rw [ordF]
    cases nextR S out with
    | none => simp
    | some b =>
      have := ih (out ++ [b])
      simp at this
      simp only
      omega
theorem ordQ_len (S : List (List Nat)) : (ordQ S).length ≤ S.length := by
  have := ordF_len S S.length []
  simpa [ordQ] using this
/-- the order, and whether there is one -/
def ordA (S : List (List Nat)) : List Nat := if (ordQ S).length < S.length then [] else ordQ S
def ordB (S : List (List Nat)) : Bool := !decide ((ordQ S).length < S.length)
def OrdRet (S : List (List Nat)) (w : World) (e : Ending) (w' : World) : Prop := ∃ v, e = .returned (.tuple #[v, .bool (ordB S)]) ∧ OwnN w.heap.size w' v (natI (ordA S)) ∧ Below w.heap.size w w'
theorem src_flat (items : List QItem) : (srcS items).flatten.length ≤ (items.flatMap fun i => occX i.eq.e).length := by
  unfold srcS
  induction items with
  | nil => simp
  | cons i r ih =>
    have key : ∀ l : List QItem, (l.map (srcI (i :: r))).flatten.length ≤ (l.flatMap fun i => occX i.eq.e).length := by
      intro l
      induction l with
      | nil => simp
      | cons j t ih2 =>
        rw [List.map_cons, List.flatten_cons, List.length_append, List.flatMap_cons, List.length_append]
        have h1 := src_few (i :: r) j
        have h2 := allL_len (occX j.eq.e) []
        unfold readsX at h1
        simp at h2
        omega
    exact key (i :: r)
set_option maxHeartbeats 2000000 in
set_option maxRecDepth 100000 in
theorem orderN_any {w0 : World} {L : List Value} {n : QNode} (h : NodeAt w0 L n) (hd : ∀ i ∈ n.items, (definedQ i).length ≤ 2097152) (ho : ∀ i ∈ n.items, (occX i.eq.e).length ≤ 2097152) (hn : n.items.length ≤ 1048576) (hf : (n.items.flatMap fun i => occX i.eq.e).length ≤ 2097152) (w : World) (hb : Below w0.heap.size w0 w) :
    Calls Tryz.prog 10 #[.agg L.toArray] w (OrdRet (srcS n.items) w) := by
  obtain ⟨fv, iv, ov, xv, rfl, hnl, hfu, hin, hou, hit⟩ := h
  obtain ⟨fA, fn, fk, rfl⟩ := SliceAt.shape hfu
  obtain ⟨iA, im, ik, rfl⟩ := SliceAt.shape hin
  obtain ⟨oA, on, ok, rfl⟩ := SliceAt.shape hou
  have hal : Below w.heap.size w (w.alloc (.cells #[.string (str n.name), .slice fA fn fk, .slice iA im ik, .slice oA on ok, xv] 32)) := (Below.refl _ w).alloc (Nat.le_refl _) _
  have HAL := Lib.hid hal
  have HSR := Lib.hid (sourcesOf_any hit hd ho hn _ (hb.trans (hal.mono hb.size)))
  have HLT := Lib.hid (fun l (hl : l ∈ srcS n.items) => src_lt hl)
  have HN := Lib.hid (show (srcS n.items).length ≤ 1048576 by rw [srcS_len]; exact hn)
  have HF := Lib.hid (Nat.le_trans (src_flat n.items) hf)
  have HQL := Lib.hid (ordQ_len (srcS n.items))
  obtain ⟨xA, xn, xk, rfl⟩ := SliceAt.shape hit
  obtain ⟨S, hS⟩ : ∃ S, S = srcS n.items := ⟨_, rfl⟩
  rw [← hS] at HLT HN HF HQL
  rw [← hS]
  have HSS := Lib.hid hS
  clear hnl hfu hin hou hit hd ho hn hf hb hal hS
  by_cases hl : (ordQ S).length < S.length
  · have HA := Lib.hid (show ordA S = [] ∧ ordB S = false by unfold ordA ordB; rw [if_pos hl]; simp [hl])
    have hd : decide ((ordQ S).length < S.length) = true := decide_eq_true hl
    clear hl
    go_enter Tryz.func10, Tryz.ntmps10
    go_wp2_with (first
      | (go_at_call 17
         (with_reducible refine HSR.out.mono ?_)
         rintro e w1 ⟨v1, rfl, hm1, hb1⟩
         rw [← HSS.out] at hm1
         obtain ⟨V1, rfl⟩ : ∃ W, W = w1 := ⟨_, rfl⟩
         have HO := Lib.hid (order_any (hm1.rows.imp fun _ _ _ => trivial) HLT.out HN.out HF.out)
         have HB1 := Lib.hid (HAL.out.trans (hb1.mono HAL.out.size))
         obtain ⟨B1, c1, e1, _⟩ := hm1.rows
         subst e1
         clear hm1 hb1)
      | (go_at_call 18
         (with_reducible refine HO.out.mono ?_)
         rintro e w2 ⟨v2, rfl, ho2, hb2⟩
         obtain ⟨V2, rfl⟩ : ∃ W, W = w2 := ⟨_, rfl⟩
         have HB2 := Lib.hid (HB1.out.trans (hb2.mono HB1.out.size))
         obtain ⟨B2, n2, c2, rfl, rfl⟩ := ho2.shape
         have hnl : (natI (ordQ S)).length = (ordQ S).length := natI_len _
         clear ho2 hb2))
    have HP : OrdRet S w (.returned (.tuple #[.slice none 0 0, .bool false])) V2 := ⟨.slice none 0 0, by rw [HA.out.2], by rw [HA.out.1]; exact OwnN.nil _ _, HB2.out⟩
    go_ret2
    exact HP
  · have HA := Lib.hid (show ordA S = ordQ S ∧ ordB S = true by unfold ordA ordB; rw [if_neg hl]; simp; omega)
    have hd : decide ((ordQ S).length < S.length) = false := decide_eq_false hl
    clear hl
    go_enter Tryz.func10, Tryz.ntmps10
    go_wp2_with (first
      | (go_at_call 17
         (with_reducible refine HSR.out.mono ?_)
         rintro e w1 ⟨v1, rfl, hm1, hb1⟩
         rw [← HSS.out] at hm1
         obtain ⟨V1, rfl⟩ : ∃ W, W = w1 := ⟨_, rfl⟩
         have HO := Lib.hid (order_any (hm1.rows.imp fun _ _ _ => trivial) HLT.out HN.out HF.out)
         have HB1 := Lib.hid (HAL.out.trans (hb1.mono HAL.out.size))
         obtain ⟨B1, c1, e1, _⟩ := hm1.rows
         subst e1
         clear hm1 hb1)
      | (go_at_call 18
         (with_reducible refine HO.out.mono ?_)
         rintro e w2 ⟨v2, rfl, ho2, hb2⟩
         obtain ⟨V2, rfl⟩ : ∃ W, W = w2 := ⟨_, rfl⟩
         have HB2 := Lib.hid (HB1.out.trans (hb2.mono HB1.out.size))
         obtain ⟨B2, n2, c2, rfl, rfl⟩ := ho2.shape
         have hnl : (natI (ordQ S)).length = (ordQ S).length := natI_len _
         have HO2 := Lib.hid (ho2.mono HB1.out.size)
         clear ho2 hb2))
    have HP : OrdRet S w (.returned (.tuple #[.slice B2 (ordQ S).length c2, .bool true])) V2 := ⟨.slice B2 (ordQ S).length c2, by rw [HA.out.2], by rw [HA.out.1, ← hnl]; exact HO2.out, HB2.out⟩
    go_ret2
    exact HP
end Go.Proofs.YtifbdglhfoimjaaGreatDoor
