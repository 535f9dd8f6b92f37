/-
  Reads: what an expression reads.
-/
import Derived.Test.YtifbdglhfoimjaaGreatDoorCauAdd
import Derived.Test.YtifbdglhfoimjaaGreatDoorRHas
namespace Go.Proofs.YtifbdglhfoimjaaGreatDoor
open Go.RowKit

/-- a list of names of the call's own is answered -/
def ReadPost (l : List Tx) (w : World) (e : Ending) (w' : World) : Prop := ∃ v, e = .returned v ∧ OwnS w.heap.size w' v l ∧ Below w.heap.size w w'
set_option maxHeartbeats 2000000 in
set_option maxRecDepth 100000 in
theorem reads_any {w0 : World} {L : List Value} {x : Ex} (h : ExAt w0 L x) (hlen : (occX x).length ≤ 2097152) (w : World) (hb : Below w0.heap.size w0 w) : Calls Tryz.prog 8 #[.agg L.toArray] w (ReadPost (readsX x) w) := by
  obtain ⟨o1, s1, n1, A1, m1, k1, A2, m2, k2, rfl⟩ := h.shape
  have HADD := Lib.hid (add_any h)
  have HB := Lib.hid hb
  have HLEN := Lib.hid (show ([] : List Tx).length + (occX x).length ≤ 2097152 by simpa using hlen)
  have b1 : Below w.heap.size w (w.alloc (.cells #[.int .i64 o1, .string s1, .int .i64 n1, .slice A1 m1 k1, .slice A2 m2 k2] 25)) := (Below.refl _ w).alloc (Nat.le_refl _) _
  have b2 : Below w.heap.size w ((w.alloc (.cells #[.int .i64 o1, .string s1, .int .i64 n1, .slice A1 m1 k1, .slice A2 m2 k2] 25)).alloc (.map #[] 0)) := b1.alloc (by simp) _
  have b3 : Below w.heap.size w (((w.alloc (.cells #[.int .i64 o1, .string s1, .int .i64 n1, .slice A1 m1 k1, .slice A2 m2 k2] 25)).alloc (.map #[] 0)).alloc (.cells #[.slice none 0 0, .map (some (w.heap.size + 1))] 51)) := b2.alloc (by simp; omega) _
  have HB3 := Lib.hid b3
  have HB03 := Lib.hid (hb.trans (b3.mono hb.size))
  have HSZ := Lib.hid (Nat.le_of_lt (by simp; omega) : w.heap.size ≤ (((w.alloc (.cells #[.int .i64 o1, .string s1, .int .i64 n1, .slice A1 m1 k1, .slice A2 m2 k2] 25)).alloc (.map #[] 0)).alloc (.cells #[.slice none 0 0, .map (some (w.heap.size + 1))] 51)).heap.size)
  have HRD := Lib.hid (show RdAt (w.heap.size + 1 + 1) w.heap.size (((w.alloc (.cells #[.int .i64 o1, .string s1, .int .i64 n1, .slice A1 m1 k1, .slice A2 m2 k2] 25)).alloc (.map #[] 0)).alloc (.cells #[.slice none 0 0, .map (some (w.heap.size + 1))] 51)) [] from
    ⟨.slice none 0 0, w.heap.size + 1, alloc_at (by simp), OwnS.nil _ _, by
      have h1 := MapAt.made (w.alloc (.cells #[.int .i64 o1, .string s1, .int .i64 n1, .slice A1 m1 k1, .slice A2 m2 k2] 25))
      rw [show (w.alloc (.cells #[.int .i64 o1, .string s1, .int .i64 n1, .slice A1 m1 k1, .slice A2 m2 k2] 25)).heap.size = w.heap.size + 1 by simp] at h1
      exact h1.under ((Below.refl _ _).alloc (Nat.le_refl _) _), by omega, by omega⟩)
  have HSB := Lib.hid hb.size
  clear h hb hlen b1 b2 b3
  have hmm := @run_makeMap Tryz.prog
  go_enter Tryz.func8, Tryz.ntmps8
  go_wp2_with (go_at_call 15
               (with_reducible refine (HADD.out _ _ _ _ HSB.out HB03.out HRD.out HSZ.out HLEN.out).mono ?_)
               rintro e w8 ⟨rfl, hr8, hk8⟩
               obtain ⟨V8, rfl⟩ : ∃ W, W = w8 := ⟨_, rfl⟩
               obtain ⟨v8, m8, hN8, hO8, _⟩ := hr8
               obtain ⟨A8, n8, c8, rfl, rfl⟩ := hO8.shape
               obtain ⟨e0, e1⟩ := row2 hN8
               have HO8 := Lib.hid hO8
               have HK8 := Lib.hid (HB3.out.trans hk8.1)
               clear hN8 hO8 hk8)
  go_ret
  exact ⟨_, rfl, HO8.out, HK8.out⟩
/-- what the reference's collecting leaves -/
def MorePost (B : Nat) (l : List Tx) (W : World) (e : Ending) (w' : World) : Prop := ∃ v, e = .returned v ∧ AppS B l W v w'
theorem AppS.of_below {B : Nat} {l : List Tx} {W w' : World} {v : Value} (h : OwnS B W v l) (hb : Below W.heap.size W w') (hB : B ≤ W.heap.size) : AppS B l W v w' :=
  ⟨h.under hb, hb.mono hB, fun g _ _ _ hh => (hb.block g (lt_of_heap hh)).trans hh⟩
theorem AppS.trans {B : Nat} {l m : List Tx} {a b c : World} {u v : Value} (h : AppS B l a u b) (g : AppS B m b v c) : AppS B m a v c :=
  ⟨g.1, h.2.1.trans g.2.1, fun k cs T0 hT hh => g.2.2 k cs T0 hT (h.2.2 k cs T0 hT hh)⟩
set_option maxHeartbeats 1000000 in
set_option maxRecDepth 100000 in
theorem more_any {B : Nat} {w : World} {v : Value} {l : List Tx} (h : OwnS B w v l) (hB : B ≤ w.heap.size) {s : Tx} (hsl : s.length ≤ maxLen) (hl : l.length ≤ 2097152) : Calls Tryz.prog 28 #[v, .string (str s)] w (MorePost B (moreL l s) w) := by
  have HH := Lib.hid (hasR_any h.strs s)
  have HO := Lib.hid h
  have HBB := Lib.hid hB
  have HSL := Lib.hid hsl
  have HLL := Lib.hid hl
  obtain ⟨A, n, c, rfl, rfl⟩ := h.shape
  clear h hB hsl hl
  by_cases hs : s ∈ l
  · have HC := Lib.hid (show l.contains s = true from List.contains_iff_mem.2 hs)
    have HM := Lib.hid (show moreL l s = l by unfold moreL; rw [if_pos hs])
    clear hs
    go_enter Tryz.func28, Tryz.ntmps28
    go_wp2_with (go_at_call 12; ((with_reducible refine HH.out.mono ?_); rintro e w1 ⟨he, rfl⟩; rw [HC.out] at he; subst he))
    go_ret
    exact ⟨_, rfl, by rw [HM.out]; exact AppS.of_below HO.out (Below.refl _ _) HBB.out⟩
  · have HC := Lib.hid (show l.contains s = false by rw [Bool.eq_false_iff]; exact fun h => hs (List.contains_iff_mem.1 h))
    have HM := Lib.hid (show moreL l s = l ++ [s] by unfold moreL; rw [if_neg hs])
    clear hs
    go_enter Tryz.func28, Tryz.ntmps28
    go_wp2_with (first
      | (go_at_call 12; ((with_reducible refine HH.out.mono ?_); rintro e w1 ⟨he, rfl⟩; rw [HC.out] at he; subst he))
      | (at_builtin
         refine append_str rfl _ _ rfl rfl rfl (heap_alloc_new _ _) (HO.out.alloc _) HSL.out HLL.out ?_ ?_
         · have := HBB.out; simp; omega
         intro v5 w5 h5
         obtain ⟨V5, rfl⟩ : ∃ W, W = w5 := ⟨_, rfl⟩
         replace h5 : AppS B (l ++ [s]) (w.alloc (.cells #[.string (str s)] 9)) v5 V5 := h5
         obtain ⟨A5, n5, c5, rfl, rfl⟩ := h5.1.shape
         have H5 := Lib.hid h5
         clear h5))
    rw [show l.length + 1 = (l ++ [s]).length by simp]
    go_ret
    exact ⟨_, rfl, by rw [HM.out]; exact (AppS.of_below HO.out ((Below.refl _ _).alloc (Nat.le_refl _) _) HBB.out).trans H5.out⟩
end Go.Proofs.YtifbdglhfoimjaaGreatDoor
