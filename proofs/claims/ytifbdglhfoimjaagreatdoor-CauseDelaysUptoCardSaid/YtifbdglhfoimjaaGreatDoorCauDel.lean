/-
  CauseDelays: the walk.
-/
import Derived.Test.YtifbdglhfoimjaaGreatDoorCauReads
import Derived.Test.YtifbdglhfoimjaaGreatDoorTreeMade
namespace Go.Proofs.YtifbdglhfoimjaaGreatDoor
open Go.RowKit

theorem read_pre (e : Ex) (n : Int) (cs : List Tx) (nm : Tx) : occX (.mk 9 nm n cs [e]) = [] := by rw [occX_mk]; rfl
theorem read_fby (a b : Ex) (n : Int) (cs : List Tx) (nm : Tx) : occX (.mk 8 nm n cs [a, b]) = occX a := by rw [occX_mk]; simp [readK, hereX, readsN]
theorem read_arrow (a b : Ex) (n : Int) (cs : List Tx) (nm : Tx) : occX (.mk 10 nm n cs [a, b]) = occX a ++ occX b := by rw [occX_mk]; simp [readK, hereX, readsN]
/-- what an arrow reads, and its two kids -/
theorem arrow_told (a b : Ex) : ∃ r, readsX (.mk 10 [] 0 [] [a, b]) = readsX a ++ r ∧ r.length ≤ (readsX b).length ∧ (readsX b).length ≤ (readsX a ++ r).length ∧ ∀ y ∈ readsX b, y ∈ readsX a ++ r := by
  unfold readsX
  rw [read_arrow, allL_app]
  obtain ⟨r, e, h⟩ := allL_pre (occX b) (allL [] (occX a))
  have hm : ∀ y ∈ allL [] (occX b), y ∈ allL [] (occX a) ++ r := fun y hy => by
    rw [← e, mem_allL]
    rcases mem_allL.1 hy with h | h
    · cases h
    · exact .inr h
  exact ⟨r, e, h, nodup_le (nodup_allL List.nodup_nil) hm, hm⟩
theorem reads_pre {W : World} {L : List Value} {a : Ex} {C : Array Value} (h : ExAt W L a) (hC : C.toList = L) : Calls Tryz.prog 8 #[.agg #[.int .i64 9, .string ⟨#[]⟩, .int .i64 0, .slice none 0 0, .slice (some ⟨W.heap.size, 0, none⟩) 1 1]] (W.alloc (.cells C 25)) (ReadPost [] (W.alloc (.cells C 25))) := by
  have hE : ExAt (W.alloc (.cells C 25)) [.int .i64 9, .string (str []), .int .i64 0, .slice none 0 0, .slice (some ⟨W.heap.size, 0, none⟩) 1 1] (.mk 9 [] 0 [] [a]) :=
    ex_node (i64_small (by omega)) (i64_small (by omega)) (len_small (by simp)) (strs_none _) (made1 (heap_alloc_new W _) (h.under ((Below.refl _ _).alloc (Nat.le_refl _) _)) hC)
  have := reads_any hE (by rw [read_pre]; simp) _ (Below.refl _ _)
  rwa [show readsX (.mk 9 [] 0 [] [a]) = [] by unfold readsX; rw [read_pre]; rfl] at this
theorem reads_two {W : World} {L M : List Value} {a b : Ex} {C : Array Value} {op : Int} (hop : 0 ≤ op ∧ op ≤ 1000) (ha : ExAt W L a) (hb : ExAt W M b) (hC : C.toList = L ++ M) (hq : (occX (.mk op [] 0 [] [a, b])).length ≤ 2097152) :
    Calls Tryz.prog 8 #[.agg #[.int .i64 op, .string ⟨#[]⟩, .int .i64 0, .slice none 0 0, .slice (some ⟨W.heap.size, 0, none⟩) 2 2]] (W.alloc (.cells C 25)) (ReadPost (readsX (.mk op [] 0 [] [a, b])) (W.alloc (.cells C 25))) := by
  have hal := (Below.refl W.heap.size W).alloc (Nat.le_refl _) (.cells C 25)
  have hE : ExAt (W.alloc (.cells C 25)) [.int .i64 op, .string (str []), .int .i64 0, .slice none 0 0, .slice (some ⟨W.heap.size, 0, none⟩) 2 2] (.mk op [] 0 [] [a, b]) :=
    ex_node (i64_small hop) (i64_small (by omega)) (len_small (by simp)) (strs_none _) (made2 (heap_alloc_new W _) (ha.under hal) (hb.under hal) hC (by rw [ha.len, hb.len]))
  exact reads_any hE hq _ (Below.refl _ _)
theorem StrsAt.first {w : World} {A : Option Addr} {n c : Nat} {l m : List Tx} (h : StrsAt w (.slice A n c) (l ++ m)) : StrsAt w (.slice A l.length c) l := by
  obtain ⟨A', c', e, h1, h2, h3⟩ := h
  injection e with e1 e2 e3
  subst e1 e3
  refine ⟨A, c, rfl, by simp at h1; omega, h2, fun i x hx => h3 i x ?_⟩
  rw [List.getElem?_append_left (List.getElem?_eq_some_iff.1 hx).1]
  exact hx
set_option maxRecDepth 100000 in
set_option maxHeartbeats 4000000 in
theorem delays_law {w : World} {L M : List Value} {a b : Ex} (ha : ExAt w L a) (hb : ExAt w M b) (hqa : wX a ≤ 1048576) (hqb : wX b ≤ 1048576) : Calls Tryz.prog 5 #[.agg L.toArray, .agg M.toArray] w (Lived w) := by
  have hoa : (occX a).length ≤ 1048576 := by have := occ_wX a; omega
  have hob : (occX b).length ≤ 1048576 := by have := occ_wX b; omega
  have HRA := Lib.hid (reads_any ha (by omega))
  have HRB := Lib.hid (reads_any hb (by omega))
  have HLA := Lib.hid (show (readsX a).length ≤ 1048576 by have := allL_len (occX a) []; unfold readsX; simp at this; omega)
  have HLB := Lib.hid (show (readsX b).length ≤ 1048576 by have := allL_len (occX b) []; unfold readsX; simp at this; omega)
  have HQF := Lib.hid (show (occX (.mk 8 [] 0 [] [a, b])).length ≤ 2097152 by rw [read_fby]; omega)
  have HQA := Lib.hid (show (occX (.mk 10 [] 0 [] [a, b])).length ≤ 2097152 by rw [read_arrow, List.length_append]; omega)
  have HFB := Lib.hid (show readsX (.mk 8 [] 0 [] [a, b]) = readsX a by unfold readsX; rw [read_fby])
  obtain ⟨r, hr1, hr2, hr3, hr4⟩ := arrow_told a b
  obtain ⟨Q, hQ⟩ : ∃ Q, readsX (.mk 10 [] 0 [] [a, b]) = Q := ⟨_, rfl⟩
  obtain ⟨X, hX⟩ : ∃ X, readsX a = X := ⟨_, rfl⟩
  obtain ⟨Y, hY⟩ : ∃ Y, readsX b = Y := ⟨_, rfl⟩
  rw [hX] at hr1 hr3 hr4 HRA HLA HFB
  rw [hY] at hr2 hr3 hr4 HRB HLB
  rw [hQ] at hr1
  rw [← hr1] at hr3 hr4
  have HAR := Lib.hid hQ
  have HQ5 := Lib.hid hr1
  have HR4 := Lib.hid hr4
  have HNB := Lib.hid (show Q.length ≤ X.length + Y.length ∧ X.length ≤ Q.length ∧ Y.length ≤ Q.length by rw [hr1, List.length_append]; rw [hr1, List.length_append] at hr3; omega)
  have HA := Lib.hid ha
  have HB := Lib.hid hb
  obtain ⟨o1, s1, n1, A1, m1, k1, A2, m2, k2, rfl⟩ := ha.shape
  obtain ⟨o3, s3, n3, A3, m3, k3, A4, m4, k4, rfl⟩ := hb.shape
  have hal := Lib.hid (((Below.refl w.heap.size w).alloc (Nat.le_refl _) (.cells #[.int .i64 o1, .string s1, .int .i64 n1, .slice A1 m1 k1, .slice A2 m2 k2] 25)).alloc (by simp) (.cells #[.int .i64 o3, .string s3, .int .i64 n3, .slice A3 m3 k3, .slice A4 m4 k4] 25))
  have BA := Lib.hid (alloc_below (o := .cells #[.int .i64 o3, .string s3, .int .i64 n3, .slice A3 m3 k3, .slice A4 m4 k4] 25) (heap_alloc_new w (.cells #[.int .i64 o1, .string s1, .int .i64 n1, .slice A1 m1 k1, .slice A2 m2 k2] 25)))
  have BB := Lib.hid (alloc_at (w := w.alloc (.cells #[.int .i64 o1, .string s1, .int .i64 n1, .slice A1 m1 k1, .slice A2 m2 k2] 25)) (o := .cells #[.int .i64 o3, .string s3, .int .i64 n3, .slice A3 m3 k3, .slice A4 m4 k4] 25) (n := w.heap.size + 1) (by simp))
  clear ha hb hqa hqb hoa hob hr1 hr2 hr3 hr4 hQ hX hY
  go_enter Tryz.func5, Tryz.ntmps5
  go_wp2_with (first
    | (go_at_call 6
       (with_reducible refine (lives11_any _).mono ?_)
       rintro e w7 ⟨rfl, hb7⟩
       obtain ⟨V1, rfl⟩ : ∃ W, W = w7 := ⟨_, rfl⟩
       have HB1 := Lib.hid (hal.out.trans (hb7.mono hal.out.size))
       have EA1 := Lib.hid (box_next hb7 BA.out)
       have EB1 := Lib.hid (box_next hb7 BB.out)
       have HP := Lib.hid (reads_pre (C := #[.int .i64 o1, .string s1, .int .i64 n1, .slice A1 m1 k1, .slice A2 m2 k2]) (HA.out.under HB1.out) rfl)
       have S1 := Lib.hid ((Below.refl V1.heap.size V1).alloc (Nat.le_refl _) (.cells #[.int .i64 o1, .string s1, .int .i64 n1, .slice A1 m1 k1, .slice A2 m2 k2] 25))
       obtain ⟨p0, p1, p2, p3, p4⟩ := row5 EA1.out
       clear hb7)
    | (go_at_call 8
       (with_reducible refine HP.out.mono ?_)
       rintro e w8 ⟨v8, rfl, ho8, hb8⟩
       obtain ⟨V2, rfl⟩ : ∃ W, W = w8 := ⟨_, rfl⟩
       have S2 := Lib.hid (S1.out.trans (hb8.mono S1.out.size))
       have HB2 := Lib.hid (HB1.out.trans (S2.out.mono HB1.out.size))
       have EA2 := Lib.hid (box_next S2.out EA1.out)
       have EB2 := Lib.hid (box_next S2.out EB1.out)
       obtain ⟨A8, n8, c8, rfl, rfl⟩ := ho8.shape
       have HF := Lib.hid (reads_two (op := 8) (C := #[.int .i64 o1, .string s1, .int .i64 n1, .slice A1 m1 k1, .slice A2 m2 k2, .int .i64 o3, .string s3, .int .i64 n3, .slice A3 m3 k3, .slice A4 m4 k4]) (by omega) (HA.out.under HB2.out) (HB.out.under HB2.out) rfl HQF.out)
       have S3 := Lib.hid ((Below.refl V2.heap.size V2).alloc (Nat.le_refl _) (.cells #[.int .i64 o1, .string s1, .int .i64 n1, .slice A1 m1 k1, .slice A2 m2 k2, .int .i64 o3, .string s3, .int .i64 n3, .slice A3 m3 k3, .slice A4 m4 k4] 25))
       clear hb8 ho8 p0 p1 p2 p3 p4
       obtain ⟨p0, p1, p2, p3, p4⟩ := row5 EA2.out
       obtain ⟨q0, q1, q2, q3, q4⟩ := row5 EB2.out
       clear HP)
    | (go_at_call 8
       (with_reducible refine HF.out.mono ?_)
       rintro e w8 ⟨v8, rfl, ho8, hb8⟩
       rw [HFB.out] at ho8
       obtain ⟨V3, rfl⟩ : ∃ W, W = w8 := ⟨_, rfl⟩
       have S4 := Lib.hid (S3.out.trans (hb8.mono S3.out.size))
       have HB3 := Lib.hid (HB2.out.trans (S4.out.mono HB2.out.size))
       have EA3 := Lib.hid (box_next S4.out EA2.out)
       have EB3 := Lib.hid (box_next S4.out EB2.out)
       obtain ⟨A9, n9, c9, rfl, rfl⟩ := ho8.shape
       have HSF := Lib.hid ho8.strs
       have HG := Lib.hid (reads_two (op := 10) (C := #[.int .i64 o1, .string s1, .int .i64 n1, .slice A1 m1 k1, .slice A2 m2 k2, .int .i64 o3, .string s3, .int .i64 n3, .slice A3 m3 k3, .slice A4 m4 k4]) (by omega) (HA.out.under HB3.out) (HB.out.under HB3.out) rfl HQA.out)
       have S5 := Lib.hid ((Below.refl V3.heap.size V3).alloc (Nat.le_refl _) (.cells #[.int .i64 o1, .string s1, .int .i64 n1, .slice A1 m1 k1, .slice A2 m2 k2, .int .i64 o3, .string s3, .int .i64 n3, .slice A3 m3 k3, .slice A4 m4 k4] 25))
       clear hb8 ho8 p0 p1 p2 p3 p4 q0 q1 q2 q3 q4
       obtain ⟨p0, p1, p2, p3, p4⟩ := row5 EA3.out
       obtain ⟨q0, q1, q2, q3, q4⟩ := row5 EB3.out
       clear HF)
    | (go_at_call 8
       (with_reducible refine HG.out.mono ?_)
       rintro e w8 ⟨v8, rfl, ho8, hb8⟩
       rw [HAR.out] at ho8
       obtain ⟨V4, rfl⟩ : ∃ W, W = w8 := ⟨_, rfl⟩
       have S6 := Lib.hid (S5.out.trans (hb8.mono S5.out.size))
       have HB4 := Lib.hid (HB3.out.trans (S6.out.mono HB3.out.size))
       have EA4 := Lib.hid (box_next S6.out EA3.out)
       have EB4 := Lib.hid (box_next S6.out EB3.out)
       obtain ⟨A10, n10, c10, rfl, rfl⟩ := ho8.shape
       have HSG := Lib.hid ho8.strs
       have HSF4 := Lib.hid (HSF.out.under S6.out)
       clear hb8 ho8 p0 p1 p2 p3 p4 q0 q1 q2 q3 q4 HG))
  have KEEP := Lib.hid (show ∀ W, Below V4.heap.size V4 W → (fun W => W.cell? ⟨w.heap.size, 0, none⟩ = some (.int .i64 o1) ∧ W.cell? ⟨w.heap.size, 1, none⟩ = some (.string s1) ∧ W.cell? ⟨w.heap.size, 2, none⟩ = some (.int .i64 n1) ∧ W.cell? ⟨w.heap.size, 3, none⟩ = some (.slice A1 m1 k1) ∧ W.cell? ⟨w.heap.size, 4, none⟩ = some (.slice A2 m2 k2) ∧ W.cell? ⟨w.heap.size + 1, 0, none⟩ = some (.int .i64 o3) ∧ W.cell? ⟨w.heap.size + 1, 1, none⟩ = some (.string s3) ∧ W.cell? ⟨w.heap.size + 1, 2, none⟩ = some (.int .i64 n3) ∧ W.cell? ⟨w.heap.size + 1, 3, none⟩ = some (.slice A3 m3 k3) ∧ W.cell? ⟨w.heap.size + 1, 4, none⟩ = some (.slice A4 m4 k4)) W from
    fun W hW => by
      obtain ⟨p0, p1, p2, p3, p4⟩ := row5 (box_next hW EA4.out)
      obtain ⟨q0, q1, q2, q3, q4⟩ := row5 (box_next hW EB4.out)
      exact ⟨p0, p1, p2, p3, p4, q0, q1, q2, q3, q4⟩)
  refine wp_region_held_drew (S := (fun W => W.cell? ⟨w.heap.size, 0, none⟩ = some (.int .i64 o1) ∧ W.cell? ⟨w.heap.size, 1, none⟩ = some (.string s1) ∧ W.cell? ⟨w.heap.size, 2, none⟩ = some (.int .i64 n1) ∧ W.cell? ⟨w.heap.size, 3, none⟩ = some (.slice A1 m1 k1) ∧ W.cell? ⟨w.heap.size, 4, none⟩ = some (.slice A2 m2 k2) ∧ W.cell? ⟨w.heap.size + 1, 0, none⟩ = some (.int .i64 o3) ∧ W.cell? ⟨w.heap.size + 1, 1, none⟩ = some (.string s3) ∧ W.cell? ⟨w.heap.size + 1, 2, none⟩ = some (.int .i64 n3) ∧ W.cell? ⟨w.heap.size + 1, 3, none⟩ = some (.slice A3 m3 k3) ∧ W.cell? ⟨w.heap.size + 1, 4, none⟩ = some (.slice A4 m4 k4))) (by kernel_rfl) ?_ (fun hHeld => ?_)
  · exact KEEP.out _ (Below.refl _ _).drew
  refine take_now 0 rfl ?_
  try simp only [Act.put, setA, setZ, setS]
  refine take_now 2 rfl ?_
  try simp only [Act.put, setA, setZ, setS]
  refine only_at 1 (by kernel_rfl) rfl (fun K hK => ?_)
  go_simp
  (go_at_call 8
   (with_reducible refine (HRA.out _ HB4.out.drew).mono ?_)
   rintro e w8 ⟨v8, rfl, ho8, hb8⟩
   obtain ⟨V5, rfl⟩ : ∃ W, W = w8 := ⟨_, rfl⟩
   have S7 := Lib.hid ((Below.refl V4.heap.size V4).drew.trans hb8)
   have HB5 := Lib.hid (HB4.out.trans (S7.out.mono HB4.out.size))
   obtain ⟨A11, n11, c11, rfl, rfl⟩ := ho8.shape
   have HSA := Lib.hid ho8.strs
   clear hb8 ho8)
  refine hK.out _ _ (KEEP.out _ ?_) (fun hHeld => ?_)
  · (repeat (first | exact Below.refl _ _ | exact S7.out | refine Below.drew ?_ | refine Below.alloc ?_ (by simp) _ | refine Below.setCell ?_ (by simp) _))
  clear hK K
  try simp only [Act.put, setA, setZ, setS]
  refine only_at 3 (by kernel_rfl) rfl (fun K hK => ?_)
  go_simp
  (go_at_call 8
   (with_reducible refine (HRB.out _ HB5.out).mono ?_)
   rintro e w8 ⟨v8, rfl, ho8, hb8⟩
   obtain ⟨V6, rfl⟩ : ∃ W, W = w8 := ⟨_, rfl⟩
   have S8 := Lib.hid (S7.out.trans (hb8.mono S7.out.size))
   have HB6 := Lib.hid (HB4.out.trans (S8.out.mono HB4.out.size))
   obtain ⟨A12, n12, c12, rfl, rfl⟩ := ho8.shape
   have HSB := Lib.hid ho8.strs
   have HSA6 := Lib.hid (HSA.out.under hb8)
   have HSG6 := Lib.hid (HSG.out.under S8.out)
   have HSF6 := Lib.hid (HSF4.out.under S8.out)
   clear hb8 ho8)
  refine hK.out _ _ (KEEP.out _ ?_) (fun hHeld => ?_)
  · (repeat (first | exact Below.refl _ _ | exact S8.out | refine Below.drew ?_ | refine Below.alloc ?_ (by simp) _ | refine Below.setCell ?_ (by simp) _))
  clear hK K
  try simp only [Act.put, setA, setZ, setS]
  refine take_now 4 rfl ?_
  try simp only [Act.put, setA, setZ, setS]
  refine take_now 5 rfl ?_
  try simp only [Act.put, setA, setZ, setS]
  refine wpAnyH_done (by kernel_rfl) ?_ _
  clear KEEP
  obtain ⟨g1, g2, g3⟩ := HNB.out
  have gX := HLA.out
  have gY := HLB.out
  have hd1 : decide ((X.length : Int) + (Y.length : Int) < (Q.length : Int)) = false := decide_eq_false (by omega)
  have hmx : ∀ m : Int, (m = X.length ∨ m = Y.length) → decide ((Q.length : Int) < m) = false := fun m hm => decide_eq_false (by omega)
  go_wp2_with (first
    | (go_at_call 7
       (with_reducible refine (rSameNames_any HSF6.out HSA6.out _ (Below.refl _ _)).mono ?_)
       rintro e w9 ⟨he, hb9⟩
       rw [show (X == X) = true by simp] at he
       subst he
       obtain ⟨V7, rfl⟩ : ∃ W, W = w9 := ⟨_, rfl⟩
       have HB7 := Lib.hid (HB6.out.trans (hb9.mono HB6.out.size))
       have HSA7 := Lib.hid (HSA6.out.under hb9)
       have HSB7 := Lib.hid (HSB.out.under hb9)
       have HSG7 := Lib.hid (HSG6.out.under hb9)
       clear hb9))
  have HWS := Lib.hid HB7.out
  go_loopg [10] Y.length (fun g v wr => ∃ k : Nat, k + g = Y.length ∧ v = .int .i64 k ∧ wr = V7)
  case atStart => exact ⟨0, by omega, rfl, rfl⟩
  case round =>
    obtain ⟨k, hkg, rfl, rfl⟩ := hrel
    have HK := Lib.hid hkg
    have hkl : k ≤ Y.length := by omega
    clear hkg
    by_cases hlt : k < Y.length
    · obtain ⟨y, hy⟩ : ∃ y, Y[k]? = some y := ⟨_, List.getElem?_eq_getElem hlt⟩
      have HC := Lib.hid (show Q.contains y = true from List.contains_iff_mem.2 (HR4.out y (List.mem_of_getElem? hy)))
      obtain ⟨A9, c9, e9, _, _, he9⟩ := HSB7.out
      obtain ⟨L9, hE9, rfl, hsl⟩ := he9 k y hy
      injection e9 with e9 e10 e11
      clear e10 e11
      obtain ⟨a9, ea9, _, hzc, q9⟩ := elem1 hE9
      rw [ea9] at e9
      subst e9
      rw [Nat.mul_one] at q9
      clear hy he9 hE9 ea9 hzc hsl
      go_wp2_with (go_at_call 12
                   (with_reducible refine (hasR_any HSG7.out y).mono ?_)
                   rintro e w9 ⟨he, rfl⟩
                   rw [HC.out] at he
                   subst he)
      go_roundg (Y.length - (k + 1))
      case measure => have := HK.out; omega
      case rel => exact ⟨k + 1, by omega, by go_num, rfl⟩
    · have hke : k = Y.length := by omega
      have hcap : X.length ≤ c10 := by
        obtain ⟨_, _, e, h1, _⟩ := HSG7.out
        injection e with _ _ e3
        omega
      have HSQ := Lib.hid (StrsAt.first (l := X) (m := r) (by rw [← HQ5.out]; exact HSG7.out))
      clear hke
      go_wp2_with (go_at_call 7
                   (with_reducible refine (rSameNames_any HSQ.out HSA7.out _ (Below.refl _ _)).mono ?_)
                   rintro e w9 ⟨he, hb9⟩
                   rw [show (X == X) = true by simp] at he
                   subst he
                   obtain ⟨V8, rfl⟩ : ∃ W, W = w9 := ⟨_, rfl⟩
                   have HB8 := Lib.hid (HWS.out.trans (hb9.mono HWS.out.size))
                   clear hb9)
      go_ret
      exact ⟨rfl, HB8.out⟩
theorem delays_call (L : List Value) (a : Ex) (M : List Value) (b : Ex) (w : World) (ha : ExAt w L a) (hqa : wX a ≤ 1048576) (hb : ExAt w M b) (hqb : wX b ≤ 1048576) : Calls Tryz.prog 5 #[.agg L.toArray, .agg M.toArray] w (Lived w) := delays_law ha hb hqa hqb
end Go.Proofs.YtifbdglhfoimjaaGreatDoor
