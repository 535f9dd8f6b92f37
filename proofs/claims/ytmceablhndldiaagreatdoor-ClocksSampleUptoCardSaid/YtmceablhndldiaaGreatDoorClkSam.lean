/-
  clocks: same: two clocks that begin with the base clock are one just if they have one path.
-/
import Derived.Test.YtmceablhndldiaaGreatDoorClkPar
namespace Go.Proofs.YtmceablhndldiaaGreatDoor
open Go.RowKit

theorem set_row2 {w : World} {N : Nat} {T0 : TypeId} {a b : Value} (x y : Value) (h : w.heap[N]? = some (.cells #[a, b] T0 (0, 0))) : ((w.setCell ⟨N, 0, none⟩ x).setCell ⟨N, 1, none⟩ y).heap[N]? = some (.cells #[x, y] T0 (0, 0)) := by
  have h1 := heap_setCell_same w N 0 _ _ x h
  have h2 := heap_setCell_same _ N 1 _ _ y h1
  simpa using h2
theorem heap_set2 {w : World} {K M : Nat} (h : M ≠ K) (x y : Value) : ((w.setCell ⟨K, 0, none⟩ x).setCell ⟨K, 1, none⟩ y).heap[M]? = w.heap[M]? := by
  rw [Below.heap_setCell _ _ _ _ h, Below.heap_setCell _ _ _ _ h]
theorem below_set2 {B N : Nat} {a w : World} (h : Below B a w) (hN : B ≤ N) (x y : Value) : Below B a ((w.setCell ⟨N, 0, none⟩ x).setCell ⟨N, 1, none⟩ y) := (h.setCell hN x).setCell hN y
/-- what stands before the last samples that are alike -/
def SameR (w0 w : World) (N : Nat) (A B : Option Addr) (c d : Nat) (p q : Clk) (la lb : Clk) (wr : World) : Prop :=
  (p = q ↔ la = lb) ∧ wr.heap[N]? = some (.cells #[.int .i64 0, .slice A la.length c] 68 (0, 0)) ∧ wr.heap[N + 1]? = some (.cells #[.int .i64 0, .slice B lb.length d] 68 (0, 0)) ∧
  ClkAt w0 (.slice A la.length c) la ∧ ClkAt w0 (.slice B lb.length d) lb ∧ Below w.heap.size w wr
set_option maxRecDepth 100000 in
set_option maxHeartbeats 1000000 in
theorem same_any {w0 w : World} {T m R : Nat} {A B : Option Addr} {c d : Nat} {p q : Clk} (ht : TimAt w T m R) (hp : ClkAt w0 (.slice A p.length c) p) (hq : ClkAt w0 (.slice B q.length d) q) (hb : Below w0.heap.size w0 w) :
    Calls Tryz.prog 33 #[.pointer (some ⟨T, 0, none⟩), .agg #[.int .i64 0, .slice A p.length c], .agg #[.int .i64 0, .slice B q.length d]] w (BoolPost (decide (p = q)) w) := by
  have HB := Lib.hid hb
  have HP := Lib.hid hp
  have HQ := Lib.hid hq
  have hsz0 := hb.size
  have b2 := ((Below.refl w.heap.size w).alloc (Nat.le_refl _) (.cells #[.int .i64 0, .slice A p.length c] 68)).alloc (by simp) (.cells #[.int .i64 0, .slice B q.length d] 68)
  have HB2 := Lib.hid b2
  have HT2 := Lib.hid (ht.keep b2)
  have N0 := Lib.hid (heap_alloc_keep (o := .cells #[.int .i64 0, .slice B q.length d] 68) (heap_alloc_new w (.cells #[.int .i64 0, .slice A p.length c] 68)))
  have M0 := Lib.hid (alloc_at (w := w.alloc (.cells #[.int .i64 0, .slice A p.length c] 68)) (o := .cells #[.int .i64 0, .slice B q.length d] 68) (n := w.heap.size + 1) (by simp))
  obtain ⟨p0, p1⟩ := row2c N0.out
  obtain ⟨q0, q1⟩ := row2c M0.out
  clear hb hp hq b2 ht
  go_enter Tryz.func33, Tryz.ntmps33
  go_wp2_with fail
  refine wp_region_held_drew (S := (fun W => W.cell? ⟨w.heap.size, 0, none⟩ = some (.int .i64 0) ∧ W.cell? ⟨w.heap.size, 1, none⟩ = some (.slice A p.length c) ∧ W.cell? ⟨w.heap.size + 1, 0, none⟩ = some (.int .i64 0) ∧ W.cell? ⟨w.heap.size + 1, 1, none⟩ = some (.slice B q.length d))) (by kernel_rfl) ?_ (fun hHeld => ?_)
  · (try dsimp only); go_keep
  refine take_now 0 rfl ?_
  try simp only [Act.put, setA, setZ, setS]
  refine take_now 1 rfl ?_
  try simp only [Act.put, setA, setZ, setS]
  refine take_now 3 rfl ?_
  try simp only [Act.put, setA, setZ, setS]
  refine take_now 4 rfl ?_
  try simp only [Act.put, setA, setZ, setS]
  refine only_at 2 (by kernel_rfl) rfl (fun K hK => ?_)
  go_simp
  (go_at_call 69
   (with_reducible refine (whole_any (HT2.out.keep (Below.refl _ _).drew) _ _ _).mono ?_)
   rintro e w1 ⟨rfl, hb1⟩
   obtain ⟨V1, rfl⟩ : ∃ W, W = w1 := ⟨_, rfl⟩
   have hz1 := hb1.size
   simp [World.drew] at hz1
   have HV1 := Lib.hid (HB2.out.drew.trans (hb1.mono HB2.out.size))
   have HT1 := Lib.hid ((HT2.out.keep (Below.refl _ _).drew).keep hb1)
   have N1 := Lib.hid (box_next hb1 N0.out)
   have M1 := Lib.hid (box_next hb1 M0.out)
   obtain ⟨n0, n1⟩ := row2c N1.out
   obtain ⟨m0, m1⟩ := row2c M1.out
   clear hb1)
  refine hK.out _ _ ?_ (fun hHeld => ?_)
  · (try dsimp only); go_keep
  clear hK K
  try simp only [Act.put, setA, setZ, setS]
  refine only_at 5 (by kernel_rfl) rfl (fun K hK => ?_)
  go_simp
  (go_at_call 69
   (with_reducible refine (whole_any HT1.out _ _ _).mono ?_)
   rintro e w2 ⟨rfl, hb2⟩
   obtain ⟨V, rfl⟩ : ∃ W, W = w2 := ⟨_, rfl⟩
   have hz2 := hb2.size
   have HV := Lib.hid (HV1.out.trans (hb2.mono HV1.out.size))
   have NV := Lib.hid (box_next hb2 N1.out)
   have MV := Lib.hid (box_next hb2 M1.out)
   obtain ⟨a0, a1⟩ := row2c NV.out
   obtain ⟨c0, c1⟩ := row2c MV.out
   clear hb2)
  refine hK.out _ _ ?_ (fun hHeld => ?_)
  · (try dsimp only); go_keep
  clear hK K
  try simp only [Act.put, setA, setZ, setS]
  have f0 := row_frz NV.out 0
  have f1 := row_frz NV.out 1
  have g0 := row_frz MV.out 0
  have g1 := row_frz MV.out 1
  have hne : w.heap.size + 1 ≠ w.heap.size := by omega
  have hne' : w.heap.size ≠ w.heap.size + 1 := by omega
  have NS := Lib.hid (set_row2 (.int .i64 0) (.slice A p.length c) NV.out)
  have MS := Lib.hid ((heap_set2 hne (w := V) (.int .i64 0) (.slice A p.length c)).trans MV.out)
  obtain ⟨j0, j1⟩ := row2c NS.out
  obtain ⟨k0, k1⟩ := row2c MS.out
  refine only_at 6 (by kernel_rfl) rfl (fun K hK => ?_)
  go_simp
  refine hK.out _ _ ⟨j0, j1, k0, k1⟩ (fun hHeld => ?_)
  clear hK K
  try simp only [Act.put, setA, setZ, setS]
  have NS2 := Lib.hid ((heap_set2 hne' (w := (V.setCell ⟨w.heap.size, 0, none⟩ (.int .i64 0)).setCell ⟨w.heap.size, 1, none⟩ (.slice A p.length c)) (.int .i64 0) (.slice B q.length d)).trans NS.out)
  have MS2 := Lib.hid (set_row2 (.int .i64 0) (.slice B q.length d) MS.out)
  obtain ⟨l0, l1⟩ := row2c NS2.out
  obtain ⟨o0, o1⟩ := row2c MS2.out
  refine only_at 7 (by kernel_rfl) rfl (fun K hK => ?_)
  go_simp
  refine hK.out _ _ ⟨l0, l1, o0, o1⟩ (fun hHeld => ?_)
  clear hK K
  try simp only [Act.put, setA, setZ, setS]
  refine wpAnyH_done (by kernel_rfl) ?_ _
  go_wp2_with fail
  have HR0 := Lib.hid (show SameR w0 w w.heap.size A B c d p q p q ((((V.setCell ⟨w.heap.size, 0, none⟩ (.int .i64 0)).setCell ⟨w.heap.size, 1, none⟩ (.slice A p.length c)).setCell ⟨w.heap.size + 1, 0, none⟩ (.int .i64 0)).setCell ⟨w.heap.size + 1, 1, none⟩ (.slice B q.length d)) from
    ⟨Iff.rfl, NS2.out, MS2.out, HP.out, HQ.out, below_set2 (below_set2 HV.out (Nat.le_refl _) _ _) (by omega) _ _⟩)
  generalize ((((V.setCell ⟨w.heap.size, 0, none⟩ (.int .i64 0)).setCell ⟨w.heap.size, 1, none⟩ (.slice A p.length c)).setCell ⟨w.heap.size + 1, 0, none⟩ (.int .i64 0)).setCell ⟨w.heap.size + 1, 1, none⟩ (.slice B q.length d)) = V0 at HR0 ⊢
  clear f0 f1 g0 g1 NS MS j0 j1 k0 k1 NS2 MS2 l0 l1 o0 o1 hHeld NV MV N1 M1 n0 n1 m0 m1 a0 a1 c0 c1 HV HV1 HT1 hz1 hz2 p0 p1 q0 q1
  go_loopg [] p.length (fun gh wr => ∃ la lb : Clk, la.length = gh ∧ SameR w0 w w.heap.size A B c d p q la lb wr)
  case atStart => exact ⟨p, q, rfl, HR0.out⟩
  case round =>
    obtain ⟨U, rfl⟩ : ∃ W, W = wr := ⟨_, rfl⟩
    obtain ⟨la, lb, rfl, hiff, hN, hM, hla, hlb, hbw⟩ := hrel
    have HI := Lib.hid hiff
    have HBW := Lib.hid hbw
    have hszw := hbw.size
    have NU := Lib.hid hN
    have MU := Lib.hid hM
    have hkN := lt_of_heap hN
    have hkM := lt_of_heap hM
    obtain ⟨n0, n1⟩ := row2c hN
    obtain ⟨m0, m1⟩ := row2c hM
    have hlm : la.length ≤ 9223372036854775807 := by obtain ⟨_, _, e, h1, h2, _⟩ := hla; cases e; unfold maxLen at h2; omega
    have hlm' : lb.length ≤ 9223372036854775807 := by obtain ⟨_, _, e, h1, h2, _⟩ := hlb; cases e; unfold maxLen at h2; omega
    by_cases hboth : 0 < la.length ∧ 0 < lb.length
    · obtain ⟨h1, h2⟩ := hboth
      obtain ⟨xa, s, rfl⟩ : ∃ xa s, la = xa ++ [s] := ⟨la.dropLast, la.getLast (by intro e; subst e; simp at h1), (List.dropLast_concat_getLast _).symm⟩
      obtain ⟨xb, r, rfl⟩ : ∃ xb r, lb = xb ++ [r] := ⟨lb.dropLast, lb.getLast (by intro e; subst e; simp at h2), (List.dropLast_concat_getLast _).symm⟩
      have hneq := neq_smp s r
      have hlA : (xa ++ [s]).length = xa.length + 1 := by simp
      have hlB : (xb ++ [r]).length = xb.length + 1 := by simp
      rw [hlA] at hN n1 hlm hla NU
      rw [hlB] at hM m1 hlm' hlb MU
      have HLA := Lib.hid hla
      have HLB := Lib.hid hlb
      have b4 := (((Below.refl U.heap.size U).alloc (Nat.le_refl _) (.cells #[.string ⟨#[]⟩, .string ⟨#[]⟩] 40)).alloc (by simp) (.cells #[.string ⟨#[]⟩, .string ⟨#[]⟩] 40))
      have HB4 := Lib.hid b4
      have N2 := Lib.hid (box_next b4 hN)
      have M2 := Lib.hid (box_next b4 hM)
      have S2 := Lib.hid (heap_alloc_keep (o := .cells #[.string ⟨#[]⟩, .string ⟨#[]⟩] 40) (heap_alloc_new U (.cells #[.string ⟨#[]⟩, .string ⟨#[]⟩] 40)))
      have R2 := Lib.hid (alloc_at (w := U.alloc (.cells #[.string ⟨#[]⟩, .string ⟨#[]⟩] 40)) (o := .cells #[.string ⟨#[]⟩, .string ⟨#[]⟩] 40) (n := U.heap.size + 1) (by simp))
      have u1 : w.heap.size + 1 ≠ w.heap.size := by omega
      have u2 : w.heap.size ≠ w.heap.size + 1 := by omega
      have u3 : U.heap.size ≠ w.heap.size := by omega
      have u4 : U.heap.size ≠ w.heap.size + 1 := by omega
      have u5 : U.heap.size + 1 ≠ w.heap.size := by omega
      have u6 : U.heap.size + 1 ≠ w.heap.size + 1 := by omega
      have u7 : U.heap.size + 1 ≠ U.heap.size := by omega
      have hHW := Lib.hid (HB.out.trans ((HBW.out.trans (b4.mono hszw)).mono hsz0))
      clear hiff hbw hla hlb b4 h1 h2
      go_wp2_with (first
        | (go_at_call 70
           (with_reducible refine (parted_any HLA.out hHW.out).mono ?_)
           rintro e w4 ⟨rfl, hca, hb4⟩
           obtain ⟨V4, rfl⟩ : ∃ W, W = w4 := ⟨_, rfl⟩
           have HCA := Lib.hid hca
           have H4 := Lib.hid hb4
           have N4 := Lib.hid (box_next hb4 N2.out)
           have M4 := Lib.hid (box_next hb4 M2.out)
           have S4 := Lib.hid (box_next hb4 S2.out)
           have R4 := Lib.hid (box_next hb4 R2.out)
           have f0 := row_frz N4.out 0
           have f1 := row_frz N4.out 1
           have g0 := row_frz S4.out 0
           have g1 := row_frz S4.out 1
           obtain ⟨a0, a1⟩ := row2c N4.out
           obtain ⟨b0, b1⟩ := row2c M4.out
           obtain ⟨c0, c1⟩ := row2c S4.out
           have N5 := Lib.hid ((heap_set2 u3.symm (w := (V4.setCell ⟨w.heap.size, 0, none⟩ (.int .i64 0)).setCell ⟨w.heap.size, 1, none⟩ (.slice A xa.length c)) (.string (str s.1)) (.string (str s.2))).trans (set_row2 (.int .i64 0) (.slice A xa.length c) N4.out))
           have M5 := Lib.hid ((heap_set2 u4.symm (w := (V4.setCell ⟨w.heap.size, 0, none⟩ (.int .i64 0)).setCell ⟨w.heap.size, 1, none⟩ (.slice A xa.length c)) (.string (str s.1)) (.string (str s.2))).trans ((heap_set2 u1 (.int .i64 0) (.slice A xa.length c)).trans M4.out))
           have S5 := Lib.hid (set_row2 (.string (str s.1)) (.string (str s.2)) ((heap_set2 u3 (.int .i64 0) (.slice A xa.length c)).trans S4.out))
           have R5 := Lib.hid ((heap_set2 u7 (w := (V4.setCell ⟨w.heap.size, 0, none⟩ (.int .i64 0)).setCell ⟨w.heap.size, 1, none⟩ (.slice A xa.length c)) (.string (str s.1)) (.string (str s.2))).trans ((heap_set2 u5 (.int .i64 0) (.slice A xa.length c)).trans R4.out))
           have B5 := Lib.hid (below_set2 (below_set2 (((HBW.out.trans (HB4.out.mono hszw))).trans (hb4.mono (HBW.out.trans (HB4.out.mono hszw)).size)) (Nat.le_refl w.heap.size) (.int .i64 0) (.slice A xa.length c)) (show w.heap.size ≤ U.heap.size by omega) (.string (str s.1)) (.string (str s.2)))
           clear hca hb4))
      (go_at_call 70
       (with_reducible refine (parted_any HLB.out (HB.out.trans (B5.out.mono hsz0))).mono ?_)
       rintro e w6 ⟨rfl, hcb, hb6⟩
       obtain ⟨V6, rfl⟩ : ∃ W, W = w6 := ⟨_, rfl⟩
       have HCB := Lib.hid hcb
       have N6 := Lib.hid (box_next hb6 N5.out)
       have M6 := Lib.hid (box_next hb6 M5.out)
       have S6 := Lib.hid (box_next hb6 S5.out)
       have R6 := Lib.hid (box_next hb6 R5.out)
       have B6 := Lib.hid (B5.out.trans (hb6.mono B5.out.size))
       have f0' := row_frz M6.out 0
       have f1' := row_frz M6.out 1
       have g0' := row_frz R6.out 0
       have g1' := row_frz R6.out 1
       obtain ⟨d0, d1⟩ := row2c S6.out
       obtain ⟨e0, e1⟩ := row2c M6.out
       obtain ⟨h0, h1⟩ := row2c R6.out
       clear hcb hb6)
      dsimp only
      have N7 := Lib.hid ((heap_set2 u5.symm (w := (V6.setCell ⟨w.heap.size + 1, 0, none⟩ (.int .i64 0)).setCell ⟨w.heap.size + 1, 1, none⟩ (.slice B xb.length d)) (.string (str r.1)) (.string (str r.2))).trans ((heap_set2 u2 (.int .i64 0) (.slice B xb.length d)).trans N6.out))
      have M7 := Lib.hid ((heap_set2 u6.symm (w := (V6.setCell ⟨w.heap.size + 1, 0, none⟩ (.int .i64 0)).setCell ⟨w.heap.size + 1, 1, none⟩ (.slice B xb.length d)) (.string (str r.1)) (.string (str r.2))).trans (set_row2 (.int .i64 0) (.slice B xb.length d) M6.out))
      have B7 := Lib.hid (below_set2 (below_set2 B6.out (show w.heap.size ≤ w.heap.size + 1 by omega) (.int .i64 0) (.slice B xb.length d)) (show w.heap.size ≤ U.heap.size + 1 by omega) (.string (str r.1)) (.string (str r.2)))
      by_cases hsr : s = r
      · have HSR := Lib.hid hsr
        replace hneq : ∀ w, (binOp .neq 40 (.agg #[.string (str s.1), .string (str s.2)]) (.agg #[.string (str r.1), .string (str r.2)])).run Tryz.prog w = .ok (.bool false) w := fun w => by rw [hneq w]; simp [hsr]
        clear hsr
        go_wp2_with fail
        go_roundg xa.length
        case measure => rw [hlA]; omega
        case rel => exact ⟨xa, xb, rfl, by rw [HI.out, HSR.out]; simp, N7.out, M7.out, HCA.out, HCB.out, B7.out⟩
      · have HSR := Lib.hid hsr
        replace hneq : ∀ w, (binOp .neq 40 (.agg #[.string (str s.1), .string (str s.2)]) (.agg #[.string (str r.1), .string (str r.2)])).run Tryz.prog w = .ok (.bool true) w := fun w => by rw [hneq w]; simp [hsr]
        clear hsr
        go_wp2_with fail
        go_ret
        exact ⟨ret_bool (by symm; rw [decide_eq_false_iff_not, HI.out]; intro e; exact HSR.out (by have := congrArg List.getLast? e; simpa using this)), B7.out⟩
    · cases la with
      | nil =>
        cases lb with
        | nil =>
          clear hiff hbw hla hlb hboth
          go_wp2_with (first
            | (go_at_call 71
               (with_reducible refine (stands_any _ _ _ _ _ _ _).mono ?_)
               rintro e w8 ⟨he, hb8⟩
               simp at he
               subst he
               obtain ⟨V8, rfl⟩ : ∃ W, W = w8 := ⟨_, rfl⟩
               have N8 := Lib.hid (box_next hb8 NU.out)
               have M8 := Lib.hid (box_next hb8 MU.out)
               have H8 := Lib.hid (HBW.out.trans (hb8.mono hszw))
               obtain ⟨a0, a1⟩ := row2c N8.out
               obtain ⟨b0, b1⟩ := row2c M8.out
               clear hb8))
          go_ret
          exact ⟨ret_bool (by symm; rw [decide_eq_true_iff]; exact HI.out.2 trivial), H8.out⟩
        | cons y lb =>
          clear hiff hbw hla hlb hboth
          go_wp2_with (first
            | (go_at_call 71
               (with_reducible refine (stands_any _ _ _ _ _ _ _).mono ?_)
               rintro e w8 ⟨he, hb8⟩
               simp at he
               subst he
               obtain ⟨V8, rfl⟩ : ∃ W, W = w8 := ⟨_, rfl⟩
               have N8 := Lib.hid (box_next hb8 NU.out)
               have M8 := Lib.hid (box_next hb8 MU.out)
               have H8 := Lib.hid (HBW.out.trans (hb8.mono hszw))
               obtain ⟨a0, a1⟩ := row2c N8.out
               obtain ⟨b0, b1⟩ := row2c M8.out
               clear hb8))
          (go_at_call 71
           (with_reducible refine (stands_any _ _ _ _ _ _ _).mono ?_)
           rintro e w9 ⟨he, hb9⟩
           simp at he
           subst he
           obtain ⟨V9, rfl⟩ : ∃ W, W = w9 := ⟨_, rfl⟩
           have H9 := Lib.hid (H8.out.trans (hb9.mono H8.out.size))
           clear hb9)
          dsimp only
          go_wp2_with fail
          go_ret
          exact ⟨ret_bool (by symm; rw [decide_eq_false_iff_not, HI.out]; simp), H9.out⟩
      | cons x la =>
        cases lb with
        | nil =>
          clear hiff hbw hla hlb hboth
          go_wp2_with (first
            | (go_at_call 71
               (with_reducible refine (stands_any _ _ _ _ _ _ _).mono ?_)
               rintro e w8 ⟨he, hb8⟩
               simp at he
               subst he
               obtain ⟨V8, rfl⟩ : ∃ W, W = w8 := ⟨_, rfl⟩
               have N8 := Lib.hid (box_next hb8 NU.out)
               have M8 := Lib.hid (box_next hb8 MU.out)
               have H8 := Lib.hid (HBW.out.trans (hb8.mono hszw))
               obtain ⟨a0, a1⟩ := row2c N8.out
               obtain ⟨b0, b1⟩ := row2c M8.out
               clear hb8))
          (go_at_call 71
           (with_reducible refine (stands_any _ _ _ _ _ _ _).mono ?_)
           rintro e w9 ⟨he, hb9⟩
           simp at he
           subst he
           obtain ⟨V9, rfl⟩ : ∃ W, W = w9 := ⟨_, rfl⟩
           have H9 := Lib.hid (H8.out.trans (hb9.mono H8.out.size))
           clear hb9)
          dsimp only
          go_wp2_with fail
          go_ret
          exact ⟨ret_bool (by symm; rw [decide_eq_false_iff_not, HI.out]; simp), H9.out⟩
        | cons y lb => exact absurd ⟨by simp, by simp⟩ hboth
end Go.Proofs.YtmceablhndldiaaGreatDoor
