/-
  clocks: fits, whatever the tree, where each sample's variable has a clock and there is no merge.
-/
import Derived.Test.YtmceablhndldiaaGreatDoorClkWhe
namespace Go.Proofs.YtmceablhndldiaaGreatDoor
open Go.RowKit

mutual
/-- no merge, and each sample's variable is there -/
def OkT (vs : List Vr) : Ex → Prop
  | .mk op nm _ cs ks => op ≠ 12 ∧ (op = 11 → (∃ d, lookV vs nm = some d) ∧ cs ≠ [] ∧ ks ≠ []) ∧ OkTL vs ks
def OkTL (vs : List Vr) : List Ex → Prop
  | [] => True
  | k :: l => OkT vs k ∧ OkTL vs l
end
theorem okTL_mem {vs : List Vr} : ∀ {l : List Ex}, OkTL vs l → ∀ x ∈ l, OkT vs x
  | [], _, x, h => by cases h
  | y :: l, h, x, hx => by
    rw [OkTL] at h
    rcases List.mem_cons.1 hx with rfl | hx
    · exact h.1
    · exact okTL_mem h.2 x hx
theorem flat_okT (vs : List Vr) : ∀ e : Ex, flatQ e = true → OkT vs e := by
  intro e
  induction e using Ex.rec (motive_2 := fun l => flatL l = true → OkTL vs l) with
  | mk op nm n cs ks ih =>
    intro h
    rw [flatQ] at h
    split at h
    · cases h
    · rename_i h1
      rw [OkT]
      refine ⟨fun e => h1 (by omega), fun e => absurd e (by omega), ?_⟩
      split at h
      · have hk : ks = [] := List.eq_nil_of_length_eq_zero (of_decide_eq_true h)
        subst hk
        exact trivial
      · exact ih h
  | nil h => exact trivial
  | cons k l h1 h2 h =>
    rw [flatL, Bool.and_eq_true] at h
    exact ⟨h1 h.1, h2 h.2⟩
theorem samp_okT {vs : List Vr} {x con : Tx} {c : Clk} (hx : lookV vs x = some c) : ∀ e : Ex, OkT vs e → OkT vs (sampQ x con e) := by
  intro e
  induction e using Ex.rec (motive_2 := fun l => OkTL vs l → OkTL vs (rebL (sampR x con) l)) with
  | mk op nm n cs ks ih =>
    intro h
    have h0 := h
    rw [OkT] at h
    unfold sampQ
    by_cases ho : op = 4
    · rw [rebQ_some (show sampR x con (.mk op nm n cs ks) = _ by simp [sampR, ho]; rfl)]
      exact ⟨by omega, fun _ => ⟨⟨c, hx⟩, by simp, by simp⟩, (by rw [← ho]; exact h0), trivial⟩
    · rw [rebQ_none (by simp [sampR, ho]), ← rebL_map]
      refine ⟨h.1, fun e => ⟨(h.2.1 e).1, (h.2.1 e).2.1, ?_⟩, ih h.2.2⟩
      have := (h.2.1 e).2.2
      cases ks with
      | nil => exact absurd rfl this
      | cons a t => rw [rebL]; simp
  | nil h => simp only [rebL]; exact trivial
  | cons k l h1 h2 h =>
    simp only [rebL]
    exact ⟨h1 h.1, h2 h.2⟩
variable {T m R : Nat} {l : List (Tx × Value)} {vs : List Vr}
set_option maxRecDepth 100000 in
set_option maxHeartbeats 1000000 in
theorem fits_const {W : World} {op : Int} (ho : op = 1 ∨ op = 2 ∨ op = 3) {nm : Tx} {n : Int} {cs : List Tx} {ks : List Ex} {L : List Value} (hx : ExAt W L (.mk op nm n cs ks)) {A : Option Addr} {k j : Nat} :
    Calls Tryz.prog 18 #[.pointer (some ⟨T, 0, none⟩), .agg L.toArray, .agg #[.int .i64 0, .slice A j k]] W (BoolPost true W) := by
  cases hx with
  | @mk _ _ _ _ _ cv A5 c5 C hop hnm hn hcs hl hcc hk hxx =>
    clear hop hnm hn hcs hl hcc hk hxx
    rcases ho with rfl | rfl | rfl
    all_goals
      go_enter Tryz.func18, Tryz.ntmps18
      go_wp2_with fail
      go_ret
      exact ⟨rfl, ((Below.refl _ _).alloc (Nat.le_refl _) _).alloc (by simp) _⟩
set_option maxRecDepth 100000 in
set_option maxHeartbeats 1000000 in
theorem fits_bad {W : World} {op : Int} (h0 : ¬ (op = 1 ∨ op = 2 ∨ op = 3)) (h4 : ¬ op = 4) (hm : ¬ manyOp op) (h11 : ¬ op = 11) (h12 : ¬ op = 12) {nm : Tx} {n : Int} {cs : List Tx} {ks : List Ex} {L : List Value} (hx : ExAt W L (.mk op nm n cs ks)) {A : Option Addr} {k j : Nat} :
    Calls Tryz.prog 18 #[.pointer (some ⟨T, 0, none⟩), .agg L.toArray, .agg #[.int .i64 0, .slice A j k]] W (BoolPost false W) := by
  unfold manyOp at hm
  cases hx with
  | @mk _ _ _ _ _ cv A5 c5 C hop hnm hn hcs hl hcc hk hxx =>
    clear hop hnm hn hcs hl hcc hk hxx
    have e1 : (op == 1) = false := by simp; omega
    have e2 : (op == 2) = false := by simp; omega
    have e3 : (op == 3) = false := by simp; omega
    have e4 : (op == 4) = false := by simp; omega
    have e5 : (op == 5) = false := by simp; omega
    have e6 : (op == 6) = false := by simp; omega
    have e7 : (op == 7) = false := by simp; omega
    have e8 : (op == 8) = false := by simp; omega
    have e9 : (op == 9) = false := by simp; omega
    have e10 : (op == 10) = false := by simp; omega
    have e11 : (op == 11) = false := by simp; omega
    have e12 : (op == 12) = false := by simp; omega
    have e14 : (op == 14) = false := by simp; omega
    have e15 : (op == 15) = false := by simp; omega
    clear h0 h4 hm h11 h12
    go_enter Tryz.func18, Tryz.ntmps18
    go_wp2_with fail
    go_ret
    exact ⟨rfl, ((Below.refl _ _).alloc (Nat.le_refl _) _).alloc (by simp) _⟩
set_option maxRecDepth 100000 in
set_option maxHeartbeats 2000000 in
theorem fits_many {W : World} (hE : EnvC T m R l vs W) {op : Int} (ho : manyOp op) {nm : Tx} {n : Int} {cs : List Tx} {ks : List Ex} {L : List Value} (hx : ExAt W L (.mk op nm n cs ks)) {A : Option Addr} {k : Nat} {c : Clk} (hc : ClkAt W (.slice A c.length k) c) (hF : ∀ x ∈ ks, FitsOk T m R l vs x) :
    Calls Tryz.prog 18 #[.pointer (some ⟨T, 0, none⟩), .agg L.toArray, .agg #[.int .i64 0, .slice A c.length k]] W (BoolPost (fitsL vs ks c) W) := by
  cases hx with
  | @mk _ _ _ _ _ cv A5 c5 C hop hnm hn hcs hl hcc hk hxx =>
    have b2 := ((Below.refl W.heap.size W).alloc (Nat.le_refl _) (.cells #[.int .i64 op, .string (str nm), .int .i64 n, cv, .slice A5 ks.length c5] 31)).alloc (by simp) (.cells #[.int .i64 0, .slice A c.length k] 68)
    have HB2 := Lib.hid b2
    have HA := Lib.hid (allFit_any hF (hE.under b2) (show SliceAt _ (ExAt _) (.slice A5 ks.length c5) ks from ⟨A5, c5, rfl, hl, hcc, fun i x hx => ⟨C i, (hk i x hx).under b2, (hxx i x hx).under b2⟩⟩) (hc.under b2))
    have e0 := heap_alloc_keep (o := .cells #[.int .i64 0, .slice A c.length k] 68) (heap_alloc_new W (.cells #[.int .i64 op, .string (str nm), .int .i64 n, cv, .slice A5 ks.length c5] 31))
    have c0 := alloc_at (w := W.alloc (.cells #[.int .i64 op, .string (str nm), .int .i64 n, cv, .slice A5 ks.length c5] 31)) (o := .cells #[.int .i64 0, .slice A c.length k] 68) (n := W.heap.size + 1) (by simp)
    obtain ⟨p0, p1, p2, p3, p4⟩ := row5 e0
    obtain ⟨q0, q1⟩ := row2c c0
    clear hop hnm hn hcs hl hcc hk hxx b2 hF hc hE e0 c0
    unfold manyOp at ho
    rcases ho with rfl | rfl | rfl | rfl | rfl | rfl | rfl | rfl
    all_goals
      go_enter Tryz.func18, Tryz.ntmps18
      go_wp2_with (go_at_call 34; (with_reducible refine HA.out.mono ?_); rintro e w1 ⟨rfl, hb1⟩)
      go_ret
      exact ⟨rfl, HB2.out.trans (hb1.mono HB2.out.size)⟩
set_option maxRecDepth 100000 in
set_option maxHeartbeats 2000000 in
theorem fits_when {W : World} (hE : EnvC T m R l vs W) {nm con : Tx} {n : Int} {cs : List Tx} {k0 : Ex} {ks : List Ex} {L : List Value} (hx : ExAt W L (.mk 11 nm n (con :: cs) (k0 :: ks))) {A : Option Addr} {k : Nat} {c d : Clk} (hc : ClkAt W (.slice A c.length k) c)
    (hd : lookV vs nm = some d) (hF : FitsOk T m R l vs k0) :
    Calls Tryz.prog 18 #[.pointer (some ⟨T, 0, none⟩), .agg L.toArray, .agg #[.int .i64 0, .slice A c.length k]] W (BoolPost (decide (d ++ [(nm, con)] = c) && fitsQ vs k0 d) W) := by
  obtain ⟨o1, s1, n1, A1, m1, k1, A2, m2, k2, hL⟩ := hx.shape
  have ho : o1 = 11 := by
    cases hx with
    | mk _ _ _ _ _ _ _ _ => injection hL with h1 _; injection h1 with _ h; exact h.symm
  subst hL ho
  have b2 := ((Below.refl W.heap.size W).alloc (Nat.le_refl _) (.cells #[.int .i64 11, .string s1, .int .i64 n1, .slice A1 m1 k1, .slice A2 m2 k2] 31)).alloc (by simp) (.cells #[.int .i64 0, .slice A c.length k] 68)
  have HB2 := Lib.hid b2
  have HA := Lib.hid (whenFits_any (hE.under b2) (hx.under b2) (hc.under b2) hd hF)
  have e0 := heap_alloc_keep (o := .cells #[.int .i64 0, .slice A c.length k] 68) (heap_alloc_new W (.cells #[.int .i64 11, .string s1, .int .i64 n1, .slice A1 m1 k1, .slice A2 m2 k2] 31))
  have c0 := alloc_at (w := W.alloc (.cells #[.int .i64 11, .string s1, .int .i64 n1, .slice A1 m1 k1, .slice A2 m2 k2] 31)) (o := .cells #[.int .i64 0, .slice A c.length k] 68) (n := W.heap.size + 1) (by simp)
  obtain ⟨p0, p1, p2, p3, p4⟩ := row5 e0
  obtain ⟨q0, q1⟩ := row2c c0
  clear hE hx hc hd hF b2 e0 c0
  go_enter Tryz.func18, Tryz.ntmps18
  go_wp2_with (go_at_call 35; (with_reducible refine HA.out.mono ?_); rintro e w1 ⟨rfl, hb1⟩)
  go_ret
  exact ⟨rfl, HB2.out.trans (hb1.mono HB2.out.size)⟩
theorem fits_upto : ∀ (z : Nat) (x : Ex), SizeOf.sizeOf x < z → OkT vs x → FitsOk T m R l vs x
  | 0, _, h, _ => by omega
  | z + 1, .mk op nm n cs ks, hz, hok => by
    intro W hE L hx A k c hc
    have hkid : ∀ x ∈ ks, SizeOf.sizeOf x < z := fun x h => by
      have := List.sizeOf_lt_of_mem h
      simp at hz
      omega
    rw [OkT] at hok
    rw [fitsQ]
    by_cases h0 : op = 1 ∨ op = 2 ∨ op = 3
    · rw [if_pos h0]
      exact fits_const h0 hx
    rw [if_neg h0]
    by_cases h4 : op = 4
    · subst h4
      rw [if_pos rfl]
      exact fits_var hE hx hc
    rw [if_neg h4]
    by_cases hm : manyOp op
    · rw [if_pos hm]
      exact fits_many hE hm hx hc fun x h => fits_upto z x (hkid x h) (okTL_mem hok.2.2 x h)
    rw [if_neg hm]
    by_cases h11 : op = 11
    · subst h11
      obtain ⟨⟨d, hd⟩, hcs, hks⟩ := hok.2.1 rfl
      cases cs with
      | nil => exact absurd rfl hcs
      | cons con cs =>
        cases ks with
        | nil => exact absurd rfl hks
        | cons k0 ks =>
          rw [if_pos rfl, hd, fitsWhen]
          exact fits_when hE hx hc hd (fits_upto z k0 (hkid k0 List.mem_cons_self) (okTL_mem hok.2.2 k0 List.mem_cons_self))
    rw [if_neg h11]
    exact fits_bad h0 h4 hm h11 hok.1 hx
/-- whatever the tree -/
theorem fits_ok (x : Ex) (h : OkT vs x) : FitsOk T m R l vs x := fits_upto (SizeOf.sizeOf x + 1) x (Nat.lt_succ_self _) h
end Go.Proofs.YtmceablhndldiaaGreatDoor
