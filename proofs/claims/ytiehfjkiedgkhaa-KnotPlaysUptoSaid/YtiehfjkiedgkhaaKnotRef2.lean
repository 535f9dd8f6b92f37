/-
  The reference's knot: the calls that change it.
-/
import Derived.Test.YtiehfjkiedgkhaaKnotRef
namespace Go.Proofs.Ytiehfjkiedgkhaa
open Go.RowKit

/-- what a call that changes it leaves -/
def MovedR (B k : Nat) (v1 v2 : Value) (S : KS) (w w' : World) : Prop :=
  ∃ v1' v2', RefAt B w' k v1' v2' S ∧ KeptP (FootR k v1 v2) w w' ∧ ∀ b, FootR k v1' v2' b → FootR k v1 v2 b ∨ w.heap.size ≤ b
theorem int_info : (Try.prog.info? 3).map (fun i => (i.zero, i.size, i.bytes)) = some (some (.int .i64 0), 1, 8) := by kernel_rfl
theorem one_int (a : Int) : ∀ u ∈ [Value.int .i64 a], u.oneCell' = true := by
  intro u hu
  simp only [List.mem_cons, List.not_mem_nil, or_false] at hu
  subst hu
  rfl
theorem one_enc {F : Nat → Nat → Value} {n : Nat} {u0 : Value} (h0 : F n 0 = u0) (j : Nat) (u : Value) (h : [u0][j]? = some u) : F n j = u := by
  match j, h with
  | 0, h => simp at h; rw [h0, h]
  | j + 1, h => simp at h
section
variable {B k : Nat} {w w' : World} {v1 v2 : Value} {S : KS}
theorem MovedR.none (h : RefAt B w k v1 v2 S) : MovedR B k v1 v2 S w w := ⟨v1, v2, h, KeptP.refl _ _, fun _ hb => .inl hb⟩
theorem MovedR.drewN (h : MovedR B k v1 v2 S w w') (q : Nat) : MovedR B k v1 v2 S w (w'.drewN q) := by
  obtain ⟨v', v'', h1, h2, h3⟩ := h
  exact ⟨v', v'', h1.under ⟨rfl, rfl, rfl, Nat.le_refl _, fun _ _ => rfl⟩, h2.drewN q, h3⟩
def addC (S : KS) : Nat → Nat → Value := fun i _ => .int .i64 ((addS S).c i)
def addM (S : KS) : Nat → Nat → Value := fun i _ => .int .i64 ((addS S).m i)
theorem set_size (w : World) (a : Addr) (u : Value) : (w.setCell a u).heap.size = w.heap.size := by simp [World.setCell]
theorem alloc_set (w : World) (a : Addr) (u : Value) (o : Obj) : ((w.setCell a u).alloc o).heap[w.heap.size]? = some o := by
  have := heap_alloc_new (w.setCell a u) o
  rwa [set_size] at this
/-- behind the first append and its store -/
theorem ref_add1 {W w2 : World} {v1' : Value} (h : RefAt B w k v1 v2 S) (hal : Below w.heap.size w W) (hg : Grew B 3 1 W v1 S.n (addC S) v1' w2) :
    w2.heap[k]? = some (.cells #[v1, v2] 29 (0, 0)) ∧ RowF B 3 1 (w2.setCell ⟨k, 0, none⟩ v1') v1' (S.n + 1) (addC S) ∧ RowF B 3 1 (w2.setCell ⟨k, 0, none⟩ v1') v2 S.n (addM S) ∧ KeptP (FootR k v1 v2) w w2 ∧ w.heap.size ≤ w2.heap.size := by
  obtain ⟨h1, h2, h3⟩ := hg
  have hk := kin h.box
  have n1 := h.rc.not_box h.box (by decide)
  have n2 := h.rm.not_box h.box (by decide)
  have hbox : w2.heap[k]? = some (.cells #[v1, v2] 29 (0, 0)) := (h2.block k (Nat.lt_of_lt_of_le hk hal.size) (fun e => n1 e.symm)).trans ((hal.block k hk).trans h.box)
  have n3 := h1.not_box hbox (by decide)
  refine ⟨hbox, h1.kept (M := (· = k)) ((KeptP.refl (· = k) w2).set (a := ⟨k, 0, none⟩) (.inl rfl) _) (fun g hg e => n3 (by rw [hg, e])), ?_, (KeptP.of_below hal).trans (KeptP.of_grown h2 fun b hb => .inr (.inl hb)), Nat.le_trans hal.size h2.size⟩
  have hm : RowF B 3 1 w v2 S.n (addM S) := h.rm.congr fun i j hi _ => by simp [addM, addS, Nat.ne_of_lt hi]
  have hm2 : RowF B 3 1 w2 v2 S.n (addM S) := (hm.under hal).kept (M := fun b => v1.ownBlock = some b) (KeptP.of_grown h2 fun b hb => hb) fun g hg hf => h.apart g hf hg
  exact hm2.kept (M := (· = k)) ((KeptP.refl (· = k) w2).set (a := ⟨k, 0, none⟩) (.inl rfl) _) fun g hg e => n2 (by rw [hg, e])
/-- and behind the second -/
theorem ref_add2 {W w2 W2 w5 : World} {v1' v2' : Value} (h : RefAt B w k v1 v2 S) (hn : S.n < 4194303) (hal : Below w.heap.size w W) (hg : Grew B 3 1 W v1 S.n (addC S) v1' w2)
    (hal2 : Below w2.heap.size (w2.setCell ⟨k, 0, none⟩ v1') W2) (hg2 : Grew B 3 1 W2 v2 S.n (addM S) v2' w5) :
    w5.heap[k]? = some (.cells #[v1', v2] 29 (0, 0)) ∧ MovedR B k v1 v2 (addS S) w (w5.setCell ⟨k, 1, none⟩ v2') := by
  obtain ⟨hbox, r1, r2, hkp, hsz⟩ := ref_add1 h hal hg
  obtain ⟨_, g2, g3⟩ := hg
  have hk := kin h.box
  have hsz1 : (w2.setCell ⟨k, 0, none⟩ v1').heap.size = w2.heap.size := by simp [World.setCell]
  have hk2 : k < w2.heap.size := by omega
  have hbx1 : (w2.setCell ⟨k, 0, none⟩ v1').heap[k]? = some (.cells #[v1', v2] 29 (0, 0)) := Joins.block_setCell hbox v1'
  have hbx2 : W2.heap[k]? = some (.cells #[v1', v2] 29 (0, 0)) := (hal2.block k hk2).trans hbx1
  have r1' : RowF B 3 1 W2 v1' (S.n + 1) (addC S) := r1.under (by rw [hsz1]; exact hal2)
  have n1 := r1'.not_box hbx2 (by decide)
  have n2 := h.rm.not_box h.box (by decide)
  obtain ⟨q1, q2, q3⟩ := hg2
  have hs2 : w2.heap.size ≤ W2.heap.size := by have := hal2.size; omega
  have hbx5 : w5.heap[k]? = some (.cells #[v1', v2] 29 (0, 0)) := (q2.block k (by omega) (fun e => n2 e.symm)).trans hbx2
  have n5 := q1.not_box hbx5 (by decide)
  have ap : ∀ g, v1'.ownBlock = some g → v2.ownBlock ≠ some g := by
    intro g hg hf
    rcases g3 with e | e
    · rw [e] at hg; exact h.apart g hg hf
    · rw [e] at hg; injection hg with hg
      have := (h.rm.lt hf).2
      have := hal.size
      omega
  have ap2 : ∀ g, v1'.ownBlock = some g → v2'.ownBlock ≠ some g := by
    intro g hg hf
    rcases q3 with e | e
    · rw [e] at hf; exact ap g hg hf
    · rw [e] at hf; injection hf with hf
      have := (r1'.lt hg).2
      omega
  refine ⟨hbx5, v1', v2', ⟨ok_add h.ok, ?_, ?_, ?_, h.low, by simp only [addS]; omega, ap2⟩, ?_, ?_⟩
  · have : RowF B 3 1 w5 v1' (S.n + 1) (addC S) := r1'.kept (M := fun b => v2.ownBlock = some b) (KeptP.of_grown q2 fun b hb => hb) fun g hg hf => ap g hg hf
    exact this.kept (M := (· = k)) ((KeptP.refl (· = k) w5).set (a := ⟨k, 1, none⟩) (.inl rfl) _) fun g hg e => n1 (by rw [hg, e])
  · exact q1.kept (M := (· = k)) ((KeptP.refl (· = k) w5).set (a := ⟨k, 1, none⟩) (.inl rfl) _) fun g hg e => n5 (by rw [hg, e])
  · exact Joins.block_setCell hbx5 v2'
  · have k1 : KeptP (FootR k v1 v2) w (w2.setCell ⟨k, 0, none⟩ v1') := hkp.set (.inl (.inl rfl)) _
    have k2 : KeptP (FootR k v1 v2) w W2 := k1.trans (KeptP.of_below (by rw [hsz1]; exact hal2))
    exact (k2.trans (KeptP.of_grown q2 fun b hb => .inr (.inr hb))).set (.inl (.inl rfl)) _
  · intro b hb
    rcases hb with rfl | hb | hb
    · exact .inl (.inl rfl)
    · rcases g3 with e | e
      · exact .inl (.inr (.inl (e ▸ hb)))
      · rw [e] at hb; injection hb with hb; exact .inr (by have := hal.size; omega)
    · rcases q3 with e | e
      · exact .inl (.inr (.inr (e ▸ hb)))
      · rw [e] at hb; injection hb with hb; exact .inr (by omega)
set_option maxRecDepth 100000 in
set_option maxHeartbeats 1000000 in
theorem add_ref (h : RefAt B w k v1 v2 S) (hn : S.n < 4194303) (hB : B ≤ w.heap.size) : Calls Try.prog 12 #[.pointer (some ⟨k, 0, none⟩)] w fun e w' => e = .returned (.int .i64 S.n) ∧ MovedR B k v1 v2 (addS S) w w' := by
  have H := Lib.hid h
  have HN := Lib.hid hn
  obtain ⟨hc0, hc1⟩ := h.cells
  have hn1 : S.n ≤ 4194303 := by omega
  obtain ⟨A1, c1, e1, h1, h2⟩ := h.rc.shape
  obtain ⟨A2, c2, e2, h3, h4⟩ := h.rm.shape
  have hal : Below w.heap.size w (w.alloc (.cells #[.int .i64 S.n] 3)) := (Below.refl _ _).alloc (Nat.le_refl _) _
  have HAL := Lib.hid hal
  have hR : RowF B 3 1 w v1 S.n (addC S) := h.rc.congr fun i j hi _ => by simp [addC, addS, Nat.ne_of_lt hi]
  have HR := Lib.hid (hR.under hal)
  have HE := Lib.hid (show addC S S.n 0 = .int .i64 S.n by simp [addC, addS])
  have HE2 := Lib.hid (show addM S S.n 0 = .int .i64 0 by simp [addM, addS])
  subst e1 e2
  clear h hal hR hn
  unfold maxLen at h2 h4
  have TK := Lib.hid True.intro
  go_enter Try.func12, Try.ntmps12
  go_wp2_with (first
    | (have _ := TK.out; at_builtin; refine append_row (B := B) (v := .slice A1 S.n c1) (T := 3) (s := 1) (n := S.n) (F := addC S) (L := [.int .i64 S.n]) rfl _ _ rfl Try.underlying27 int_info rfl (by decide) (by decide) rfl rfl (heap_alloc_new _ _) rfl (one_int _) HR.out (one_enc HE.out) hn1 ?_ ?_; (first | omega | (simp; omega)); (intro v5 w5 h5; obtain ⟨A5, c5, rfl⟩ := h5.shape; have HG1 := Lib.hid h5; obtain ⟨hbx, _, r2, _, hsz⟩ := ref_add1 H.out HAL.out h5; have hf0 := Joins.unfrozen_of_block hbx 0; have hcl0 := Joins.cell_of_block hbx 0; have hcl1 := Joins.cell_of_block hbx 1; have HR2 := Lib.hid r2; have HBX := Lib.hid hbx; clear h5 TK hbx r2))
    | (at_builtin; refine append_row (B := B) (v := .slice A2 S.n c2) (T := 3) (s := 1) (n := S.n) (F := addM S) (L := [.int .i64 0]) rfl _ _ rfl Try.underlying27 int_info rfl (by decide) (by decide) rfl rfl (alloc_set _ _ _ _) rfl (one_int _) (HR2.out.under ((Below.refl _ _).alloc (Nat.le_refl _) _)) (one_enc HE2.out) hn1 ?_ ?_; ((have := hsz; simp [World.setCell]; omega)); (intro v6 w6 h6; obtain ⟨A6, c6, rfl⟩ := h6.shape; have HG2 := Lib.hid h6; obtain ⟨hbx, hmv⟩ := ref_add2 H.out HN.out HAL.out HG1.out (((Below.refl _ _).alloc (by simp [World.setCell]) _)) h6; have hf1 := Joins.unfrozen_of_block hbx 1; have hcl2 := Joins.cell_of_block hbx 1; have HMV := Lib.hid hmv; clear h6 hbx hmv)))
  go_ret
  exact ⟨rfl, HMV.out⟩
theorem RowF.set1 {T : TypeId} {n g c : Nat} {F F' : Nat → Nat → Value} (h : RowF B T 1 w (.slice (some ⟨g, 0, none⟩) n c) n F) {i : Nat} (hi : i < n) (u : Value) (hF : ∀ i', F' i' 0 = if i' = i then u else F i' 0) :
    RowF B T 1 (w.setCell ⟨g, i, none⟩ u) (.slice (some ⟨g, 0, none⟩) n c) n F' := by
  have := h.set (F' := F') hi (show 0 < 1 by omega) u fun i' j' _ hj => by
    obtain rfl : j' = 0 := by omega
    rw [hF]
    simp
  simpa using this
def markR (S : KS) (a : Nat) (m : Int) (i : Nat) : Nat → Nat → Value := fun j _ => .int .i64 (if j < i ∧ S.c j = S.c a then m else S.m j)
theorem markR_yes {S : KS} {a i : Nat} {m : Int} (he : S.c i = S.c a) (i' : Nat) : markR S a m (i + 1) i' 0 = if i' = i then .int .i64 m else markR S a m i i' 0 := by
  unfold markR
  by_cases h : i' = i
  · rw [if_pos h, if_pos (by subst h; exact ⟨by omega, he⟩)]
  · rw [if_neg h]
    by_cases h2 : i' < i ∧ S.c i' = S.c a
    · rw [if_pos h2, if_pos ⟨by omega, h2.2⟩]
    · rw [if_neg h2, if_neg fun g => h2 ⟨by omega, g.2⟩]
theorem markR_no {S : KS} {a i : Nat} {m : Int} (he : ¬ S.c i = S.c a) (i' : Nat) {j : Nat} : markR S a m i i' j = markR S a m (i + 1) i' j := by
  unfold markR
  by_cases h2 : i' < i ∧ S.c i' = S.c a
  · rw [if_pos h2, if_pos ⟨by omega, h2.2⟩]
  · rw [if_neg h2, if_neg fun g => h2 ⟨by
      have : i' ≠ i := fun e => he (by rw [← e]; exact g.2)
      omega, g.2⟩]
theorem markR_all {S : KS} {a i : Nat} {m : Int} {j : Nat} (hi : i < S.n) : markR S a m S.n i j = .int .i64 ((markF S a m).m i) := by
  unfold markR markF
  simp only [hi, true_and]
set_option maxRecDepth 100000 in
set_option maxHeartbeats 1000000 in
theorem mark_ref (h : RefAt B w k v1 v2 S) (a m : Int) (hm : m < 9223372036854775808) :
    Calls Try.prog 14 #[.pointer (some ⟨k, 0, none⟩), .int .i64 a, .int .i64 m] w fun e w' => e = .returned (.bool (markOk S a m)) ∧ MovedR B k v1 v2 (markS S a m) w w' := by
  have H := Lib.hid h
  by_cases hk : inK S a = true ∧ 0 < m
  · obtain ⟨hk, h0⟩ := hk
    obtain ⟨b, hb0⟩ : ∃ b, a.toNat = b := ⟨_, rfl⟩
    obtain ⟨rfl, hb⟩ := inK_no hk hb0
    have HK := Lib.hid hk
    have HB := Lib.hid hb
    obtain ⟨g1, c1, rfl, hl1, hm1⟩ := h.rc.there (by omega)
    obtain ⟨g2, c2, rfl, hl2, hm2⟩ := h.rm.there (by omega)
    unfold maxLen at hm1 hm2
    have hr := h.rm.cell1 hb
    have hra := h.rc.cell1 hb
    obtain ⟨hc0, hc1⟩ := h.cells
    have hbg := h.big
    have hle : ¬ m ≤ 0 := by omega
    have HM := Lib.hid (And.intro h0 hm)
    have hgk : k ≠ g2 := fun e => h.rm.not_box h.box (by decide) (by rw [e]; rfl)
    have HMO := Lib.hid (show markOk S (b : Int) m = decide (S.m b = 0 ∨ S.m b = m) by simp [markOk, hk, h0])
    clear hk h hb0 hm h0
    by_cases hz : S.m b = 0
    · have f1 : (S.m b != 0) = false := by simpa using hz
      have hd : S.m b = 0 ∨ S.m b = m := .inl hz
      have HMT := Lib.hid (show markOk S (b : Int) m = true by rw [HMO.out]; simpa using hd)
      clear hz
      clear hd
      have HW0 := Lib.hid (show RowF B 3 1 w (.slice (some ⟨g2, 0, none⟩) S.n c2) S.n (markR S b m 0) from H.out.rm.congr fun i j _ _ => by simp [markR])
      go_enter Try.func14, Try.ntmps14
      go_wp2_with (go_at_call 28; ((with_reducible refine (is_ref H.out _).mono ?_); rintro e w' ⟨he, rfl⟩; rw [HK.out] at he; subst he))
      clear hr hc0 hc1 hra
      go_loopg [8] S.n (fun gk u wr => ∃ i : Nat, i + gk = S.n ∧ u = .int .i64 i ∧ RowF B 3 1 wr (.slice (some ⟨g2, 0, none⟩) S.n c2) S.n (markR S b m i) ∧ KeptP (fun x => x = g2) w wr)
      case atStart => exact ⟨0, by omega, rfl, HW0.out, KeptP.refl _ _⟩
      case round =>
        obtain ⟨i, hi, rfl, hrow, hkp⟩ := hrel
        have HI := Lib.hid hi
        have HR := Lib.hid hrow
        have HKP := Lib.hid hkp
        have hbx := hkp.heap H.out.box (fun e => hgk e)
        have hc0 : wr.cell? ⟨k, 0, none⟩ = some (.slice (some ⟨g1, 0, none⟩) S.n c1) := by rw [Joins.cell_of_block hbx]; rfl
        have hc1 : wr.cell? ⟨k, 1, none⟩ = some (.slice (some ⟨g2, 0, none⟩) S.n c2) := by rw [Joins.cell_of_block hbx]; rfl
        have hrc := H.out.rc.kept hkp (fun g hg e => H.out.apart g hg (by rw [e]; rfl))
        have HRC := Lib.hid hrc
        clear hi hrow hkp hbx hrc
        by_cases hil : i < S.n
        · have hx := HRC.out.cell1 hil
          have hf := HR.out.soft i
          have hy := HR.out.cell1 hil
          by_cases he : S.c i = S.c b
          · have heq : ((S.c i : Int) == (S.c b : Int)) = true := by simp; omega
            have HE := Lib.hid he
            clear he
            go_wp2_with fail
            go_roundg (S.n - (i + 1))
            case measure => have := HI.out; omega
            case rel => exact ⟨i + 1, by omega, by go_num, HR.out.set1 hil _ (markR_yes HE.out), HKP.out.set (.inl rfl) _⟩
          · have heq : ((S.c i : Int) == (S.c b : Int)) = false := by simp; omega
            have HE := Lib.hid he
            clear he
            go_wp2_with fail
            go_roundg (S.n - (i + 1))
            case measure => have := HI.out; omega
            case rel => exact ⟨i + 1, by omega, by go_num, HR.out.congr fun i' j' hi' hj' => markR_no HE.out i', HKP.out⟩
        · go_wp2_with fail
          go_ret
          obtain rfl : i = S.n := by have := HI.out; omega
          refine ⟨ret_bool HMT.out.symm, ?_⟩
          rw [show markS S (b : Int) m = markF S b m by unfold markS; rw [if_pos HMT.out]; simp]
          exact ⟨_, _, ⟨ok_mark H.out.ok HM.out, HRC.out, HR.out.congr fun i' j' hi' hj' => markR_all hi', HKP.out.heap H.out.box (fun e => hgk e), H.out.low, H.out.big, H.out.apart⟩, HKP.out.mono fun x _ hx => .inr (.inr (by rw [hx]; rfl)), fun x hx => .inl hx⟩
    · have f1 : (S.m b != 0) = true := by simpa using hz
      by_cases hz2 : S.m b = m
      · have f2 : (S.m b != m) = false := by simpa using hz2
        have hd : S.m b = 0 ∨ S.m b = m := .inr hz2
        have HMT := Lib.hid (show markOk S (b : Int) m = true by rw [HMO.out]; simpa using hd)
        clear hz hz2
        clear hd
        have HW0 := Lib.hid (show RowF B 3 1 w (.slice (some ⟨g2, 0, none⟩) S.n c2) S.n (markR S b m 0) from H.out.rm.congr fun i j _ _ => by simp [markR])
        go_enter Try.func14, Try.ntmps14
        go_wp2_with (go_at_call 28; ((with_reducible refine (is_ref H.out _).mono ?_); rintro e w' ⟨he, rfl⟩; rw [HK.out] at he; subst he))
        clear hr hc0 hc1 hra
        go_loopg [8] S.n (fun gk u wr => ∃ i : Nat, i + gk = S.n ∧ u = .int .i64 i ∧ RowF B 3 1 wr (.slice (some ⟨g2, 0, none⟩) S.n c2) S.n (markR S b m i) ∧ KeptP (fun x => x = g2) w wr)
        case atStart => exact ⟨0, by omega, rfl, HW0.out, KeptP.refl _ _⟩
        case round =>
          obtain ⟨i, hi, rfl, hrow, hkp⟩ := hrel
          have HI := Lib.hid hi
          have HR := Lib.hid hrow
          have HKP := Lib.hid hkp
          have hbx := hkp.heap H.out.box (fun e => hgk e)
          have hc0 : wr.cell? ⟨k, 0, none⟩ = some (.slice (some ⟨g1, 0, none⟩) S.n c1) := by rw [Joins.cell_of_block hbx]; rfl
          have hc1 : wr.cell? ⟨k, 1, none⟩ = some (.slice (some ⟨g2, 0, none⟩) S.n c2) := by rw [Joins.cell_of_block hbx]; rfl
          have hrc := H.out.rc.kept hkp (fun g hg e => H.out.apart g hg (by rw [e]; rfl))
          have HRC := Lib.hid hrc
          clear hi hrow hkp hbx hrc
          by_cases hil : i < S.n
          · have hx := HRC.out.cell1 hil
            have hf := HR.out.soft i
            have hy := HR.out.cell1 hil
            by_cases he : S.c i = S.c b
            · have heq : ((S.c i : Int) == (S.c b : Int)) = true := by simp; omega
              have HE := Lib.hid he
              clear he
              go_wp2_with fail
              go_roundg (S.n - (i + 1))
              case measure => have := HI.out; omega
              case rel => exact ⟨i + 1, by omega, by go_num, HR.out.set1 hil _ (markR_yes HE.out), HKP.out.set (.inl rfl) _⟩
            · have heq : ((S.c i : Int) == (S.c b : Int)) = false := by simp; omega
              have HE := Lib.hid he
              clear he
              go_wp2_with fail
              go_roundg (S.n - (i + 1))
              case measure => have := HI.out; omega
              case rel => exact ⟨i + 1, by omega, by go_num, HR.out.congr fun i' j' hi' hj' => markR_no HE.out i', HKP.out⟩
          · go_wp2_with fail
            go_ret
            obtain rfl : i = S.n := by have := HI.out; omega
            refine ⟨ret_bool HMT.out.symm, ?_⟩
            rw [show markS S (b : Int) m = markF S b m by unfold markS; rw [if_pos HMT.out]; simp]
            exact ⟨_, _, ⟨ok_mark H.out.ok HM.out, HRC.out, HR.out.congr fun i' j' hi' hj' => markR_all hi', HKP.out.heap H.out.box (fun e => hgk e), H.out.low, H.out.big, H.out.apart⟩, HKP.out.mono fun x _ hx => .inr (.inr (by rw [hx]; rfl)), fun x hx => .inl hx⟩
      · have f2 : (S.m b != m) = true := by simpa using hz2
        have hd : ¬ (S.m b = 0 ∨ S.m b = m) := fun g => g.elim hz hz2
        have HMT := Lib.hid (show markOk S (b : Int) m = false by rw [HMO.out]; simpa using hd)
        clear hz hz2 hd
        go_enter Try.func14, Try.ntmps14
        go_wp2_with (go_at_call 28; ((with_reducible refine (is_ref H.out _).mono ?_); rintro e w' ⟨he, rfl⟩; rw [HK.out] at he; subst he))
        all_goals
          go_ret
          refine ⟨ret_bool HMT.out.symm, ?_⟩
          rw [show markS S (b : Int) m = S by unfold markS; rw [if_neg (by rw [HMT.out]; decide)]]
          exact MovedR.none H.out
  · have HMT := Lib.hid (show markOk S a m = false by
      cases hi : inK S a
      · simp [markOk, hi]
      · have : ¬ 0 < m := fun g => hk ⟨hi, g⟩
        simp [markOk, this])
    cases hi : inK S a
    · have HK := Lib.hid hi
      clear hk h hi hm
      go_enter Try.func14, Try.ntmps14
      go_wp2_with (go_at_call 28; ((with_reducible refine (is_ref H.out _).mono ?_); rintro e w' ⟨he, rfl⟩; rw [HK.out] at he; subst he))
      go_ret
      refine ⟨ret_bool HMT.out.symm, ?_⟩
      rw [show markS S a m = S by unfold markS; rw [if_neg (by rw [HMT.out]; decide)]]
      exact MovedR.none H.out
    · have HK := Lib.hid hi
      have hle : m ≤ 0 := by rw [hi] at hk; simpa using hk
      clear hk h hi hm
      go_enter Try.func14, Try.ntmps14
      go_wp2_with (go_at_call 28; ((with_reducible refine (is_ref H.out _).mono ?_); rintro e w' ⟨he, rfl⟩; rw [HK.out] at he; subst he))
      go_ret
      refine ⟨ret_bool HMT.out.symm, ?_⟩
      rw [show markS S a m = S by unfold markS; rw [if_neg (by rw [HMT.out]; decide)]]
      exact MovedR.none H.out
end
end Go.Proofs.Ytiehfjkiedgkhaa
