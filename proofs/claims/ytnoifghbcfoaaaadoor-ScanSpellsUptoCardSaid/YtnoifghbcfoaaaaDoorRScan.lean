/-
  The contract of the reference's Scan: the same answer as scan.Scan's contract.
-/
import Derived.Test.YtnoifghbcfoaaaaDoorRTokS
import Derived.Test.YtnoifghbcfoaaaaDoorScan
namespace Go.Proofs.YtnoifghbcfoaaaaDoor
open Go.RowKit

theorem runL_pos_more {s : ByteArray} (h0 : 0 < s.size) (hn : 0 < runL s.data.toList) : moreB s[0] = true := by
  have := drop_cons s 0 h0
  rw [List.drop_zero] at this
  rw [this] at hn
  cases hm : moreB s[0]
  · rw [runL_cons_no hm] at hn; omega
  · rfl
theorem rtoken_any (s : ByteArray) (w : World) (hs : s.size ≤ 65536) (h0 : 0 < s.size) : Calls Tryd.prog 27 #[.string s] w (RTokPost s.data.toList w) := by
  have hne : s.data.toList ≠ [] := fun e => by
    have h1 : s.data.toList.length = s.size := by simp
    rw [e, List.length_nil] at h1
    omega
  cases hd : digitB s[0] with
  | true => exact rtoken_digit s w hs h0 hd
  | false =>
    by_cases hn : runL s.data.toList = 0
    · obtain ⟨h1, h2, h3⟩ := tok_sign0 hne hn
      exact rtoken_sign s w hs h0 hd (.inl hn) ⟨fun h => ⟨by rw [h2, if_neg h], h1, h3⟩, fun h => by rw [h2, if_pos h]⟩
    · have hm := runL_pos_more h0 (by omega)
      by_cases hu : s[0].toNat = 95
      · obtain ⟨h1, h2⟩ := tok_under (l := s.data.toList) (by rw [head_eq h0]; exact hu) hne
        exact rtoken_sign s w hs h0 hd (.inr hu) ⟨fun h => absurd h2 h, fun _ => h1⟩
      · refine rtoken_letter s w hs h0 hd (by omega) hu ?_
        simp only [moreB, hd, Bool.or_eq_true, decide_eq_true_eq] at hm
        rcases hm with ((h | h) | h) | h
        · exact .inl h
        · exact .inr h
        · cases h
        · exact absurd h hu
theorem rtoken_str (r : List UInt8) (w : World) (hs : r.length ≤ 65536) (h0 : r ≠ []) : Calls Tryd.prog 27 #[.string (str r)] w (RTokPost r w) :=
  rtoken_any (str r) w hs (List.length_pos_iff.2 h0)
theorem rgap_str (r : List UInt8) (w : World) (hs : r.length ≤ 65536) : Calls Tryd.prog 26 #[.string (str r)] w fun e w' => e = .returned (.int .i64 (gapL r : Nat)) ∧ w = w' := rgap_any (str r) w hs

/-- what holds in the reference's scan -/
structure RMid (w : World) (v : Value) (acc : List Tok) (w3 : World) : Prop where
  below : Below w.heap.size w w3
  lt : w.heap.size < w3.heap.size
  fault : w3.heap[w.heap.size]? = some (.cells #[.int .i64 0, .int .i64 0, .int .i64 0] 26 (0, 0))
  own : w3.ownsRow (w.heap.size + 1) 34 5 v acc.length (acc.flatMap Tok.cells)
theorem RMid.under {w w2 w3 : World} {v : Value} {acc : List Tok} (h : RMid w v acc w2) (hb : Below w2.heap.size w2 w3) : RMid w v acc w3 :=
  ⟨h.below.trans (hb.mono (by have := h.lt; omega)), Nat.lt_of_lt_of_le h.lt hb.size, (hb.block _ h.lt).trans h.fault, h.own.kept (grownBy_below hb none) (by cases v.ownBlock <;> simp)⟩
theorem RMid.app {w w3 w5 : World} {v v' : Value} {acc : List Tok} {t : Tok} {A B : Obj} (hM : RMid w v acc w3)
    (hg : ((w3.alloc A).alloc B).grownBy w5 v.ownBlock) (hown : w5.ownsRow (w.heap.size + 1) 34 5 v' (acc.length + 1) (acc.flatMap Tok.cells ++ t.cells)) :
    RMid w v' (acc ++ [t]) w5 ∧ w5.heap[w3.heap.size]? = some A := by
  have hlt := hM.lt
  have hk : ∀ k, v.ownBlock = some k → w.heap.size + 1 ≤ k ∧ k < w3.heap.size := hM.own.lt
  have hold : ∀ k, k < w3.heap.size → some k ≠ v.ownBlock → w5.heap[k]? = w3.heap[k]? := fun k h1 h2 => by
    rw [hg.block k (by simp; omega) h2, Below.heap_alloc _ _ _ (by simp; omega), Below.heap_alloc _ _ _ h1]
  have hsz := hg.size
  simp at hsz
  refine ⟨⟨((hM.below.alloc (by omega) A).alloc (by simp; omega) B).grown hg (by simp; omega) (fun k h => by have := hk k h; omega), by omega, ?_, by simpa using hown⟩, ?_⟩
  · rw [hold _ hlt (by intro e; have := hk _ e.symm; omega)]
    exact hM.fault
  · rw [hg.block _ (by simp; omega) (by intro e; have := hk _ e.symm; omega), Below.heap_alloc _ _ _ (by simp), heap_alloc_new]
/-- one block more alone -/
theorem RMid.app1 {w w3 w5 : World} {v v' : Value} {acc : List Tok} {t : Tok} {B : Obj} (hM : RMid w v acc w3)
    (hg : (w3.alloc B).grownBy w5 v.ownBlock) (hown : w5.ownsRow (w.heap.size + 1) 34 5 v' (acc.length + 1) (acc.flatMap Tok.cells ++ t.cells)) : RMid w v' (acc ++ [t]) w5 := by
  have hlt := hM.lt
  have hk : ∀ k, v.ownBlock = some k → w.heap.size + 1 ≤ k ∧ k < w3.heap.size := hM.own.lt
  have hsz := hg.size
  simp at hsz
  refine ⟨(hM.below.alloc (by omega) B).grown hg (by simp; omega) (fun k h => by have := hk k h; omega), by omega, ?_, by simpa using hown⟩
  rw [hg.block _ (by simp; omega) (by intro e; have := hk _ e.symm; omega), Below.heap_alloc _ _ _ hlt]
  exact hM.fault
structure RRel (w : World) (l : List UInt8) (g : Nat) (v : Value) (wr : World) (m : Nat) (acc : List Tok) : Prop where
  m_le : m ≤ l.length
  fuel : (l.drop m).length < g
  mid : RMid w v acc wr
  short : acc.length ≤ m
  rest : scanAll l = (acc ++ (scanF g (l.drop m) (posL (l.take m) (1, 1))).1, (scanF g (l.drop m) (posL (l.take m) (1, 1))).2)
theorem rscan_results {tmps : Array Value} {w : World} {N : Nat} {v x0 x1 x2 : Value} (hp : tmps.getD 3 undef = .pointer (some ⟨N, 0, none⟩)) (hv : tmps.getD 2 undef = v) (hg : w.heap[N]? = some (.cells #[x0, x1, x2] 26 (0, 0))) :
    (results Tryd.f11 tmps).run Tryd.prog w = .ok (.tuple #[v, .agg #[x0, x1, x2]]) w := by
  have hl := run_loadVar_row (P := Tryd.prog) w N 26 26 #[x0, x1, x2] (0, 0) _ hg Tryd.underlying26 rfl fault_info
  have hp' : tmps[3]?.getD undef = .pointer (some ⟨N, 0, none⟩) := by simpa using hp
  have hv' : tmps[2]?.getD undef = v := by simpa using hv
  simp [results, Tryd.results11, hp', hv', asAddr, hl]

def RNo (w : World) (e : Ending) (w' : World) : Prop := Below w.heap.size w w' ∧ ∃ a x b, e = .returned (.tuple #[.agg #[.int .i64 a, .string x, .int .i64 b, .int .i64 0, .int .i64 0], .bool false])
theorem rtoken_no (r : List UInt8) (w : World) (hs : r.length ≤ 65536) (h0 : r ≠ []) (h : tokSort r = 0) : Calls Tryd.prog 27 #[.string (str r)] w (RNo w) :=
  (rtoken_str r w hs h0).mono fun e w' ⟨hb, hd⟩ => ⟨hb, by
    rcases hd with ⟨h1, _⟩ | ⟨_, h2⟩
    · exact absurd h h1
    · exact h2⟩
theorem rtoken_yes (r : List UInt8) (so nu : Int) (tx : List UInt8) (w : World) (hs : r.length ≤ 65536) (h0 : r ≠ []) (h : so ≠ 0) (h1 : tokSort r = so) (h2 : tokText r = tx) (h3 : tokNum r = nu) :
    Calls Tryd.prog 27 #[.string (str r)] w fun e w' => e = .returned (.tuple #[.agg #[.int .i64 so, .string (str tx), .int .i64 nu, .int .i64 0, .int .i64 0], .bool true]) ∧ Below w.heap.size w w' :=
  (rtoken_str r w hs h0).mono fun e w' ⟨hb, hd⟩ => ⟨by
    rcases hd with ⟨_, h4⟩ | ⟨h4, _⟩
    · rw [h4, h1, h2, h3]
    · exact absurd (h1.symm.trans h4) h, hb⟩
theorem rplace_at (s : ByteArray) (n : Nat) (w : World) (hs : s.size ≤ 65536) (hn : n ≤ s.size) (x y : Int) (h : posL (s.data.toList.take n) (1, 1) = (x, y)) :
    Calls Tryd.prog 28 #[.string s, .int .i64 (n : Int)] w fun e w' => e = .returned (.tuple #[.int .i64 x, .int .i64 y]) ∧ w = w' := by
  have := rplace_any s n w hs hn
  rw [h] at this
  exact this
theorem rfail_post {l : List UInt8} {w wr w3 : World} {g m a : Nat} {v : Value} {acc : List Tok} {x y : Int} (hR : RRel w l g v wr m acc) (ha : a = m + gapL (l.drop m)) (hp : posL (l.take a) (1, 1) = (x, y)) (h0 : tokSort (l.drop a) = 0) (hM : RMid w v acc w3) (o : Obj) :
    ScanPost l w (.returned (.tuple #[.slice none 0 0, .agg #[.int .i64 2, .int .i64 x, .int .i64 y]])) ((((w3.setCell ⟨w.heap.size, 0, none⟩ (.int .i64 2)).setCell ⟨w.heap.size, 1, none⟩ (.int .i64 x)).setCell ⟨w.heap.size, 2, none⟩ (.int .i64 y)).alloc o) := by
  refine ⟨(((hM.below.setCell (Nat.le_refl _) _).setCell (Nat.le_refl _) _).setCell (Nat.le_refl _) _).alloc (by simp [World.setCell]; have := hM.lt; omega) _, .inl ⟨(x, y), ?_, rfl⟩⟩
  have hf := hR.fuel
  obtain ⟨f, rfl⟩ : ∃ f, g = f + 1 := ⟨g - 1, by omega⟩
  have e1 : (l.drop m).drop (gapL (l.drop m)) = l.drop a := by rw [List.drop_drop, ha]
  rw [hR.rest, scanF_none (by rw [e1]; exact h0), ← posL_append, ← List.take_add, ← ha, hp]
theorem rfail_row {w w3 : World} {v : Value} {acc : List Tok} (hM : RMid w v acc w3) (v0 v1 v2 : Value) (o : Obj) :
    ((((w3.setCell ⟨w.heap.size, 0, none⟩ v0).setCell ⟨w.heap.size, 1, none⟩ v1).setCell ⟨w.heap.size, 2, none⟩ v2).alloc o).heap[w.heap.size]? = some (.cells #[v0, v1, v2] 26 (0, 0)) := by
  rw [Below.heap_alloc _ _ _ (by simp [World.setCell]; exact hM.lt)]
  exact row3 hM.fault _ _ _

theorem rnext {l : List UInt8} {w wr w5 : World} {g m a : Nat} {v v' : Value} {acc : List Tok} {x y so nu : Int} {tx : List UInt8} (hR : RRel w l g v wr m acc) (ha : a = m + gapL (l.drop m)) (hal : a < l.length) (hp : posL (l.take a) (1, 1) = (x, y))
    (h0 : so ≠ 0) (h1 : tokSort (l.drop a) = so) (h2 : tokText (l.drop a) = tx) (h3 : tokNum (l.drop a) = nu) (hM : RMid w v' (acc ++ [⟨so, tx, nu, x, y⟩]) w5) :
    RRel w l (g - 1) v' w5 (a + tx.length) (acc ++ [⟨so, tx, nu, x, y⟩]) := by
  have hf := hR.fuel
  have hml := hR.m_le
  have e1 : (l.drop m).drop (gapL (l.drop m)) = l.drop a := by rw [List.drop_drop, ha]
  have e2 : posL ((l.drop m).take (gapL (l.drop m))) (posL (l.take m) (1, 1)) = (x, y) := by rw [← posL_append, ← List.take_add, ← ha, hp]
  have hne : l.drop a ≠ [] := by
    intro e
    have := congrArg List.length e
    rw [List.length_drop, List.length_nil] at this
    omega
  have h6 : so ≠ 6 := by rw [← h1]; exact tokSort_ne6 hne
  have hpos : 0 < tx.length := by rw [← h2]; exact tokText_pos hne (by rw [h1]; exact h0)
  have htl : tx.length ≤ (l.drop a).length := by rw [← h2]; exact tokText_le _
  rw [List.length_drop] at htl hf
  refine ⟨by omega, by rw [List.length_drop]; omega, hM, ?_, ?_⟩
  · have := hR.short
    rw [List.length_append, List.length_singleton]; omega
  · obtain ⟨f, rfl⟩ : ∃ f, g = f + 1 := ⟨g - 1, by omega⟩
    have e3 : posL (l.take (a + tx.length)) (1, 1) = posL ((l.drop a).take tx.length) (x, y) := by rw [List.take_add, posL_append, hp]
    rw [hR.rest, scanF_tok (by rw [e1, h1]; exact h0) (by rw [e1, h1]; exact h6), e1, e2, h2, e3, ← List.drop_drop]
    simp [tokAt, h1, h2, h3]
theorem rdone {l : List UInt8} {w wr w5 : World} {g m a : Nat} {v v' : Value} {acc : List Tok} {x y : Int} (hR : RRel w l g v wr m acc) (ha : a = m + gapL (l.drop m)) (hal : l.length ≤ a) (hp : posL (l.take a) (1, 1) = (x, y))
    (hM : RMid w v' (acc ++ [⟨6, [], 0, x, y⟩]) w5) :
    ScanPost l w (.returned (.tuple #[v', .agg #[.int .i64 0, .int .i64 0, .int .i64 0]])) (((w5.setCell ⟨w.heap.size, 0, none⟩ (.int .i64 0)).setCell ⟨w.heap.size, 1, none⟩ (.int .i64 0)).setCell ⟨w.heap.size, 2, none⟩ (.int .i64 0)) := by
  have hf := hR.fuel
  obtain ⟨f, rfl⟩ : ∃ f, g = f + 1 := ⟨g - 1, by omega⟩
  have e1 : (l.drop m).drop (gapL (l.drop m)) = [] := by rw [List.drop_drop, ← ha]; exact List.drop_of_length_le hal
  have e2 : posL ((l.drop m).take (gapL (l.drop m))) (posL (l.take m) (1, 1)) = (x, y) := by rw [← posL_append, ← List.take_add, ← ha, hp]
  have hrest : scanAll l = (acc ++ [⟨6, [], 0, x, y⟩], none) := by
    rw [hR.rest, scanF_end (by rw [e1]; exact tokSort_end), e1, e2]
    simp [tokAt, tokSort_end, tokText_nil, tokNum, runL]
  refine ⟨((hM.below.setCell (Nat.le_refl _) _).setCell (Nat.le_refl _) _).setCell (Nat.le_refl _) _, .inr ⟨by rw [hrest], v', rfl, ?_⟩⟩
  rw [hrest]
  exact ownsRow_mono (ownsRow_setCell_below (ownsRow_setCell_below (ownsRow_setCell_below hM.own (by show w.heap.size < _; omega) _) (by show w.heap.size < _; omega) _) (by show w.heap.size < _; omega) _) (by omega)

set_option maxRecDepth 100000 in
set_option maxHeartbeats 4000000 in
theorem rscan_any (s : ByteArray) (w : World) (hs : s.size ≤ 65536) :
    Calls Tryd.prog 11 #[.string s] w (ScanPost s.data.toList w) := by
  have hl : s.data.toList.length = s.size := by simp
  have HST : Hid (RRel w s.data.toList (s.data.toList.length + 1) (.slice none 0 0) (w.alloc (.cells #[.int .i64 0, .int .i64 0, .int .i64 0] 26)) 0 []) :=
    ⟨Nat.zero_le _, by simp, ⟨(Below.refl _ _).alloc (Nat.le_refl _) _, by simp, heap_alloc_new w _, World.ownsRow_nil _ _ _ _⟩, by simp, by simp [scanAll, posL]⟩
  have hgl := gapL_le s.data.toList
  go_enter Tryd.func11, Tryd.ntmps11
  go_wp2_with (go_at_call 26; refine (rgap_any _ _ hs).mono ?_; rintro e w' ⟨rfl, rfl⟩)
  go_loopg [4, 5] (s.data.toList.length + 1) (fun g v va wr => ∃ m acc, RRel w s.data.toList g v wr m acc ∧ va = .int .i64 (m + gapL (s.data.toList.drop m) : Nat))
  case atStart => exact ⟨0, [], HST.out, by simp⟩
  case round =>
    obtain ⟨m, acc, hR, rfl⟩ := hrel
    have HR := Lib.hid hR
    have hml := hR.m_le
    have hgm := gapL_le (s.data.toList.drop m)
    rw [List.length_drop] at hgm
    clear hR
    obtain ⟨a, ha⟩ : ∃ a, a = m + gapL (s.data.toList.drop m) := ⟨_, rfl⟩
    rw [← ha]
    have hal : a ≤ s.size := by omega
    have HA := Lib.hid ha
    clear ha hgm
    obtain ⟨px, py, hp⟩ : ∃ px py, posL (s.data.toList.take a) (1, 1) = (px, py) := ⟨_, _, rfl⟩
    have HP := Lib.hid hp
    clear hp
    by_cases hlt : a < s.size
    · have hx : s.extract a s.size = str (s.data.toList.drop a) := by
        rw [extract_str, List.take_of_length_le (by omega)]
      have hrl : (s.data.toList.drop a).length ≤ 65536 := by rw [List.length_drop]; omega
      have hrn : s.data.toList.drop a ≠ [] := by
        rw [drop_cons s a hlt]; exact List.cons_ne_nil _ _
      obtain ⟨r1, hr1⟩ : ∃ r1, r1 = s.data.toList.drop a := ⟨_, rfl⟩
      rw [← hr1] at hx hrl hrn
      have HR1 := Lib.hid hr1
      have HRN := Lib.hid hrn
      clear hr1 hrn
      by_cases h0 : tokSort r1 = 0
      · have H0 := Lib.hid h0
        clear h0
        go_wp2_with (first | (go_at_call 27; refine (rtoken_no r1 _ hrl HRN.out H0.out).mono ?_; rintro e w2 ⟨hb2, aa, xx, bb, rfl⟩; have HM2 := Lib.hid (HR.out.mid.under hb2); clear hb2; have hN := HM2.out.lt; obtain ⟨z0, z1, z2, zf⟩ := fault_cells HM2.out.fault) | (go_at_call 28; refine (rplace_at s a _ hs hal px py HP.out).mono ?_; rintro e w' ⟨rfl, rfl⟩))
        exact bodyPost_ret (v := .tuple #[.slice none 0 0, .agg #[.int .i64 2, .int .i64 px, .int .i64 py]]) (rscan_results rfl rfl (rfail_row HM2.out _ _ _ _)) rfl (rfail_post HR.out HA.out HP.out (by rw [← HR1.out]; exact H0.out) HM2.out _)
      · obtain ⟨so, hso⟩ : ∃ so, so = tokSort r1 := ⟨_, rfl⟩
        obtain ⟨nu, hnu⟩ : ∃ nu, nu = tokNum r1 := ⟨_, rfl⟩
        obtain ⟨tx, htx⟩ : ∃ tx, tx = tokText r1 := ⟨_, rfl⟩
        have h0' : so ≠ 0 := by rw [hso]; exact h0
        have htl := tokText_le r1
        rw [← htx, HR1.out, List.length_drop] at htl
        have hsz : a + (str tx).size ≤ s.size := by rw [str_size]; omega
        have hx2 : s.extract (a + (str tx).size) s.size = str (s.data.toList.drop (a + tx.length)) := by
          rw [extract_str, List.take_of_length_le (by omega)]; rfl
        have hgl2 := gapL_le (s.data.toList.drop (a + tx.length))
        rw [List.length_drop] at hgl2
        have hrl2 : (s.data.toList.drop (a + tx.length)).length ≤ 65536 := by rw [List.length_drop]; omega
        have HSO := Lib.hid hso
        have HNU := Lib.hid hnu
        have HTX := Lib.hid htx
        have H0 := Lib.hid h0'
        have hacc := HR.out.short
        have htx2 : tx.length ≤ s.size := by omega
        have hsum : a + (str tx).size + gapL (s.data.toList.drop (a + tx.length)) ≤ s.size := by rw [str_size]; omega
        have HSUM := Lib.hid hsum
        clear h0 hso hnu htx h0' htl hgl2 hsum
        obtain ⟨i0, hi, hz0, hz1, hz2⟩ := info_parts tok_info5
        obtain ⟨gg, hgg⟩ : ∃ gg, gg = gapL (s.data.toList.drop (a + tx.length)) := ⟨_, rfl⟩
        have hgs : a + (str tx).size + gg ≤ s.size := by rw [hgg]; exact HSUM.out
        have HGG := Lib.hid (fun w => rgap_str (s.data.toList.drop (a + tx.length)) w hrl2)
        rw [← hgg] at HGG
        have HGE := Lib.hid hgg
        clear hgg
        go_wp2_with (first | (go_at_call 27; refine (rtoken_yes r1 so nu tx _ hrl HRN.out H0.out HSO.out.symm HTX.out.symm HNU.out.symm).mono ?_; rintro e w2 ⟨rfl, hb2⟩; have HM2 := Lib.hid (HR.out.mid.under hb2); clear hb2; have hN := HM2.out.lt) | (go_at_call 28; refine (rplace_at s a _ hs hal px py HP.out).mono ?_; rintro e w' ⟨rfl, rfl⟩) | (go_at_call 26; refine (HGG.out _).mono ?_; rintro e w' ⟨rfl, rfl⟩) | (at_builtin; go_loud (refine wpList_append_own _ rfl _ _ 23 rfl (w.heap.size + 1) 34 i0 zeroTok 5 48 Tryd.underlying23 hi hz0 hz1 hz2 rfl (by decide) _ _ _ rfl ((HM2.out.own.alloc _).alloc _) ⟨w2.heap.size + 1, 0, none⟩ 1 1 (Tok.cells ⟨so, tx, nu, px, py⟩) rfl rfl (news_cells _ _ (by simp) _ _) (by simp [Tok.cells, Value.oneCell']) (by unfold maxLen; omega) (by omega) (by simp; omega) ?_); intro v5 w5 hown5 hg5 _; obtain ⟨hM5, hT5⟩ := HM2.out.app hg5 hown5; have HM5 := Lib.hid hM5; obtain ⟨y0, y1, y2⟩ := tok_cells hT5; clear hg5 hown5 hM5 hT5))
        have hfu := HR.out.fuel
        go_roundg (gk - 1)
        case measure => omega
        case rel => exact ⟨_, _, rnext HR.out HA.out (by omega) HP.out H0.out (by rw [← HR1.out]; exact HSO.out.symm) (by rw [← HR1.out]; exact HTX.out.symm) (by rw [← HR1.out]; exact HNU.out.symm) HM5.out, by rw [← HGE.out, str_size]; go_num⟩
    · have hacc := HR.out.short
      have hN := HR.out.mid.lt
      have hae : a = s.size := by omega
      have HPL : posL (s.data.toList.take s.size) (1, 1) = (px, py) := by rw [← hae]; exact HP.out
      have HPL := Lib.hid HPL
      have HAE := Lib.hid hae
      clear hae
      obtain ⟨i0, hi, hz0, hz1, hz2⟩ := info_parts tok_info5
      go_wp2_with (first | (go_at_call 28; refine (rplace_at s s.size _ hs (Nat.le_refl _) px py HPL.out).mono ?_; rintro e w' ⟨rfl, rfl⟩) | (at_builtin; go_loud (refine wpList_append_own _ rfl _ _ 23 rfl (w.heap.size + 1) 34 i0 zeroTok 5 48 Tryd.underlying23 hi hz0 hz1 hz2 rfl (by decide) _ _ _ rfl (HR.out.mid.own.alloc _) ⟨wr.heap.size, 0, none⟩ 1 1 (Tok.cells ⟨6, [], 0, px, py⟩) rfl rfl (news_cells _ _ rfl _ _) (by simp [Tok.cells, Value.oneCell']) (by unfold maxLen; omega) (by omega) (by simp; omega) ?_); intro v5 w5 hown5 hg5 _; have hM5 := HR.out.mid.app1 hg5 hown5; have HM5 := Lib.hid hM5; obtain ⟨x0, x1, x2, xf⟩ := fault_cells hM5.fault; have hN5 := hM5.lt; clear hg5 hown5 hM5))
      exact bodyPost_ret (v := .tuple #[v5, .agg #[.int .i64 0, .int .i64 0, .int .i64 0]]) (rscan_results rfl rfl (row3 HM5.out.fault _ _ _)) rfl (rdone HR.out HA.out (by omega) HP.out HM5.out)
end Go.Proofs.YtnoifghbcfoaaaaDoor
