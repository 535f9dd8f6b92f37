/-
  Texts joined.
-/
import Derived.OwnWalk
import Derived.Test.YtlhmdjhfmhkllaaGreatDoorKb36
namespace Go.Proofs.YtlhmdjhfmhkllaaGreatDoor
open Go.RowKit
theorem clone_any (s : ByteArray) (w : World) (hs : s.size ≤ 281474976710656) :
    Calls Tryz.prog 78 #[.string s] w fun e w' => e = .returned (.string s) ∧ Below w.heap.size w w' := by
  go_enter Tryz.func78, Tryz.ntmps78
  go_wp2_with (go_at_call 125; refine (Any.stringslite_Clone Tryz.laysM316 _ _ hs).mono ?_; rintro e w' ⟨rfl, hb⟩)
  go_ret; exact ⟨rfl, hb⟩
theorem token_at (b : Nat) (r : List UInt8) (line col : Int) (w : World) (hs : r.length ≤ 65536) (he : Errs w) (hsrc : Src w b r line col) (so nu : Int) (tx : List UInt8) (h1 : tokSort r = so) (h2 : tokText r = tx) (h3 : tokNum r = nu) :
    Calls Tryz.prog 80 #[.pointer (some ⟨b, 0, none⟩)] w fun e w' => e = .returned (.agg #[.int .i64 so, .string (str tx), .int .i64 nu, .int .i64 line, .int .i64 col]) ∧ Below w.heap.size w w' := by
  subst h1; subst h2; subst h3; exact token_any b r line col w hs he hsrc
def zeroTok : Value := .agg #[.int .i64 0, .string ⟨#[]⟩, .int .i64 0, .int .i64 0, .int .i64 0]
theorem tok_info5 : (Tryz.prog.info? 64).map (fun i => (i.zero, i.size, i.bytes)) = some (some zeroTok, 5, 48) := by kernel_rfl
/-- the answer of Scan in a short text -/
def ScanPost (l : List UInt8) (w : World) (e : Ending) (w' : World) : Prop :=
  Below w.heap.size w w' ∧
  ((∃ q, (scanAll l).2 = some q ∧ e = .returned (.tuple #[.slice none 0 0, .agg #[.int .i64 2, .int .i64 q.1, .int .i64 q.2]])) ∨
   ((scanAll l).2 = none ∧ ∃ v, e = .returned (.tuple #[v, .agg #[.int .i64 0, .int .i64 0, .int .i64 0]]) ∧ w'.ownsRow w.heap.size 64 5 v (scanAll l).1.length ((scanAll l).1.flatMap Tok.cells)))
/-- what holds at the head of each round -/
structure ScanRel (w : World) (b : Nat) (l : List UInt8) (g : Nat) (v : Value) (wr : World) (m : Nat) (acc : List Tok) : Prop where
  m_le : m ≤ l.length
  fuel : (l.drop m).length < g
  src : Src wr b (l.drop m) (posL (l.take m) (1, 1)).1 (posL (l.take m) (1, 1)).2
  below : Below w.heap.size w wr
  fault : wr.heap[w.heap.size]? = some (.cells #[.int .i64 0, .int .i64 0, .int .i64 0] 29 (0, 0))
  hb : w.heap.size < b
  own : wr.ownsRow (b + 1) 64 5 v acc.length (acc.flatMap Tok.cells)
  short : acc.length ≤ m
  rest : scanAll l = (acc ++ (scanF g (l.drop m) (posL (l.take m) (1, 1))).1, (scanF g (l.drop m) (posL (l.take m) (1, 1))).2)
theorem ScanRel.start {s : ByteArray} {w w1 : World} (hb : Below (w.heap.size + 1) (w.alloc (.cells #[.int .i64 0, .int .i64 0, .int .i64 0] 29)) w1) :
    ScanRel w w1.heap.size s.data.toList (s.data.toList.length + 1) (.slice none 0 0) (w1.alloc (.cells #[.string s, .int .i64 1, .int .i64 1] 130)) 0 [] := by
  have hsz := hb.size; simp at hsz; have hold := hb.block w.heap.size (by omega); refine ⟨Nat.zero_le _, by simp, ?_, ?_, ?_, by omega, World.ownsRow_nil _ _ _ _, by simp, by simp [scanAll, posL]⟩
  · have := heap_alloc_new w1 (.cells #[.string s, .int .i64 1, .int .i64 1] 130); simpa [Src, posL, str_eq] using this
  · exact (((Below.refl _ _).alloc (Nat.le_refl _) _).trans (hb.mono (by omega))).alloc (by omega) _
  · rw [Below.heap_alloc _ _ _ (by omega), hold, heap_alloc_new]
theorem ScanRel.pbd {w wr : World} {b g m : Nat} {l : List UInt8} {v : Value} {acc : List Tok} (h : ScanRel w b l g v wr m acc) (hl : l.length ≤ 65536) :
    1 ≤ (posL (l.take m) (1, 1)).1 ∧ (posL (l.take m) (1, 1)).1 + (l.drop m).length ≤ 65537 ∧ 1 ≤ (posL (l.take m) (1, 1)).2 ∧ (posL (l.take m) (1, 1)).2 + (l.drop m).length ≤ 65537 := by
  have h1 := posL_bd (l.take m) (1, 1) (by simp) (by simp); have h2 := h.m_le; rw [List.length_take, Nat.min_eq_left h2] at h1; rw [List.length_drop]; simp only at h1; omega
/-- what holds in the middle of a round: blanks are skipped and the token is there -/
structure ScanMid (w : World) (b : Nat) (r : List UInt8) (p : Int × Int) (v : Value) (acc : List Tok) (w3 : World) : Prop where
  src : Src w3 b r p.1 p.2
  below : Below w.heap.size w w3
  fault : w3.heap[w.heap.size]? = some (.cells #[.int .i64 0, .int .i64 0, .int .i64 0] 29 (0, 0))
  hb : w.heap.size < b
  own : w3.ownsRow (b + 1) 64 5 v acc.length (acc.flatMap Tok.cells)
theorem own_ne {w : World} {b : Nat} {e : TypeId} {size n : Nat} {v : Value} {xs : List Value} (h : w.ownsRow (b + 1) e size v n xs) : v.ownBlock = none ∨ v.ownBlock ≠ some b := by
  cases hv : v.ownBlock with
  | none => exact .inl rfl
  | some k => have := (h.lt k hv).1; exact .inr (by intro e; cases e; omega)
theorem ScanRel.skip {w wr w2 : World} {b g m : Nat} {l : List UInt8} {v : Value} {acc : List Tok} (h : ScanRel w b l g v wr m acc) (hp : Past wr b (l.drop m) (posL (l.take m) (1, 1)) (gapL (l.drop m)) w2) :
    ScanMid w b ((l.drop m).drop (gapL (l.drop m))) (posL ((l.drop m).take (gapL (l.drop m))) (posL (l.take m) (1, 1))) v acc w2 := by
  have hlt := h.src.lt; have hbb := h.hb; refine ⟨hp.src, h.below.grown hp.grown (by omega) (fun k hk => by cases hk; omega), ?_, h.hb, h.own.kept hp.grown (own_ne h.own)⟩; rw [hp.grown.block _ (by omega) (by intro e; cases e; omega)]; exact h.fault
theorem ScanMid.under {w w2 w3 : World} {b : Nat} {r : List UInt8} {p : Int × Int} {v : Value} {acc : List Tok} (h : ScanMid w b r p v acc w2) (hb : Below w2.heap.size w2 w3) : ScanMid w b r p v acc w3 := by
  have hlt := h.src.lt; have hbb := h.hb; refine ⟨?_, h.below.trans (hb.mono (by omega)), ?_, h.hb, h.own.kept (grownBy_below hb none) (by cases v.ownBlock <;> simp)⟩
  · unfold Src; rw [hb.block _ hlt]; exact h.src
  · rw [hb.block _ (by omega)]; exact h.fault
theorem fault_cells {w3 : World} {N : Nat} {x0 x1 x2 : Value} (h : w3.heap[N]? = some (.cells #[x0, x1, x2] 29 (0, 0))) :
    w3.cell? ⟨N, 0, none⟩ = some x0 ∧ w3.cell? ⟨N, 1, none⟩ = some x1 ∧ w3.cell? ⟨N, 2, none⟩ = some x2 ∧ (∀ j, w3.frozen? ⟨N, j, none⟩ = false) :=
  ⟨by simp [cell_of_row w3 N _ _ _ _ h], by simp [cell_of_row w3 N _ _ _ _ h], by simp [cell_of_row w3 N _ _ _ _ h], fun j => frozen_of_row w3 N j _ _ h⟩
theorem row3t {X : World} {N : Nat} {T : TypeId} {x0 x1 x2 : Value} (h : X.heap[N]? = some (.cells #[x0, x1, x2] T (0, 0))) (v0 v1 v2 : Value) :
    (((X.setCell ⟨N, 0, none⟩ v0).setCell ⟨N, 1, none⟩ v1).setCell ⟨N, 2, none⟩ v2).heap[N]? = some (.cells #[v0, v1, v2] T (0, 0)) := by
  have h0 := heap_setCell_same X N 0 _ T v0 h; have h1 := heap_setCell_same _ N 1 _ T v1 h0; have h2 := heap_setCell_same _ N 2 _ T v2 h1; simpa using h2
theorem fault_info : (Tryz.prog.info? 29).map (·.size) = some 3 := by kernel_rfl
/-- Scan's results: a slice, and a fault in block N -/
theorem scan_results {tmps : Array Value} {w : World} {N : Nat} {v x0 x1 x2 : Value} (hp : tmps.getD 3 undef = .pointer (some ⟨N, 0, none⟩)) (hv : tmps.getD 2 undef = v) (hg : w.heap[N]? = some (.cells #[x0, x1, x2] 29 (0, 0))) :
    (results Tryz.f38 tmps).run Tryz.prog w = .ok (.tuple #[v, .agg #[x0, x1, x2]]) w := by
  have hl := run_loadVar_row (P := Tryz.prog) w N 29 29 #[x0, x1, x2] (0, 0) _ hg Tryz.underlying29 rfl fault_info; have hp' : tmps[3]?.getD undef = .pointer (some ⟨N, 0, none⟩) := (by simpa using hp); have hv' : tmps[2]?.getD undef = v := (by simpa using hv); simp [results, Tryz.results38, hp', hv', asAddr, hl]
theorem scan_fail {l : List UInt8} {w wr w3 : World} {b g m : Nat} {v : Value} {acc : List Tok} {r1 : List UInt8} {p1 : Int × Int} (hR : ScanRel w b l g v wr m acc)
    (hr : r1 = (l.drop m).drop (gapL (l.drop m))) (hp : p1 = posL ((l.drop m).take (gapL (l.drop m))) (posL (l.take m) (1, 1))) (h0 : tokSort r1 = 0) (hM : ScanMid w b r1 p1 v acc w3) (o : Obj) :
    ScanPost l w (.returned (.tuple #[.slice none 0 0, .agg #[.int .i64 2, .int .i64 p1.1, .int .i64 p1.2]])) (((((w3.setCell ⟨w.heap.size, 0, none⟩ (.int .i64 2)).setCell ⟨w.heap.size, 1, none⟩ (.int .i64 p1.1)).setCell ⟨w.heap.size, 2, none⟩ (.int .i64 p1.2)).alloc o).drew) := by
  refine ⟨((((hM.below.setCell (Nat.le_refl _) _).setCell (Nat.le_refl _) _).setCell (Nat.le_refl _) _).alloc (by simp [World.setCell]; have := hM.src.lt; have := hM.hb; omega) _).drew, .inl ⟨p1, ?_, rfl⟩⟩; have hf := hR.fuel; obtain ⟨f, rfl⟩ : ∃ f, g = f + 1 := ⟨g - 1, by omega⟩; rw [hR.rest, scanF_none (by rw [← hr]; exact h0), hp]
theorem scan_fail_row {w w3 : World} {b : Nat} {r1 : List UInt8} {p1 : Int × Int} {v : Value} {acc : List Tok} (hM : ScanMid w b r1 p1 v acc w3) (v0 v1 v2 : Value) (o : Obj) :
    (((((w3.setCell ⟨w.heap.size, 0, none⟩ v0).setCell ⟨w.heap.size, 1, none⟩ v1).setCell ⟨w.heap.size, 2, none⟩ v2).alloc o).drew).heap[w.heap.size]? = some (.cells #[v0, v1, v2] 29 (0, 0)) := by
  show (World.alloc _ _).heap[_]? = _; rw [Below.heap_alloc _ _ _ (by simp [World.setCell]; have := hM.src.lt; have := hM.hb; omega)]; exact row3t hM.fault _ _ _
theorem news_cells (X : World) (N : Nat) (hN : X.heap.size = N) (vs : Array Value) (T : TypeId) : ∀ j u, vs.toList[j]? = some u → (X.alloc (.cells vs T)).cell? ((⟨N, 0, none⟩ : Addr).add j) = some u := by
  intro j u hu; subst hN; have hadd : (⟨X.heap.size, 0, none⟩ : Addr).add j = ⟨X.heap.size, j, none⟩ := (by unfold Addr.add; split <;> simp_all)
  rw [hadd, cell_of_row _ _ _ _ _ _ (heap_alloc_new X _)]; simpa using hu
theorem ScanMid.app {w w3 w5 : World} {b : Nat} {r1 : List UInt8} {p1 : Int × Int} {v v' : Value} {acc : List Tok} {t : Tok} {A B : Obj} (hM : ScanMid w b r1 p1 v acc w3)
    (hg : ((w3.alloc A).alloc B).grownBy w5 v.ownBlock) (hown : w5.ownsRow (b + 1) 64 5 v' (acc.length + 1) (acc.flatMap Tok.cells ++ t.cells)) :
    ScanMid w b r1 p1 v' (acc ++ [t]) w5 ∧ w5.heap[w3.heap.size]? = some A := by
  have hlt := hM.src.lt; have hbb := hM.hb; have hk : ∀ k, v.ownBlock = some k → b + 1 ≤ k ∧ k < w3.heap.size := hM.own.lt; have hold : ∀ k, k < w3.heap.size → some k ≠ v.ownBlock → w5.heap[k]? = w3.heap[k]? := fun k h1 h2 => by
    rw [hg.block k (by simp; omega) h2, Below.heap_alloc _ _ _ (by simp; omega), Below.heap_alloc _ _ _ h1]
  refine ⟨⟨?_, ?_, ?_, hM.hb, ?_⟩, ?_⟩
  · unfold Src; rw [hold b hlt (by intro e; have := hk b e.symm; omega)]; exact hM.src
  · exact ((hM.below.alloc (by omega) A).alloc (by simp; omega) B).grown hg (by simp; omega) (fun k h => by have := hk k h; omega)
  · rw [hold _ (by omega) (by intro e; have := hk _ e.symm; omega)]; exact hM.fault
  · simpa using hown
  · rw [hg.block _ (by simp; omega) (by intro e; have := hk _ e.symm; omega), Below.heap_alloc _ _ _ (by simp), heap_alloc_new]
theorem ownsRow_mono {w : World} {B B' : Nat} {e : TypeId} {size n : Nat} {v : Value} {xs : List Value} (h : w.ownsRow B e size v n xs) (hB : B' ≤ B) : w.ownsRow B' e size v n xs := by
  refine ⟨h.1, ?_⟩; rcases h.2 with h0 | ⟨g, cap, cur, h1, h2, h3⟩
  · exact .inl h0
  · exact .inr ⟨g, cap, cur, h1, by omega, h3⟩
theorem scan_done {l : List UInt8} {w wr w5 : World} {b g m : Nat} {v v' : Value} {acc : List Tok} {r1 : List UInt8} {p1 : Int × Int} {so nu : Int} {tx : List UInt8} (hR : ScanRel w b l g v wr m acc)
    (hr : r1 = (l.drop m).drop (gapL (l.drop m))) (hp : p1 = posL ((l.drop m).take (gapL (l.drop m))) (posL (l.take m) (1, 1))) (h6 : so = 6) (hso : so = tokSort r1) (hnu : nu = tokNum r1) (htx : tx = tokText r1)
    (hM : ScanMid w b r1 p1 v' (acc ++ [⟨so, tx, nu, p1.1, p1.2⟩]) w5) :
    ScanPost l w (.returned (.tuple #[v', .agg #[.int .i64 0, .int .i64 0, .int .i64 0]])) (((w5.setCell ⟨w.heap.size, 0, none⟩ (.int .i64 0)).setCell ⟨w.heap.size, 1, none⟩ (.int .i64 0)).setCell ⟨w.heap.size, 2, none⟩ (.int .i64 0)) := by
  have hbb := hM.hb; have hf := hR.fuel; obtain ⟨f, rfl⟩ : ∃ f, g = f + 1 := ⟨g - 1, by omega⟩; have hrest : scanAll l = (acc ++ [⟨so, tx, nu, p1.1, p1.2⟩], none) := by
    rw [hR.rest, scanF_end (by rw [← hr, ← hso]; exact h6)]; simp only [tokAt, ← hr, ← hp, hso, hnu, htx]
  refine ⟨((hM.below.setCell (Nat.le_refl _) _).setCell (Nat.le_refl _) _).setCell (Nat.le_refl _) _, .inr ⟨by rw [hrest], v', rfl, ?_⟩⟩; rw [hrest]; exact ownsRow_mono (ownsRow_setCell_below (ownsRow_setCell_below (ownsRow_setCell_below hM.own (by show w.heap.size < b + 1; omega) _) (by show w.heap.size < b + 1; omega) _) (by show w.heap.size < b + 1; omega) _) (by omega)
theorem ScanRel.next {l : List UInt8} {w wr w5 w6 : World} {b g m n : Nat} {v v' : Value} {acc : List Tok} {r1 : List UInt8} {p1 : Int × Int} {so nu : Int} {tx : List UInt8} (hR : ScanRel w b l g v wr m acc)
    (hr : r1 = (l.drop m).drop (gapL (l.drop m))) (hp : p1 = posL ((l.drop m).take (gapL (l.drop m))) (posL (l.take m) (1, 1))) (h0 : so ≠ 0) (h6 : so ≠ 6) (hso : so = tokSort r1) (hnu : nu = tokNum r1) (htx : tx = tokText r1)
    (hM : ScanMid w b r1 p1 v' (acc ++ [⟨so, tx, nu, p1.1, p1.2⟩]) w5) (hn : n = tx.length) (hz : Src w6 b (r1.drop n) (posL (r1.take n) p1).1 (posL (r1.take n) p1).2 ∧ w5.grownBy w6 (some b)) :
    ScanRel w b l (g - 1) v' w6 (m + gapL (l.drop m) + n) (acc ++ [⟨so, tx, nu, p1.1, p1.2⟩]) := by
  have hbb := hM.hb; have hf := hR.fuel; have hml := hR.m_le; have hg := gapL_le (l.drop m); have hne : r1 ≠ [] := by
    intro e; rw [e, tokSort_end] at hso; exact h6 hso
  have hpos : 0 < n := (by rw [hn, htx]; exact tokText_pos hne (by rw [← hso]; exact h0)); have hnl : n ≤ r1.length := (by rw [hn, htx]; exact tokText_le r1); have hrl : r1.length = l.length - m - gapL (l.drop m) := (by rw [hr, List.length_drop, List.length_drop]); rw [List.length_drop] at hg hf; have e1 : l.drop (m + gapL (l.drop m) + n) = r1.drop n := (by rw [hr, List.drop_drop, List.drop_drop, Nat.add_assoc]); have e2 : l.take (m + gapL (l.drop m) + n) = l.take m ++ (l.drop m).take (gapL (l.drop m)) ++ r1.take n := by
    rw [hr, List.take_add, List.take_add, List.drop_drop]
  have e3 : posL (l.take (m + gapL (l.drop m) + n)) (1, 1) = posL (r1.take n) p1 := (by rw [e2, posL_append, posL_append, ← hp]); have hlt := hM.src.lt; refine ⟨by omega, ?_, ?_, hM.below.grown hz.2 (by omega) (fun k hk => by cases hk; omega), ?_, hM.hb, ?_, ?_, ?_⟩
  · rw [e1, List.length_drop]; omega
  · rw [e1, e3]; exact hz.1
  · rw [hz.2.block _ (by omega) (by intro e; cases e; omega)]; exact hM.fault
  · exact hM.own.kept hz.2 (own_ne hM.own)
  · have := hR.short; rw [List.length_append, List.length_singleton]; omega
  · obtain ⟨f, rfl⟩ : ∃ f, g = f + 1 := ⟨g - 1, by omega⟩; rw [hR.rest, scanF_tok (by rw [← hr, ← hso]; exact h0) (by rw [← hr, ← hso]; exact h6), e1, e3, ← hr, ← hp, ← htx, ← hn]; simp [tokAt, hso, hnu, htx]
theorem tok_cells {w5 : World} {N : Nat} {x0 x1 x2 x3 x4 : Value} {T : TypeId} (h : w5.heap[N]? = some (.cells #[x0, x1, x2, x3, x4] T (0, 0))) : w5.cell? ⟨N, 0, none⟩ = some x0 ∧ w5.cell? ⟨N, 1, none⟩ = some x1 ∧ N < w5.heap.size :=
  ⟨by simp [cell_of_row w5 N _ _ _ _ h], by simp [cell_of_row w5 N _ _ _ _ h], (Array.getElem?_eq_some_iff.1 h).1⟩
set_option maxHeartbeats 4000000 in
theorem scan_any (s : ByteArray) (w : World) (hs : s.size ≤ 65536) (he : Errs w) :
    Calls Tryz.prog 38 #[.string s] w (ScanPost s.data.toList w) := by
  have HE := Lib.hid he; clear he; go_enter Tryz.func38, Tryz.ntmps38
  go_wp2_with (go_at_call 78; refine (clone_any _ _ (by omega)).mono ?_; rintro e w1 ⟨rfl, hb⟩)
  have HST := Lib.hid (ScanRel.start (s := s) (by simpa using hb)); clear hb; generalize w1.heap.size = b at HST; have hl : s.data.toList.length ≤ 65536 := hs; generalize s.data.toList = l at HST hl; go_loopg [5] (l.length + 1) (fun g v wr => ∃ m acc, ScanRel w b l g v wr m acc)
  case atStart => exact ⟨0, [], HST.out⟩
  case round =>
    obtain ⟨m, acc, hR⟩ := hrel; have HR := Lib.hid hR; have HB := Lib.hid (hR.pbd hl); have hql : (l.drop m).length ≤ 65536 := (by rw [List.length_drop]; omega); clear hR; go_wp2_with (first | (go_at_call 79; refine (skipBlanks_any b (l.drop m) (posL (l.take m) (1, 1)) _ hql HB.out.1 HB.out.2.1 HB.out.2.2.1 HB.out.2.2.2 HR.out.src).mono ?_; rintro e w2 ⟨rfl, hp⟩))
    have hM := HR.out.skip hp; have HB1 := Lib.hid (hp.bd HB.out.1 HB.out.2.1 HB.out.2.2.1 HB.out.2.2.2); clear hp; have hmg := gapL_le (l.drop m); obtain ⟨r1, hr1⟩ : ∃ r1, r1 = (l.drop m).drop (gapL (l.drop m)) := ⟨_, rfl⟩; obtain ⟨p1, hp1⟩ : ∃ p1, p1 = posL ((l.drop m).take (gapL (l.drop m))) (posL (l.take m) (1, 1)) := ⟨_, rfl⟩; rw [← hr1, ← hp1] at hM; have hb2 : 1 ≤ p1.1 ∧ p1.1 ≤ 65537 ∧ 1 ≤ p1.2 ∧ p1.2 ≤ 65537 := (by rw [hp1]; exact HB1.out); have HB2 := Lib.hid hb2; clear hb2 HB1; have hrl : r1.length ≤ 65536 := (by rw [hr1, List.length_drop]; omega); have HR1 := Lib.hid hr1; have HP1 := Lib.hid hp1; have HM := Lib.hid hM; have HE2 := Lib.hid (HE.out.below hM.below HE.out.lt1 HE.out.lt2); clear hr1 hp1 hM hmg; obtain ⟨so, hso⟩ : ∃ so, so = tokSort r1 := ⟨_, rfl⟩; obtain ⟨nu, hnu⟩ : ∃ nu, nu = tokNum r1 := ⟨_, rfl⟩; obtain ⟨tx, htx⟩ : ∃ tx, tx = tokText r1 := ⟨_, rfl⟩; have HSO := Lib.hid hso; have HNU := Lib.hid hnu; have HTX := Lib.hid htx; clear hso hnu htx; by_cases h0 : so = 0
    · have h0' : (so == 0) = true := by simp [h0]
      have H0 := Lib.hid h0; clear h0; go_wp2_with (first | (go_at_call 80; refine (token_at b r1 p1.1 p1.2 _ hrl HE2.out HM.out.src so nu tx HSO.out.symm HTX.out.symm HNU.out.symm).mono ?_; rintro e w3 ⟨rfl, hb3⟩; have HM3 := Lib.hid (HM.out.under hb3); clear hb3; have c1 := HM3.out.src.c1; have c2 := HM3.out.src.c2; have hlt3 := HM3.out.src.lt; have hbb := HM3.out.hb; obtain ⟨z0, z1, z2, zf⟩ := fault_cells HM3.out.fault))
      have hN3 : w.heap.size < w3.heap.size := (by omega); go_region; all_goals go_wp2_with fail
      exact bodyPost_ret (v := .tuple #[.slice none 0 0, .agg #[.int .i64 2, .int .i64 p1.1, .int .i64 p1.2]]) (scan_results rfl rfl (scan_fail_row HM3.out _ _ _ _)) rfl (scan_fail HR.out HR1.out HP1.out (by rw [← HSO.out, H0.out]) HM3.out _)
    · have h0' : (so == 0) = false := by simpa using h0
      have HX := Lib.hid (tokText_le r1); have hacc := HR.out.short; have hml := HR.out.m_le; have H0 := Lib.hid h0; clear h0; by_cases h6 : so = 6
      · have h6' : (so == 6) = true := by simp [h6]
        have H6 := Lib.hid h6; clear h6; obtain ⟨i0, hi, hz0, hz1, hz2⟩ := info_parts tok_info5; go_wp2_with (first | (go_at_call 80; refine (token_at b r1 p1.1 p1.2 _ hrl HE2.out HM.out.src so nu tx HSO.out.symm HTX.out.symm HNU.out.symm).mono ?_; rintro e w3 ⟨rfl, hb3⟩; have HM3 := Lib.hid (HM.out.under hb3); clear hb3; have hlt3 := HM3.out.src.lt; have hbb := HM3.out.hb) | (at_builtin; go_loud (refine wpList_append_own _ rfl _ _ 57 rfl (b + 1) 64 i0 zeroTok 5 48 Tryz.underlying57 hi hz0 hz1 hz2 rfl (by decide) _ _ _ rfl ((HM3.out.own.alloc _).alloc _) ⟨w3.heap.size + 1, 0, none⟩ 1 1 (Tok.cells ⟨so, tx, nu, p1.1, p1.2⟩) rfl rfl (news_cells _ _ (by simp) _ _) (by simp [Tok.cells, Value.oneCell']) (by unfold maxLen; omega) (by omega) (by simp; omega) ?_); intro v5 w5 hown5 hg5 _; obtain ⟨hM5, hT5⟩ := HM3.out.app hg5 hown5; have HM5 := Lib.hid hM5; obtain ⟨x0, x1, x2, xf⟩ := fault_cells hM5.fault; obtain ⟨y0, y1, y2⟩ := tok_cells hT5; clear hg5 hown5 hM5 hT5))
        exact bodyPost_ret (v := .tuple #[v5, .agg #[.int .i64 0, .int .i64 0, .int .i64 0]]) (scan_results rfl rfl (row3t HM5.out.fault _ _ _)) rfl (scan_done HR.out HR1.out HP1.out H6.out HSO.out HNU.out HTX.out HM5.out)
      · have h6' : (so == 6) = false := by simpa using h6
        have H6 := Lib.hid h6; clear h6; have hnl : (str tx).size ≤ r1.length := (by rw [str_size, HTX.out]; exact HX.out); obtain ⟨i0, hi, hz0, hz1, hz2⟩ := info_parts tok_info5; go_wp2_with (first | (go_at_call 80; refine (token_at b r1 p1.1 p1.2 _ hrl HE2.out HM.out.src so nu tx HSO.out.symm HTX.out.symm HNU.out.symm).mono ?_; rintro e w3 ⟨rfl, hb3⟩; have HM3 := Lib.hid (HM.out.under hb3); clear hb3; have hlt3 := HM3.out.src.lt; have hbb := HM3.out.hb) | (at_builtin; go_loud (refine wpList_append_own _ rfl _ _ 57 rfl (b + 1) 64 i0 zeroTok 5 48 Tryz.underlying57 hi hz0 hz1 hz2 rfl (by decide) _ _ _ rfl ((HM3.out.own.alloc _).alloc _) ⟨w3.heap.size + 1, 0, none⟩ 1 1 (Tok.cells ⟨so, tx, nu, p1.1, p1.2⟩) rfl rfl (news_cells _ _ (by simp) _ _) (by simp [Tok.cells, Value.oneCell']) (by unfold maxLen; omega) (by omega) (by simp; omega) ?_); intro v5 w5 hown5 hg5 _; obtain ⟨hM5, hT5⟩ := HM3.out.app hg5 hown5; have HM5 := Lib.hid hM5; obtain ⟨x0, x1, x2, xf⟩ := fault_cells hM5.fault; obtain ⟨y0, y1, y2⟩ := tok_cells hT5; clear hg5 hown5 hM5 hT5) | (go_at_call 81; refine (pass_any b r1 p1 (str tx).size _ hrl hnl HB2.out.1 HB2.out.2.1 HB2.out.2.2.1 HB2.out.2.2.2 HM5.out.src).mono ?_; rintro e w6 ⟨rfl, hz⟩))
        have hfu := HR.out.fuel; go_roundg (gk - 1)
        case measure => omega
        case rel => exact ⟨_, _, HR.out.next HR1.out HP1.out H0.out H6.out HSO.out HNU.out HTX.out HM5.out (str_size tx) hz⟩
end Go.Proofs.YtlhmdjhfmhkllaaGreatDoor

namespace Go.Proofs.YtlhmdjhfmhkllaaGreatDoor
open Go.RowKit
theorem scan_big (s : ByteArray) (w : World) (hs : 65536 < s.size) (hm : s.size ≤ maxLen) :
    Calls Tryz.prog 38 #[.string s] w fun e w' => e = .returned (.tuple #[.slice none 0 0, .agg #[.int .i64 9, .int .i64 0, .int .i64 0]]) ∧ Below w.heap.size w w' := by
  unfold maxLen at hm; go_enter Tryz.func38, Tryz.ntmps38
  go_wp2_with fail
  exact bodyPost_ret (v := .tuple #[.slice none 0 0, .agg #[.int .i64 9, .int .i64 0, .int .i64 0]]) (scan_results rfl rfl (heap_alloc_new w _)) rfl ⟨rfl, (Below.refl _ _).alloc (Nat.le_refl _) _⟩
/-- a row of the call's own that is not empty -/
theorem own_slice {w : World} {B : Nat} {e : TypeId} {size n : Nat} {v : Value} {xs : List Value} (h : w.ownsRow B e size v n xs) (hn : 0 < n) :
    ∃ g cap, v = .slice (some ⟨g, 0, none⟩) n cap ∧ B ≤ g ∧ g < w.heap.size ∧ n ≤ cap ∧ cap ≤ maxLen ∧ ∀ j u, xs[j]? = some u → w.cell? ⟨g, j, none⟩ = some u := by
  rcases h.2 with ⟨_, h0⟩ | ⟨g, cap, cur, h1, h2, h3, h4, h5, h6, h7⟩
  · omega
  · refine ⟨g, cap, h1, h2, (Array.getElem?_eq_some_iff.1 h3).1, h4, h5, fun j u hu => ?_⟩; have := h.cells (g := g) (by rw [h1]; rfl) j u hu; have hadd : (⟨g, 0, none⟩ : Addr).add j = ⟨g, j, none⟩ := (by unfold Addr.add; split <;> simp_all)
    rwa [hadd] at this
end Go.Proofs.YtlhmdjhfmhkllaaGreatDoor
