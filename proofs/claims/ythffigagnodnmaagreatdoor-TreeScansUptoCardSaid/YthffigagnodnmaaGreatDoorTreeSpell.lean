/-
  Contracts of a strings.Builder of the call's own over this translation: WriteByte, WriteString, String.
  The program's Spell: tokens spelled with a blank between.
-/
import Derived.Test.YthffigagnodnmaaGreatDoorShelf
import Derived.Test.YthffigagnodnmaaGreatDoorChecked
import Derived.Shelf.Strings.BuilderK
import Derived.WalkKit
import Derived.Lib.Hide
import Derived.Test.YthffigagnodnmaaGreatDoorScan
import Derived.Test.YthffigagnodnmaaGreatDoorLexSpec
import Derived.Test.YthffigagnodnmaaGreatDoorTreeMem
namespace Go.Proofs.YthffigagnodnmaaGreatDoor
open Go.RowKit

theorem X169b : Builder.Extra Tryz.prog Tryz.lays169_ren := Tryz.Builder_Extra_169
set_option maxHeartbeats 1000000 in
set_option maxRecDepth 100000 in
theorem copyCheck_used (b : Nat) (w : World) (h0 : w.cell? ⟨b, 0, none⟩ = some (.pointer (some ⟨b, 0, none⟩))) :
    Calls Tryz.prog 96 #[.pointer (some ⟨b, 0, none⟩)] w fun e w' => e = .returned (.tuple #[]) ∧ w' = w := by
  obtain ⟨j, hj, _⟩ := Option.map_eq_some_iff.1 X169b.sizeBuilder
  go_enter Tryz.func96, Tryz.ntmps96
  go_wp2
  rw [Lib.run_neq_ptr_same w _ Tryz.underlying56 hj]
  go_wp2
  go_end0
  exact ⟨rfl, rfl⟩
set_option maxHeartbeats 1000000 in
set_option maxRecDepth 100000 in
theorem copyCheck_fresh (b : Nat) (w : World) (h0 : w.cell? ⟨b, 0, none⟩ = some (.pointer none)) (hsh : w.shape? b = some (59, 2)) (hfz : w.frozen? ⟨b, 0, none⟩ = false) :
    Calls Tryz.prog 96 #[.pointer (some ⟨b, 0, none⟩)] w fun e w' => e = .returned (.tuple #[]) ∧ w' = w.setCell ⟨b, 0, none⟩ (.pointer (some ⟨b, 0, none⟩)) := by
  obtain ⟨j, hj, hjs⟩ := Option.map_eq_some_iff.1 X169b.sizeBuilder
  go_enter Tryz.func96, Tryz.ntmps96
  go_wp2
  rw [Lib.run_to_unsafe w ⟨b, 0, none⟩ Tryz.underlying56 Tryz.underlying154 hj (by rw [hjs]; decide) hsh (Nat.zero_lt_succ 1)]
  simp only [Result.andThen]
  rw [Oper.upon_value]
  go_wp2
  rw [run_callFunc_extern Tryz.func126 (by kernel_rfl) (by kernel_rfl) (by kernel_rfl) (e := Extern.AbiNoEscape.same) (by kernel_rfl)]
  rw [Lib.run_noEscape]
  simp only [Result.andThen]
  rw [Oper.upon_value]
  go_wp2
  rw [Lib.run_from_unsafe w ⟨b, 0, none⟩ Tryz.underlying154 Tryz.underlying56 hj hsh X169b.liesBuilder]
  simp only [Result.andThen]
  rw [Oper.upon_value]
  go_wp2
  go_end0
  exact ⟨rfl, rfl⟩
/-- what a writing method leaves: the builder with these bytes; what lay below as it lay; every block that is neither the builder's nor a row of bytes as it was -/
def Wrote (B b : Nat) (bs : List Value) (w w' : World) : Prop := Lib.BuilderAtF 59 5 B b (.pointer (some ⟨b, 0, none⟩)) bs w' ∧ Below B w w' ∧ Lib.OthersKept 5 (some b) w w'
theorem copyCheck_any (B b : Nat) (bs : List Value) (w : World) (h : Lib.IsBuilderF 59 5 B b bs w) :
    Calls Tryz.prog 96 #[.pointer (some ⟨b, 0, none⟩)] w fun e w' => e = .returned (.tuple #[]) ∧ Wrote B b bs w w' := by
  rcases h with h | h
  · refine (copyCheck_fresh b w h.cell0 h.shape h.frozen0).mono ?_
    rintro e w' ⟨rfl, rfl⟩
    exact ⟨rfl, h.used _, (Below.refl B w).setCell (p := ⟨b, 0, none⟩) h.1 _, (Lib.OthersKept.refl _ _ w).setCell ⟨b, 0, none⟩ rfl _⟩
  · refine (copyCheck_used b w h.cell0).mono ?_
    rintro e w' ⟨rfl, rfl⟩
    exact ⟨rfl, h, Below.refl B _, Lib.OthersKept.refl _ _ _⟩
theorem lt_of_heapb {w : World} {b : Nat} {o : Obj} (h : w.heap[b]? = some o) : b < w.heap.size := (Array.getElem?_eq_some_iff.1 h).1
set_option maxHeartbeats 2000000 in
set_option maxRecDepth 100000 in
theorem writeByte_any (B b : Nat) (bs : List Value) (c : Int) (w : World) (h : Lib.IsBuilderF 59 5 B b bs w) (hlen : bs.length + 1 ≤ 140737488355328) (hBw : B ≤ w.heap.size) :
    Calls Tryz.prog 55 #[.pointer (some ⟨b, 0, none⟩), .int .u8 c] w fun e w' => e = .returned .nilIface ∧ Wrote B b (bs ++ [.int .u8 c]) w w' := by
  obtain ⟨i0, hi, hz0, hz1, hz2⟩ := info_parts X169b.infoByte
  go_enter Tryz.func55, Tryz.ntmps55
  go_wp2_with (go_at_call 96; refine (copyCheck_any B b bs _ h).mono ?_)
  rintro e w1 ⟨rfl, h1, hb1, hk1⟩
  obtain ⟨hB, v, hbk, hown, hne⟩ := h1
  have c0 : w1.cell? ⟨b, 0, none⟩ = some (.pointer (some ⟨b, 0, none⟩)) := by rw [Lib.cell_of_heap hbk]; rfl
  have c1 : w1.cell? ⟨b, 1, none⟩ = some v := by rw [Lib.cell_of_heap hbk]; rfl
  go_wp2_with (at_builtin; refine wpList_append_ownF _ rfl _ _ 57 rfl B 5 i0 (.int .u8 0) 1 1 Tryz.underlying57 hi hz0 hz1 hz2 rfl (by decide) _ _ _ rfl (hown.alloc _) ⟨w1.heap.size, 0, none⟩ 1 1 [.int .u8 c] rfl rfl ?c1 ?c2 ?c3 ?c4 ?c5 ?_)
  case c1 =>
    intro j u hj
    match j, hj with
    | 0, hj => simp at hj; subst hj; simp [Addr.add]
  case c2 => intro u hu; simp at hu; subst hu; rfl
  case c3 => unfold maxLen; omega
  case c4 => omega
  case c5 => have := hb1.size; simp; omega
  intro v' w2 hown' hgrow _
  have hlt := lt_of_heapb hbk
  have hb2 : w2.heap[b]? = some (.cells #[.pointer (some ⟨b, 0, none⟩), v] 59 (0, 0)) := by
    rw [hgrow.block b (by simp; omega) (fun e => hne e.symm), Lib.alloc_old w1 _ b hlt]
    exact hbk
  have d0 : w2.cell? ⟨b, 0, none⟩ = some (.pointer (some ⟨b, 0, none⟩)) := by rw [Lib.cell_of_heap hb2]; rfl
  have d1 : w2.cell? ⟨b, 1, none⟩ = some v := by rw [Lib.cell_of_heap hb2]; rfl
  have f1 : w2.frozen? ⟨b, 1, none⟩ = false := Lib.frozen_of_heap hb2 1
  obtain ⟨g, cap, rfl⟩ : ∃ g cap, v' = .slice (some ⟨g, 0, none⟩) (bs.length + 1) cap := by
    rcases hown'.2 with ⟨_, h0⟩ | ⟨g, cap, cur, fz, hv, _⟩
    · omega
    · exact ⟨g, cap, hv⟩
  go_wp2
  go_ret
  refine ⟨rfl, ?_, ?_, ((hk1.alloc _).grown hgrow (Lib.ownsRowF_kind (hown.alloc _))).setCell ⟨b, 1, none⟩ rfl _⟩
  · exact Lib.BuilderAtF.put (T := 59) (e := 5) hB hb2 (bs' := bs ++ [.int .u8 c]) (by simpa using hown') X169b.neB5
  · exact ((hb1.alloc (by have := hb1.size; omega) _).grown hgrow (by have := hb1.size; simp; omega) (fun k hk => (hown.lt k hk).1)).setCell (p := ⟨b, 1, none⟩) hB _
set_option maxHeartbeats 2000000 in
set_option maxRecDepth 100000 in
theorem writeString_any (B b : Nat) (bs : List Value) (s : ByteArray) (w : World) (h : Lib.IsBuilderF 59 5 B b bs w) (hlen : bs.length + s.size ≤ 140737488355328) (hBw : B ≤ w.heap.size) :
    Calls Tryz.prog 56 #[.pointer (some ⟨b, 0, none⟩), .string s] w fun e w' => e = .returned (.tuple #[.int .i64 s.size, .nilIface]) ∧ Wrote B b (bs ++ Lib.strCells s) w w' := by
  obtain ⟨i0, hi, hz0, hz1, hz2⟩ := info_parts X169b.infoByte
  go_enter Tryz.func56, Tryz.ntmps56
  go_wp2_with (go_at_call 96; refine (copyCheck_any B b bs _ h).mono ?_)
  rintro e w1 ⟨rfl, h1, hb1, hk1⟩
  obtain ⟨hB, v, hbk, hown, hne⟩ := h1
  have c0 : w1.cell? ⟨b, 0, none⟩ = some (.pointer (some ⟨b, 0, none⟩)) := by rw [Lib.cell_of_heap hbk]; rfl
  have c1 : w1.cell? ⟨b, 1, none⟩ = some v := by rw [Lib.cell_of_heap hbk]; rfl
  go_wp2_with (at_builtin; refine Lib.wpList_append_own_stringF _ rfl _ _ 57 9 rfl B 5 i0 Tryz.underlying57 Tryz.underlying9 hi hz0 hz1 hz2 _ _ _ rfl hown s rfl ?c3 ?c4 ?c5 ?_)
  case c3 => unfold maxLen; omega
  case c4 => omega
  case c5 => have := hb1.size; omega
  intro v' w2 hown' hgrow _
  have hlt := lt_of_heapb hbk
  have hb2 : w2.heap[b]? = some (.cells #[.pointer (some ⟨b, 0, none⟩), v] 59 (0, 0)) := by
    rw [hgrow.block b hlt (fun e => hne e.symm)]
    exact hbk
  have d0 : w2.cell? ⟨b, 0, none⟩ = some (.pointer (some ⟨b, 0, none⟩)) := by rw [Lib.cell_of_heap hb2]; rfl
  have d1 : w2.cell? ⟨b, 1, none⟩ = some v := by rw [Lib.cell_of_heap hb2]; rfl
  have f1 : w2.frozen? ⟨b, 1, none⟩ = false := Lib.frozen_of_heap hb2 1
  obtain ⟨ao, n', cap, rfl⟩ : ∃ ao n' cap, v' = .slice ao n' cap := by
    rcases hown'.2 with ⟨hv, _⟩ | ⟨g, cap, cur, fz, hv, _⟩
    · exact ⟨_, _, _, hv⟩
    · exact ⟨_, _, _, hv⟩
  go_wp2
  go_ret2
  refine ⟨rfl, ?_, ?_, (hk1.grown hgrow (Lib.ownsRowF_kind hown)).setCell ⟨b, 1, none⟩ rfl _⟩
  · exact Lib.BuilderAtF.put (T := 59) (e := 5) hB hb2 (bs' := bs ++ Lib.strCells s) (by simpa [Lib.strCells_length] using hown') X169b.neB5
  · exact (hb1.grown hgrow (by have := hb1.size; omega) (fun k hk => (hown.lt k hk).1)).setCell (p := ⟨b, 1, none⟩) hB _
theorem string_any (B b : Nat) (l : List UInt8) (w : World) (h : Lib.IsBuilderF 59 5 B b (Lib.byteCells l) w) (hBw : B ≤ w.heap.size) :
    Calls Tryz.prog 30 #[.pointer (some ⟨b, 0, none⟩)] w fun e w' => e = .returned (.string ⟨l.toArray⟩) ∧ Below B w w' :=
  (Any.Builder_String_any_f Tryz.lays169 X169b B b l w h hBw).mono fun _ _ h => ⟨h.1, h.2.2⟩
end Go.Proofs.YthffigagnodnmaaGreatDoor
namespace Go.Proofs.YthffigagnodnmaaGreatDoor
open Go.RowKit

theorem flat_at : ∀ (ts : List Tok) (k : Nat) (t : Tok), ts[k]? = some t → ∀ f, f < 5 → (ts.flatMap Tok.cells)[k * 5 + f]? = t.cells[f]? := by
  intro ts
  induction ts with
  | nil => intro k t h; simp at h
  | cons x r ih =>
    intro k t h f hf
    have hx : x.cells.length = 5 := rfl
    rw [List.flatMap_cons]
    cases k with
    | zero =>
      simp only [List.getElem?_cons_zero, Option.some.injEq] at h
      subst h
      rw [List.getElem?_append_left (by rw [hx]; omega)]
      congr 1; omega
    | succ k =>
      rw [List.getElem?_cons_succ] at h
      rw [List.getElem?_append_right (by rw [hx]; omega), hx, show (k + 1) * 5 + f - 5 = k * 5 + f from by omega]
      exact ih k t h f hf

theorem spellL_snoc (l : List (List UInt8)) (t : List UInt8) : spellL (l ++ [t]) = spellL l ++ ((if l = [] then [] else [32]) ++ t) := by
  induction l with
  | nil => simp [spellL]
  | cons x r ih =>
    rw [List.cons_append, spellL, if_neg (by simp), ih, spellL]
    by_cases hr : r = []
    · subst hr; simp [spellL]
    · simp [hr]
theorem spellL_pre (l r : List (List UInt8)) : (spellL l).length ≤ (spellL (l ++ r)).length := by
  induction l with
  | nil => simp [spellL]
  | cons x l ih =>
    rw [List.cons_append, spellL, spellL]
    by_cases hl : l = []
    · subst hl; simp
    · rw [if_neg hl, if_neg (by simp [hl])]
      simp; omega
theorem str_append (a b : List UInt8) : str a ++ str b = str (a ++ b) := by
  apply ByteArray.ext
  rw [ByteArray.data_append]
  simp [str]
theorem str_blank (a b : List UInt8) : str a ++ ({ data := #[32] } : ByteArray) ++ str b = str (a ++ ([32] ++ b)) := by
  rw [show ({ data := #[32] } : ByteArray) = str [32] from rfl, str_append, str_append, List.append_assoc]
theorem ret_str {a b : ByteArray} (h : a = b) : Ending.returned (.string a) = .returned (.string b) := by rw [h]
def spellT (ts : List Tok) (k : Nat) : List UInt8 := spellL ((ts.take k).map Tok.text)
theorem spellT_zero (ts : List Tok) : spellT ts 0 = [] := by simp [spellT, spellL]
theorem spellT_all (ts : List Tok) : spellT ts ts.length = spellL (ts.map Tok.text) := by simp [spellT]
theorem spellT_le (ts : List Tok) (k : Nat) : (spellT ts k).length ≤ (spellL (ts.map Tok.text)).length := by
  unfold spellT
  have := spellL_pre ((ts.take k).map Tok.text) ((ts.drop k).map Tok.text)
  rwa [← List.map_append, List.take_append_drop] at this
theorem spellT_succ {ts : List Tok} {k : Nat} {t : Tok} (h : ts[k]? = some t) : spellT ts (k + 1) = spellT ts k ++ ((if k = 0 then [] else [32]) ++ t.text) := by
  obtain ⟨hk, he⟩ := List.getElem?_eq_some_iff.1 h
  unfold spellT
  rw [List.take_succ_eq_append_getElem hk, List.map_append, he]
  rw [show [t].map Tok.text = [t.text] from rfl, spellL_snoc]
  by_cases h0 : k = 0
  · subst h0; simp
  · rw [if_neg h0, if_neg (by
    simp only [List.map_eq_nil_iff, List.take_eq_nil_iff]
    rintro (h | h)
    · omega
    · rw [h] at hk; simp at hk)]

def TokCells (w : World) (a : Addr) (ts : List Tok) : Prop := ∀ j u, (ts.flatMap Tok.cells)[j]? = some u → w.cell? (a.add j) = some u
theorem TokCells.text {w : World} {a : Addr} {ts : List Tok} (h : TokCells w a ts) {k : Nat} {t : Tok} (ht : ts[k]? = some t) : w.cell? { block := (a.add (k * 5)).block, off := (a.add (k * 5)).off + 1 } = some (.string (str t.text)) := by
  rw [← add_field _ _ _ (by omega), add_add]; exact h _ _ (flat_at ts k t ht 1 (by omega))

theorem TokCells.under {w w' : World} {B : Nat} {a : Addr} {ts : List Tok} (h : TokCells w a ts) (hb : Below B w w') (hg : ts ≠ [] → a.block < B) : TokCells w' a ts := fun j u hu => (hb.cell (by rw [add_block]; exact hg (by rintro rfl; simp at hu))).trans (h j u hu)
theorem TokCells.all {w : World} {a : Addr} {ts : List Tok} (h : TokCells w a ts) {k : Nat} {t : Tok} (ht : ts[k]? = some t) : w.cell? (a.add (k * 5)) = some (.int .i64 t.sort) ∧ (∀ f (u : Value), 0 < f → t.cells[f]? = some u → w.cell? { block := (a.add (k * 5)).block, off := (a.add (k * 5)).off + f } = some u) := by
  refine ⟨h _ _ (flat_at ts k t ht 0 (by omega)), fun f u hf hu => ?_⟩
  rw [← add_field _ _ _ hf, add_add]
  refine h _ _ ?_
  have hlt : f < 5 := (List.getElem?_eq_some_iff.1 hu).1
  rw [flat_at ts k t ht f hlt]
  exact hu
theorem byteCells_app (l m : List UInt8) : Lib.byteCells (l ++ m) = Lib.byteCells l ++ Lib.byteCells m := by simp [Lib.byteCells]
theorem byteCells_len (l : List UInt8) : (Lib.byteCells l).length = l.length := by simp [Lib.byteCells]
theorem tok_row {w : World} {N : Nat} {T : TypeId} {v0 v1 v2 v3 v4 : Value} (h : w.heap[N]? = some (.cells #[v0, v1, v2, v3, v4] T (0, 0))) :
    w.cell? ⟨N, 0, none⟩ = some v0 ∧ w.cell? ⟨N, 1, none⟩ = some v1 ∧ w.cell? ⟨N, 2, none⟩ = some v2 ∧ w.cell? ⟨N, 3, none⟩ = some v3 ∧ w.cell? ⟨N, 4, none⟩ = some v4 := by
  simp [World.cell?, h]
abbrev IsB (b : Nat) (l : List UInt8) (w : World) : Prop := Lib.IsBuilderF 59 5 b b (Lib.byteCells l) w

theorem isB_lt {b : Nat} {l : List UInt8} {w : World} (h : IsB b l w) : b < w.heap.size := h.elim (fun x => x.lt) (fun x => x.lt)
theorem isB_one {b : Nat} {l m : List UInt8} {w : World} (h : Lib.BuilderAtF 59 5 b b (.pointer (some ⟨b, 0, none⟩)) (Lib.byteCells l ++ Lib.strCells (str m)) w) : IsB b (l ++ m) w := .inr (by rw [byteCells_app]; exact h)
theorem isB_two {b : Nat} {l m : List UInt8} {w : World} (h : Lib.BuilderAtF 59 5 b b (.pointer (some ⟨b, 0, none⟩)) (Lib.byteCells l ++ [.int .u8 32] ++ Lib.strCells (str m)) w) : IsB b (l ++ ([32] ++ m)) w := .inr (by rw [byteCells_app, byteCells_app, ← List.append_assoc]; exact h)
set_option maxHeartbeats 1000000 in
set_option maxRecDepth 100000 in
theorem spell_any (a : Addr) (c : Nat) (ts : List Tok) (w : World) (hn : ts.length ≤ 1073741824) (hsz : (spellL (ts.map Tok.text)).length ≤ 1073741824) (ha : ts ≠ [] → a.block < w.heap.size) (h : TokCells w a ts) :
    Calls Tryz.prog 26 #[.slice (some a) ts.length c] w fun e w' => e = .returned (.string (str (spellL (ts.map Tok.text)))) ∧ Below w.heap.size w w' := by
  have H := Lib.hid h
  clear h
  go_enter Tryz.func26, Tryz.ntmps26
  go_wp2_with fail
  go_loopg [8] ts.length (fun g v wr => ∃ k : Nat, k + g = ts.length ∧ v = .int .i64 k ∧ IsB w.heap.size (spellT ts k) wr ∧ Below w.heap.size w wr)
  case atStart => exact ⟨0, by omega, rfl, by rw [spellT_zero]; exact Lib.IsBuilderF.of (Lib.fresh_isBuilder 59 5 w), (Below.refl _ _).alloc (Nat.le_refl _) _⟩
  case round =>
    obtain ⟨k, hk, rfl, hB, hbw⟩ := hrel
    have HK := Lib.hid hk
    have HB := Lib.hid hB
    have HW := Lib.hid hbw
    have hszw := hbw.size
    have hltw := isB_lt hB
    have hkl : k ≤ ts.length := by omega
    clear hk hB hbw
    by_cases hlt : k < ts.length
    · obtain ⟨t, ht⟩ : ∃ t, ts[k]? = some t := ⟨_, List.getElem?_eq_getElem hlt⟩
      obtain ⟨c0, cf⟩ := (H.out.under HW.out ha).all ht
      have c1 := cf 1 _ (by omega) rfl
      have c2 := cf 2 _ (by omega) rfl
      have c3 := cf 3 _ (by omega) rfl
      have c4 := cf 4 _ (by omega) rfl
      clear cf
      have hss := spellT_succ ht
      have hle2 := spellT_le ts (k + 1)
      rw [hss] at hle2
      have HS := Lib.hid hss
      clear ht hss
      by_cases h0 : k = 0
      · subst h0
        have c0 : wr.cell? a = some (.int .i64 t.sort) := by simpa [Addr.add] using c0
        have c1 : wr.cell? { block := a.block, off := a.off + 1 } = some (.string (str t.text)) := by simpa [Addr.add] using c1
        have c2 : wr.cell? { block := a.block, off := a.off + 2 } = some (.int .i64 t.num) := by simpa [Addr.add] using c2
        have c3 : wr.cell? { block := a.block, off := a.off + 3 } = some (.int .i64 t.line) := by simpa [Addr.add] using c3
        have c4 : wr.cell? { block := a.block, off := a.off + 4 } = some (.int .i64 t.col) := by simpa [Addr.add] using c4
        simp only [if_true, List.nil_append, List.length_append] at hle2
        go_wp2_with (go_at_call 56; refine (writeString_any w.heap.size w.heap.size _ _ _ (HB.out.alloc _) (by rw [byteCells_len, str_size]; omega) (by simp; omega)).mono ?_; rintro e w2 ⟨rfl, hA2, hb2, ho2⟩; have HA2 := Lib.hid hA2; clear hA2 ho2)
        go_roundg (ts.length - 1)
        case measure => have := HK.out; omega
        case rel => exact ⟨1, by omega, rfl, by rw [HS.out]; exact isB_one HA2.out, (HW.out.alloc (by omega) _).trans hb2⟩
      · have hpos : 0 < k := by omega
        rw [if_neg h0] at hle2
        simp only [List.length_append, List.length_singleton] at hle2
        have HN0 := Lib.hid h0
        clear h0
        go_wp2_with (first | (go_at_call 55; refine (writeByte_any w.heap.size w.heap.size _ _ _ (HB.out.alloc _) (by rw [byteCells_len]; omega) (by simp; omega)).mono ?_; rintro e w1 ⟨rfl, hA1, hb1, ho1⟩; have HA1 := Lib.hid hA1; have hN := ho1 wr.heap.size _ (heap_alloc_new wr _) (by simp; omega) (by intro c fz h; cases h); obtain ⟨x0, x1, x2, x3, x4⟩ := tok_row hN; have hs1 := hb1.size; simp at hs1; clear hA1 ho1 hN) | (go_at_call 56; refine (writeString_any w.heap.size w.heap.size _ _ _ (.inr HA1.out) (by rw [List.length_append, byteCells_len, str_size]; simp; omega) (by omega)).mono ?_; rintro e w2 ⟨rfl, hA2, hb2, ho2⟩; have HA2 := Lib.hid hA2; clear hA2 ho2))
        go_roundg (ts.length - (k + 1))
        case measure => have := HK.out; omega
        case rel => exact ⟨k + 1, by omega, by go_num, by rw [HS.out, if_neg HN0.out]; exact isB_two HA2.out, ((HW.out.alloc (by omega) _).trans hb1).trans hb2⟩
    · have hke : k = ts.length := by omega
      have HKE := Lib.hid hke
      clear hke
      go_wp2_with (go_at_call 30; refine (string_any w.heap.size w.heap.size _ _ HB.out (by omega)).mono ?_; rintro e w3 ⟨rfl, hb3⟩)
      go_ret
      exact ⟨ret_str (by rw [HKE.out, spellT_all]; rfl), HW.out.trans hb3⟩
theorem spell_nil (w : World) : Calls Tryz.prog 26 #[.slice none 0 0] w fun e w' => e = .returned (.string (str [])) ∧ Below w.heap.size w w' := by
  go_enter Tryz.func26, Tryz.ntmps26
  go_wp2_with fail
  go_loop [8] (fun v => v = .int .i64 0) (fun _ => 0)
  case atStart => rfl
  case round =>
    subst hrel
    go_wp2_with (go_at_call 30; refine (string_any w.heap.size w.heap.size [] _ (Lib.IsBuilderF.of (Lib.fresh_isBuilder 59 5 w)) (by simp)).mono ?_; rintro e w3 ⟨rfl, hb3⟩)
    go_ret
    exact ⟨rfl, ((Below.refl _ _).alloc (Nat.le_refl _) _).trans hb3⟩
end Go.Proofs.YthffigagnodnmaaGreatDoor
