/-
  Spell, the code's and the reference's: the tokens' texts with a blank between any two.
-/
import Derived.Test.YtnoifghbcfoaaaaDoorBuild
import Derived.Test.YtnoifghbcfoaaaaDoorAlike
import Derived.Test.YtnoifghbcfoaaaaDoorBlanks
namespace Go.Proofs.YtnoifghbcfoaaaaDoor
open Go.RowKit

theorem spellL_snoc (l : List (List UInt8)) (t : List UInt8) : spellL (l ++ [t]) = spellL l ++ ((if l = [] then [] else [32]) ++ t) := by
  induction l with
  | nil => simp [spellL]
  | cons x r ih =>
    rw [List.cons_append, spellL, if_neg (by simp), ih, spellL]
    by_cases hr : r = []
    · subst hr; simp [spellL]
    · simp [hr]
theorem spellL_pre (l r : List (List UInt8)) : (spellL l).length ≤ (spellL (l ++ r)).length := by
  induction l with
  | nil => simp [spellL]
  | cons x l ih =>
    rw [List.cons_append, spellL, spellL]
    by_cases hl : l = []
    · subst hl; simp
    · rw [if_neg hl, if_neg (by simp [hl])]
      simp; omega
theorem str_append (a b : List UInt8) : str a ++ str b = str (a ++ b) := by
  apply ByteArray.ext
  rw [ByteArray.data_append]
  simp [str]
theorem str_blank (a b : List UInt8) : str a ++ ({ data := #[32] } : ByteArray) ++ str b = str (a ++ ([32] ++ b)) := by
  rw [show ({ data := #[32] } : ByteArray) = str [32] from rfl, str_append, str_append, List.append_assoc]
theorem ret_str {a b : ByteArray} (h : a = b) : Ending.returned (.string a) = .returned (.string b) := by rw [h]
def spellT (ts : List Tok) (k : Nat) : List UInt8 := spellL ((ts.take k).map Tok.text)
theorem spellT_zero (ts : List Tok) : spellT ts 0 = [] := by simp [spellT, spellL]
theorem spellT_all (ts : List Tok) : spellT ts ts.length = spellL (ts.map Tok.text) := by simp [spellT]
theorem spellT_le (ts : List Tok) (k : Nat) : (spellT ts k).length ≤ (spellL (ts.map Tok.text)).length := by
  unfold spellT
  have := spellL_pre ((ts.take k).map Tok.text) ((ts.drop k).map Tok.text)
  rwa [← List.map_append, List.take_append_drop] at this
theorem spellT_succ {ts : List Tok} {k : Nat} {t : Tok} (h : ts[k]? = some t) : spellT ts (k + 1) = spellT ts k ++ ((if k = 0 then [] else [32]) ++ t.text) := by
  obtain ⟨hk, he⟩ := List.getElem?_eq_some_iff.1 h
  unfold spellT
  rw [List.take_succ_eq_append_getElem hk, List.map_append, he]
  rw [show [t].map Tok.text = [t.text] from rfl, spellL_snoc]
  by_cases h0 : k = 0
  · subst h0; simp
  · rw [if_neg h0, if_neg (by
    simp only [List.map_eq_nil_iff, List.take_eq_nil_iff]
    rintro (h | h)
    · omega
    · rw [h] at hk; simp at hk)]

def TokCells (w : World) (a : Addr) (ts : List Tok) : Prop := ∀ j u, (ts.flatMap Tok.cells)[j]? = some u → w.cell? (a.add j) = some u
theorem add_add (a : Addr) (i j : Nat) : (a.add i).add j = a.add (i + j) := by
  unfold Addr.add
  by_cases hi : i = 0 <;> by_cases hj : j = 0 <;> simp [hi, hj]
  omega
theorem add_block (a : Addr) (i : Nat) : (a.add i).block = a.block := by unfold Addr.add; split <;> rfl
theorem add_field (a : Addr) (i f : Nat) (hf : 0 < f) : (a.add i).add f = { block := (a.add i).block, off := (a.add i).off + f } := by
  conv => lhs; unfold Addr.add
  rw [if_neg (by omega)]
  simp [Addr.add]
theorem TokCells.text {w : World} {a : Addr} {ts : List Tok} (h : TokCells w a ts) {k : Nat} {t : Tok} (ht : ts[k]? = some t) : w.cell? { block := (a.add (k * 5)).block, off := (a.add (k * 5)).off + 1 } = some (.string (str t.text)) := by
  rw [← add_field _ _ _ (by omega), add_add]; exact h _ _ (flat_at ts k t ht 1 (by omega))

set_option maxHeartbeats 1000000 in
theorem rSpell_any (a : Addr) (c : Nat) (ts : List Tok) (w : World) (hn : ts.length ≤ 1073741824) (hsz : (spellL (ts.map Tok.text)).length ≤ 1073741824) (h : TokCells w a ts) :
    Calls Tryd.prog 20 #[.slice (some a) ts.length c] w fun e w' => e = .returned (.string (str (spellL (ts.map Tok.text)))) ∧ w = w' := by
  have H := Lib.hid h
  clear h
  go_enter Tryd.func20, Tryd.ntmps20
  go_wp2_with fail
  go_loop [3, 4] (fun s v => ∃ k : Nat, k ≤ ts.length ∧ v = .int .i64 k ∧ s = .string (str (spellT ts k))) (fun _ v => ts.length - (intOf v).toNat)
  case atStart => exact ⟨0, Nat.zero_le _, rfl, by rw [spellT_zero]; rfl⟩
  case round =>
    obtain ⟨k, hk, rfl, rfl⟩ := hrel
    have hle := spellT_le ts k
    by_cases hlt : k < ts.length
    · obtain ⟨t, ht⟩ : ∃ t, ts[k]? = some t := ⟨_, List.getElem?_eq_getElem hlt⟩
      have c1 := H.out.text ht
      have hss := spellT_succ ht
      have hle2 := spellT_le ts (k + 1)
      rw [hss] at hle2
      have hb1 : (str (spellT ts k)).size + 1 ≤ 9223372036854775807 := by rw [str_size]; omega
      have HS := Lib.hid hss
      clear ht hss
      by_cases h0 : k = 0
      · subst h0
        have c1 : w.cell? { block := a.block, off := a.off + 1 } = some (.string (str t.text)) := by simpa [Addr.add] using c1
        simp only [if_true, List.nil_append, List.length_append] at hle2
        have hb2 : (str (spellT ts 0)).size + (str t.text).size ≤ 9223372036854775807 := by rw [str_size, str_size]; omega
        go_wp2_with fail
        go_round
        case rel => exact ⟨1, by omega, rfl, by rw [HS.out, str_append]; rfl⟩
        case measure => simp [intOf]; omega
      · have hpos : 0 < k := by omega
        rw [if_neg h0] at hle2
        simp only [List.length_append, List.length_singleton] at hle2
        have hb2 : (str (spellT ts k)).size + 1 + (str t.text).size ≤ 9223372036854775807 := by rw [str_size, str_size]; omega
        clear h0
        go_wp2_with fail
        go_round
        case rel => exact ⟨k + 1, by omega, by go_num, by rw [HS.out, if_neg (by omega), str_blank]⟩
        case measure => simp [intOf]; omega
    · have hke : k = ts.length := by omega
      have HKE := Lib.hid hke
      clear hke
      go_wp2_with fail
      go_ret
      exact ⟨ret_str (by rw [HKE.out, spellT_all]), rfl⟩

theorem rSpell_nil (w : World) : Calls Tryd.prog 20 #[.slice none 0 0] w fun e w' => e = .returned (.string (str [])) ∧ w = w' := by
  go_enter Tryd.func20, Tryd.ntmps20
  go_wp2_with fail
  go_loop [3, 4] (fun s v => s = .string ⟨#[]⟩ ∧ v = .int .i64 0) (fun _ _ => 0)
  case atStart => exact ⟨rfl, rfl⟩
  case round =>
    obtain ⟨rfl, rfl⟩ := hrel
    go_wp2_with fail
    go_ret
    exact ⟨rfl, rfl⟩
theorem TokCells.under {w w' : World} {B : Nat} {a : Addr} {ts : List Tok} (h : TokCells w a ts) (hb : Below B w w') (hg : ts ≠ [] → a.block < B) : TokCells w' a ts := fun j u hu => (hb.cell (by rw [add_block]; exact hg (by rintro rfl; simp at hu))).trans (h j u hu)
theorem TokCells.all {w : World} {a : Addr} {ts : List Tok} (h : TokCells w a ts) {k : Nat} {t : Tok} (ht : ts[k]? = some t) : w.cell? (a.add (k * 5)) = some (.int .i64 t.sort) ∧ (∀ f (u : Value), 0 < f → t.cells[f]? = some u → w.cell? { block := (a.add (k * 5)).block, off := (a.add (k * 5)).off + f } = some u) := by
  refine ⟨h _ _ (flat_at ts k t ht 0 (by omega)), fun f u hf hu => ?_⟩
  rw [← add_field _ _ _ hf, add_add]
  refine h _ _ ?_
  have hlt : f < 5 := (List.getElem?_eq_some_iff.1 hu).1
  rw [flat_at ts k t ht f hlt]
  exact hu
theorem byteCells_app (l m : List UInt8) : Lib.byteCells (l ++ m) = Lib.byteCells l ++ Lib.byteCells m := by simp [Lib.byteCells]
theorem byteCells_len (l : List UInt8) : (Lib.byteCells l).length = l.length := by simp [Lib.byteCells]
theorem tok_row {w : World} {N : Nat} {T : TypeId} {v0 v1 v2 v3 v4 : Value} (h : w.heap[N]? = some (.cells #[v0, v1, v2, v3, v4] T (0, 0))) :
    w.cell? ⟨N, 0, none⟩ = some v0 ∧ w.cell? ⟨N, 1, none⟩ = some v1 ∧ w.cell? ⟨N, 2, none⟩ = some v2 ∧ w.cell? ⟨N, 3, none⟩ = some v3 ∧ w.cell? ⟨N, 4, none⟩ = some v4 := by
  simp [World.cell?, h]
abbrev IsB (b : Nat) (l : List UInt8) (w : World) : Prop := Lib.IsBuilderF 53 5 b b (Lib.byteCells l) w

theorem isB_lt {b : Nat} {l : List UInt8} {w : World} (h : IsB b l w) : b < w.heap.size := h.elim (fun x => x.lt) (fun x => x.lt)
theorem isB_one {b : Nat} {l m : List UInt8} {w : World} (h : Lib.BuilderAtF 53 5 b b (.pointer (some ⟨b, 0, none⟩)) (Lib.byteCells l ++ Lib.strCells (str m)) w) : IsB b (l ++ m) w := .inr (by rw [byteCells_app]; exact h)
theorem isB_two {b : Nat} {l m : List UInt8} {w : World} (h : Lib.BuilderAtF 53 5 b b (.pointer (some ⟨b, 0, none⟩)) (Lib.byteCells l ++ [.int .u8 32] ++ Lib.strCells (str m)) w) : IsB b (l ++ ([32] ++ m)) w := .inr (by rw [byteCells_app, byteCells_app, ← List.append_assoc]; exact h)
set_option maxHeartbeats 1000000 in
set_option maxRecDepth 100000 in
theorem spell_any (a : Addr) (c : Nat) (ts : List Tok) (w : World) (hn : ts.length ≤ 1073741824) (hsz : (spellL (ts.map Tok.text)).length ≤ 1073741824) (ha : ts ≠ [] → a.block < w.heap.size) (h : TokCells w a ts) :
    Calls Tryd.prog 19 #[.slice (some a) ts.length c] w fun e w' => e = .returned (.string (str (spellL (ts.map Tok.text)))) ∧ Below w.heap.size w w' := by
  have H := Lib.hid h
  clear h
  go_enter Tryd.func19, Tryd.ntmps19
  go_wp2_with fail
  go_loopg [8] ts.length (fun g v wr => ∃ k : Nat, k + g = ts.length ∧ v = .int .i64 k ∧ IsB w.heap.size (spellT ts k) wr ∧ Below w.heap.size w wr)
  case atStart => exact ⟨0, by omega, rfl, by rw [spellT_zero]; exact Lib.IsBuilderF.of (Lib.fresh_isBuilder 53 5 w), (Below.refl _ _).alloc (Nat.le_refl _) _⟩
  case round =>
    obtain ⟨k, hk, rfl, hB, hbw⟩ := hrel
    have HK := Lib.hid hk
    have HB := Lib.hid hB
    have HW := Lib.hid hbw
    have hszw := hbw.size
    have hltw := isB_lt hB
    have hkl : k ≤ ts.length := by omega
    clear hk hB hbw
    by_cases hlt : k < ts.length
    · obtain ⟨t, ht⟩ : ∃ t, ts[k]? = some t := ⟨_, List.getElem?_eq_getElem hlt⟩
      obtain ⟨c0, cf⟩ := (H.out.under HW.out ha).all ht
      have c1 := cf 1 _ (by omega) rfl
      have c2 := cf 2 _ (by omega) rfl
      have c3 := cf 3 _ (by omega) rfl
      have c4 := cf 4 _ (by omega) rfl
      clear cf
      have hss := spellT_succ ht
      have hle2 := spellT_le ts (k + 1)
      rw [hss] at hle2
      have HS := Lib.hid hss
      clear ht hss
      by_cases h0 : k = 0
      · subst h0
        have c0 : wr.cell? a = some (.int .i64 t.sort) := by simpa [Addr.add] using c0
        have c1 : wr.cell? { block := a.block, off := a.off + 1 } = some (.string (str t.text)) := by simpa [Addr.add] using c1
        have c2 : wr.cell? { block := a.block, off := a.off + 2 } = some (.int .i64 t.num) := by simpa [Addr.add] using c2
        have c3 : wr.cell? { block := a.block, off := a.off + 3 } = some (.int .i64 t.line) := by simpa [Addr.add] using c3
        have c4 : wr.cell? { block := a.block, off := a.off + 4 } = some (.int .i64 t.col) := by simpa [Addr.add] using c4
        simp only [if_true, List.nil_append, List.length_append] at hle2
        go_wp2_with (go_at_call 38; refine (writeString_any w.heap.size w.heap.size _ _ _ (HB.out.alloc _) (by rw [byteCells_len, str_size]; omega) (by simp; omega)).mono ?_; rintro e w2 ⟨rfl, hA2, hb2, ho2⟩; have HA2 := Lib.hid hA2; clear hA2 ho2)
        go_roundg (ts.length - 1)
        case measure => have := HK.out; omega
        case rel => exact ⟨1, by omega, rfl, by rw [HS.out]; exact isB_one HA2.out, (HW.out.alloc (by omega) _).trans hb2⟩
      · have hpos : 0 < k := by omega
        rw [if_neg h0] at hle2
        simp only [List.length_append, List.length_singleton] at hle2
        have HN0 := Lib.hid h0
        clear h0
        go_wp2_with (first | (go_at_call 37; refine (writeByte_any w.heap.size w.heap.size _ _ _ (HB.out.alloc _) (by rw [byteCells_len]; omega) (by simp; omega)).mono ?_; rintro e w1 ⟨rfl, hA1, hb1, ho1⟩; have HA1 := Lib.hid hA1; have hN := ho1 wr.heap.size _ (heap_alloc_new wr _) (by simp; omega) (by intro c fz h; cases h); obtain ⟨x0, x1, x2, x3, x4⟩ := tok_row hN; have hs1 := hb1.size; simp at hs1; clear hA1 ho1 hN) | (go_at_call 38; refine (writeString_any w.heap.size w.heap.size _ _ _ (.inr HA1.out) (by rw [List.length_append, byteCells_len, str_size]; simp; omega) (by omega)).mono ?_; rintro e w2 ⟨rfl, hA2, hb2, ho2⟩; have HA2 := Lib.hid hA2; clear hA2 ho2))
        go_roundg (ts.length - (k + 1))
        case measure => have := HK.out; omega
        case rel => exact ⟨k + 1, by omega, by go_num, by rw [HS.out, if_neg HN0.out]; exact isB_two HA2.out, ((HW.out.alloc (by omega) _).trans hb1).trans hb2⟩
    · have hke : k = ts.length := by omega
      have HKE := Lib.hid hke
      clear hke
      go_wp2_with (go_at_call 39; refine (string_any w.heap.size w.heap.size _ _ HB.out (by omega)).mono ?_; rintro e w3 ⟨rfl, hb3⟩)
      go_ret
      exact ⟨ret_str (by rw [HKE.out, spellT_all]; rfl), HW.out.trans hb3⟩
theorem spell_nil (w : World) : Calls Tryd.prog 19 #[.slice none 0 0] w fun e w' => e = .returned (.string (str [])) ∧ Below w.heap.size w w' := by
  go_enter Tryd.func19, Tryd.ntmps19
  go_wp2_with fail
  go_loop [8] (fun v => v = .int .i64 0) (fun _ => 0)
  case atStart => rfl
  case round =>
    subst hrel
    go_wp2_with (go_at_call 39; refine (string_any w.heap.size w.heap.size [] _ (Lib.IsBuilderF.of (Lib.fresh_isBuilder 53 5 w)) (by simp)).mono ?_; rintro e w3 ⟨rfl, hb3⟩)
    go_ret
    exact ⟨rfl, ((Below.refl _ _).alloc (Nat.le_refl _) _).trans hb3⟩
end Go.Proofs.YtnoifghbcfoaaaaDoor
