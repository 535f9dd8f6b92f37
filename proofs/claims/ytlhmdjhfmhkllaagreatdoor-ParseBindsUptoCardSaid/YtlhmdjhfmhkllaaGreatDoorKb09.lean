/-
  Texts joined.
-/
import Derived.Shelf.Strings.BuilderK
import Derived.Test.YtlhmdjhfmhkllaaGreatDoorShelf
import Derived.Test.YtlhmdjhfmhkllaaGreatDoorKb07
namespace Go.Proofs.YtlhmdjhfmhkllaaGreatDoor
open Go.RowKit
theorem X169 : Builder.Extra Tryz.prog Tryz.lays169_ren := Tryz.Builder_Extra_169
theorem lies_text : liesAt Tryz.prog Tryz.prog.depth 86 (3 / Tryz.prog.cellsOf 86) 0 84 1 = true := by kernel_rfl
/-- block b is a text of the call's own (from B on) with the bytes bs; g: something is there -/
def TextAt (B b : Nat) (p : Value) (bs : List Value) (g : Bool) (w : World) : Prop :=
  B ≤ b ∧ ∃ v, w.heap[b]? = some (.cells #[p, v, .bool g] 86 (0, 0)) ∧ w.ownsRowF B 5 1 v bs.length bs ∧ v.ownBlock ≠ some b
def IsText (B b : Nat) (bs : List Value) (g : Bool) (w : World) : Prop := TextAt B b (.pointer none) bs g w ∨ TextAt B b (.pointer (some ⟨b, 0, none⟩)) bs g w
section
variable {B b : Nat} {p : Value} {bs : List Value} {g : Bool} {w w' : World}
theorem TextAt.lt (h : TextAt B b p bs g w) : b < w.heap.size := by obtain ⟨_, v, hb, _⟩ := h; exact lt_of_heap hb
theorem IsText.lt (h : IsText B b bs g w) : b < w.heap.size := h.elim (fun x => x.lt) (fun x => x.lt)
theorem TextAt.alloc (h : TextAt B b p bs g w) (o : Obj) : TextAt B b p bs g (w.alloc o) := by
  have hlt := h.lt; obtain ⟨hB, v, hb, hown, hne⟩ := h; exact ⟨hB, v, (Lib.alloc_old w o b hlt).trans hb, hown.kept (World.grownBy_alloc w o none) (by cases hv : v.ownBlock <;> simp), hne⟩
theorem IsText.alloc (h : IsText B b bs g w) (o : Obj) : IsText B b bs g (w.alloc o) := h.elim (fun x => .inl (x.alloc o)) (fun x => .inr (x.alloc o))
theorem TextAt.used (h : TextAt B b p bs g w) (q : Value) : TextAt B b q bs g (w.setCell ⟨b, 0, none⟩ q) := by
  obtain ⟨hB, v, hb, hown, hne⟩ := h; refine ⟨hB, v, ?_, ?_, hne⟩
  · simp [World.setCell, Array.getElem?_modify, hb]
  · exact hown.kept (row := some b) ⟨rfl, rfl, rfl, by simp [World.setCell], fun k _ hk => Below.heap_setCell _ _ _ _ (fun e => hk (by simp [e]))⟩ (Or.inr hne)
theorem TextAt.begun (h : TextAt B b p bs g w) (g' : Bool) : TextAt B b p bs g' (w.setCell ⟨b, 2, none⟩ (.bool g')) := by
  obtain ⟨hB, v, hb, hown, hne⟩ := h; refine ⟨hB, v, ?_, ?_, hne⟩
  · simp [World.setCell, Array.getElem?_modify, hb]
  · exact hown.kept (row := some b) ⟨rfl, rfl, rfl, by simp [World.setCell], fun k _ hk => Below.heap_setCell _ _ _ _ (fun e => hk (by simp [e]))⟩ (Or.inr hne)
theorem text_put {v v' : Value} {bs' : List Value} (hB : B ≤ b) (hb : w.heap[b]? = some (.cells #[p, v, .bool g] 86 (0, 0))) (hown : w.ownsRowF B 5 1 v' bs'.length bs') : TextAt B b p bs' g (w.setCell ⟨b, 1, none⟩ v') := by
  have hne := Lib.ownBlock_neF hown hb (by decide); refine ⟨hB, v', ?_, ?_, hne⟩
  · simp [World.setCell, Array.getElem?_modify, hb]
  · exact hown.kept (row := some b) ⟨rfl, rfl, rfl, by simp [World.setCell], fun k _ hk => Below.heap_setCell _ _ _ _ (fun e => hk (by simp [e]))⟩ (Or.inr hne)
theorem text_fresh (w : World) : IsText w.heap.size w.heap.size [] false (w.alloc (.cells #[.pointer none, .slice none 0 0, .bool false] 86)) :=
  .inl ⟨Nat.le_refl _, .slice none 0 0, heap_alloc_new w _, World.ownsRowF_of (World.ownsRow_nil _ _ _ _), by simp [Value.ownBlock]⟩
end
/-- what writing leaves: what lay below as it lay; every block but the text's and rows of bytes as it was -/
def TKept (B b : Nat) (w w' : World) : Prop := Below B w w' ∧ Lib.OthersKept 5 (some b) w w'
theorem TKept.refl (B b : Nat) (w : World) : TKept B b w w := ⟨Below.refl _ _, Lib.OthersKept.refl _ _ _⟩
theorem TKept.trans {B b : Nat} {w w1 w2 : World} (h : TKept B b w w1) (k : TKept B b w1 w2) : TKept B b w w2 := ⟨h.1.trans k.1, h.2.trans k.2⟩
set_option maxHeartbeats 1000000 in
set_option maxRecDepth 100000 in
theorem tCopy_used (b : Nat) (w : World) (h0 : w.cell? ⟨b, 0, none⟩ = some (.pointer (some ⟨b, 0, none⟩))) :
    Calls Tryz.prog 153 #[.pointer (some ⟨b, 0, none⟩)] w fun e w' => e = .returned (.tuple #[]) ∧ w' = w := by
  obtain ⟨j, hj, _⟩ := Option.map_eq_some_iff.1 X169.sizeBuilder; go_enter Tryz.func153, Tryz.ntmps153
  go_wp2; rw [Lib.run_neq_ptr_same w _ Tryz.underlying81 hj]; go_wp2; go_end0
  exact ⟨rfl, rfl⟩
set_option maxHeartbeats 1000000 in
set_option maxRecDepth 100000 in
theorem tCopy_fresh (b : Nat) (w : World) (h0 : w.cell? ⟨b, 0, none⟩ = some (.pointer none)) (hsh : w.shape? b = some (86, 3)) (hfz : w.frozen? ⟨b, 0, none⟩ = false) :
    Calls Tryz.prog 153 #[.pointer (some ⟨b, 0, none⟩)] w fun e w' => e = .returned (.tuple #[]) ∧ w' = w.setCell ⟨b, 0, none⟩ (.pointer (some ⟨b, 0, none⟩)) := by
  obtain ⟨j, hj, hjs⟩ := Option.map_eq_some_iff.1 X169.sizeBuilder; go_enter Tryz.func153, Tryz.ntmps153
  go_wp2; rw [Lib.run_to_unsafe w ⟨b, 0, none⟩ Tryz.underlying81 Tryz.underlying175 hj (by rw [hjs]; decide) hsh (Nat.zero_lt_succ 2)]; simp only [Result.andThen]; rw [Oper.upon_value]; go_wp2; rw [run_callFunc_extern Tryz.func175 (by kernel_rfl) (by kernel_rfl) (by kernel_rfl) (e := Extern.AbiNoEscape.same) (by kernel_rfl)]; rw [Lib.run_noEscape]; simp only [Result.andThen]; rw [Oper.upon_value]; go_wp2; rw [Lib.run_from_unsafe w ⟨b, 0, none⟩ Tryz.underlying175 Tryz.underlying81 hj hsh lies_text]; simp only [Result.andThen]; rw [Oper.upon_value]; go_wp2; go_end0
  exact ⟨rfl, rfl⟩
theorem tCopy_any (B b : Nat) (bs : List Value) (g : Bool) (w : World) (h : IsText B b bs g w) :
    Calls Tryz.prog 153 #[.pointer (some ⟨b, 0, none⟩)] w fun e w' => e = .returned (.tuple #[]) ∧ TextAt B b (.pointer (some ⟨b, 0, none⟩)) bs g w' ∧ TKept B b w w' := by
  rcases h with h | h
  · have h' := h; obtain ⟨hB, v, hb, _⟩ := h'; refine (tCopy_fresh b w (by simp [World.cell?, hb]) (by simp [World.shape?, hb]) (by simp [World.frozen?, hb])).mono ?_; rintro e w' ⟨rfl, rfl⟩; exact ⟨rfl, h.used _, (Below.refl B w).setCell (p := ⟨b, 0, none⟩) h.1 _, (Lib.OthersKept.refl _ _ w).setCell ⟨b, 0, none⟩ rfl _⟩
  · have h' := h; obtain ⟨hB, v, hb, _⟩ := h'; refine (tCopy_used b w (by simp [World.cell?, hb])).mono ?_; rintro e w' ⟨rfl, rfl⟩; exact ⟨rfl, h, TKept.refl _ _ _⟩
set_option maxHeartbeats 2000000 in
set_option maxRecDepth 100000 in
theorem tByte_any (B b : Nat) (bs : List Value) (g : Bool) (c : Int) (w : World) (h : IsText B b bs g w) (hlen : bs.length + 1 ≤ 140737488355328) (hBw : B ≤ w.heap.size) :
    Calls Tryz.prog 118 #[.pointer (some ⟨b, 0, none⟩), .int .u8 c] w fun e w' => e = .returned .nilIface ∧ TextAt B b (.pointer (some ⟨b, 0, none⟩)) (bs ++ [.int .u8 c]) g w' ∧ TKept B b w w' := by
  obtain ⟨i0, hi, hz0, hz1, hz2⟩ := info_parts X169.infoByte; go_enter Tryz.func118, Tryz.ntmps118
  go_wp2_with (go_at_call 153; refine (tCopy_any B b bs g _ h).mono ?_)
  rintro e w1 ⟨rfl, h1, hb1, hk1⟩; obtain ⟨hB, v, hbk, hown, hne⟩ := h1; have c0 : w1.cell? ⟨b, 0, none⟩ = some (.pointer (some ⟨b, 0, none⟩)) := (by rw [Lib.cell_of_heap hbk]; rfl); have c1 : w1.cell? ⟨b, 1, none⟩ = some v := (by rw [Lib.cell_of_heap hbk]; rfl); go_wp2_with (at_builtin; refine wpList_append_ownF _ rfl _ _ 82 rfl B 5 i0 (.int .u8 0) 1 1 Tryz.underlying82 hi hz0 hz1 hz2 rfl (by decide) _ _ _ rfl (hown.alloc _) ⟨w1.heap.size, 0, none⟩ 1 1 [.int .u8 c] rfl rfl ?c1 ?c2 ?c3 ?c4 ?c5 ?_)
  case c1 =>
    intro j u hj; match j, hj with
    | 0, hj => simp at hj; subst hj; simp [Addr.add]
  case c2 => intro u hu; simp at hu; subst hu; rfl
  case c3 => unfold maxLen; omega
  case c4 => omega
  case c5 => have := hb1.size; simp; omega
  intro v' w2 hown' hgrow _; have hlt := lt_of_heap hbk; have hb2 : w2.heap[b]? = some (.cells #[.pointer (some ⟨b, 0, none⟩), v, .bool g] 86 (0, 0)) := by
    rw [hgrow.block b (by simp; omega) (fun e => hne e.symm), Lib.alloc_old w1 _ b hlt]; exact hbk
  have d0 : w2.cell? ⟨b, 0, none⟩ = some (.pointer (some ⟨b, 0, none⟩)) := (by rw [Lib.cell_of_heap hb2]; rfl); have d1 : w2.cell? ⟨b, 1, none⟩ = some v := (by rw [Lib.cell_of_heap hb2]; rfl); have f1 : w2.frozen? ⟨b, 1, none⟩ = false := Lib.frozen_of_heap hb2 1; obtain ⟨gg, cap, rfl⟩ : ∃ gg cap, v' = .slice (some ⟨gg, 0, none⟩) (bs.length + 1) cap := by
    rcases hown'.2 with ⟨_, h0⟩ | ⟨gg, cap, cur, fz, hv, _⟩
    · omega
    · exact ⟨gg, cap, hv⟩
  go_wp2; go_ret; refine ⟨rfl, ?_, ?_, ((hk1.alloc _).grown hgrow (Lib.ownsRowF_kind (hown.alloc _))).setCell ⟨b, 1, none⟩ rfl _⟩
  · exact text_put hB hb2 (bs' := bs ++ [.int .u8 c]) (by simpa using hown')
  · exact ((hb1.alloc (by have := hb1.size; omega) _).grown hgrow (by have := hb1.size; simp; omega) (fun k hk => (hown.lt k hk).1)).setCell (p := ⟨b, 1, none⟩) hB _
set_option maxHeartbeats 2000000 in
set_option maxRecDepth 100000 in
theorem tString_any (B b : Nat) (bs : List Value) (g : Bool) (s : ByteArray) (w : World) (h : IsText B b bs g w) (hlen : bs.length + s.size ≤ 140737488355328) (hBw : B ≤ w.heap.size) :
    Calls Tryz.prog 119 #[.pointer (some ⟨b, 0, none⟩), .string s] w fun e w' => e = .returned (.tuple #[.int .i64 s.size, .nilIface]) ∧ TextAt B b (.pointer (some ⟨b, 0, none⟩)) (bs ++ Lib.strCells s) g w' ∧ TKept B b w w' := by
  obtain ⟨i0, hi, hz0, hz1, hz2⟩ := info_parts X169.infoByte; go_enter Tryz.func119, Tryz.ntmps119
  go_wp2_with (go_at_call 153; refine (tCopy_any B b bs g _ h).mono ?_)
  rintro e w1 ⟨rfl, h1, hb1, hk1⟩; obtain ⟨hB, v, hbk, hown, hne⟩ := h1; have c0 : w1.cell? ⟨b, 0, none⟩ = some (.pointer (some ⟨b, 0, none⟩)) := (by rw [Lib.cell_of_heap hbk]; rfl); have c1 : w1.cell? ⟨b, 1, none⟩ = some v := (by rw [Lib.cell_of_heap hbk]; rfl); go_wp2_with (at_builtin; refine Lib.wpList_append_own_stringF _ rfl _ _ 82 9 rfl B 5 i0 Tryz.underlying82 Tryz.underlying9 hi hz0 hz1 hz2 _ _ _ rfl hown s rfl ?c3 ?c4 ?c5 ?_)
  case c3 => unfold maxLen; omega
  case c4 => omega
  case c5 => have := hb1.size; omega
  intro v' w2 hown' hgrow _; have hlt := lt_of_heap hbk; have hb2 : w2.heap[b]? = some (.cells #[.pointer (some ⟨b, 0, none⟩), v, .bool g] 86 (0, 0)) := by
    rw [hgrow.block b hlt (fun e => hne e.symm)]; exact hbk
  have d0 : w2.cell? ⟨b, 0, none⟩ = some (.pointer (some ⟨b, 0, none⟩)) := (by rw [Lib.cell_of_heap hb2]; rfl); have d1 : w2.cell? ⟨b, 1, none⟩ = some v := (by rw [Lib.cell_of_heap hb2]; rfl); have f1 : w2.frozen? ⟨b, 1, none⟩ = false := Lib.frozen_of_heap hb2 1; obtain ⟨ao, n', cap, rfl⟩ : ∃ ao n' cap, v' = .slice ao n' cap := by
    rcases hown'.2 with ⟨hv, _⟩ | ⟨gg, cap, cur, fz, hv, _⟩
    · exact ⟨_, _, _, hv⟩
    · exact ⟨_, _, _, hv⟩
  go_wp2; go_ret2
  refine ⟨rfl, ?_, ?_, (hk1.grown hgrow (Lib.ownsRowF_kind hown)).setCell ⟨b, 1, none⟩ rfl _⟩
  · exact text_put hB hb2 (bs' := bs ++ Lib.strCells s) (by simpa [Lib.strCells_length] using hown')
  · exact (hb1.grown hgrow (by have := hb1.size; omega) (fun k hk => (hown.lt k hk).1)).setCell (p := ⟨b, 1, none⟩) hB _
end Go.Proofs.YtlhmdjhfmhkllaaGreatDoor

namespace Go.Proofs.YtlhmdjhfmhkllaaGreatDoor
open Go.RowKit
/-- writing to the text at b keeps the block n -/
def Kept1 (B b : Nat) (w : World) (n : Nat) : Prop := n < B ∨ (n ≠ b ∧ ∃ cs T fz, w.heap[n]? = some (.cells cs T fz) ∧ T ≠ 5)
theorem Kept1.heap {B b n : Nat} {w w' : World} (h : Kept1 B b w n) (hk : TKept B b w w') : w'.heap[n]? = w.heap[n]? := by
  rcases h with h | ⟨hb, cs, T, fz, hh, hT⟩
  · exact hk.1.block n h
  · rw [hh]; refine hk.2 n _ hh (fun e => hb (by simpa using e)) fun c' fz' e => ?_; injection e with _ e; exact hT e
/-- tokens that stand where writing to the text at b keeps them -/
def ToksAt (B b : Nat) (w : World) (v : Value) (l : List Tx) : Prop := StrsAt w v l ∧ ∀ A n c, v = .slice (some A) n c → l ≠ [] → Kept1 B b w A.block
def TextL (B b : Nat) (bs : Tx) (g : Bool) (w : World) : Prop := IsText B b (Lib.byteCells bs) g w
theorem byte_snoc (bs : Tx) : Lib.byteCells bs ++ [.int .u8 32] = Lib.byteCells (bs ++ [32]) := by rw [Lib.byteCells_append]; rfl
theorem byte_str (bs x : Tx) : Lib.byteCells bs ++ Lib.strCells (str x) = Lib.byteCells (bs ++ x) := by rw [Lib.byteCells_append]; rfl
theorem ToksAt.cell {B b : Nat} {w w' : World} {A : Option Addr} {n c : Nat} {l : List Tx} (h : ToksAt B b w (.slice A n c) l) (hk : TKept B b w w') {k : Nat} {x : Tx} (hx : l[k]? = some x) : ∃ a, A = some a ∧ w'.cell? (a.add (k * 1)) = some (.string (str x)) := by
  obtain ⟨⟨A', c', e, _, _, hE⟩, hK⟩ := h; cases e; obtain ⟨L, hEL, rfl, _⟩ := hE k x hx; obtain ⟨a, rfl, ha, _, d0⟩ := elem1 hEL; refine ⟨a, rfl, ?_⟩; have := (hK a _ _ rfl (fun e => by rw [e] at hx; cases hx)).heap hk; rw [World.cell?, add_block, this, ← add_block a (k * 1), ← World.cell?]; exact d0
set_option maxHeartbeats 1000000 in
theorem put_any {B b : Nat} {bs : Tx} {g0 : Bool} {v : Value} {l : List Tx} (w : World) (h : TextL B b bs g0 w) (hl : ToksAt B b w v l) (hlen : bs.length + (putL g0 l).length ≤ 140737488355328) (hBw : B ≤ w.heap.size) :
    Calls Tryz.prog 69 #[.pointer (some ⟨b, 0, none⟩), v] w fun e w' => e = .returned (.tuple #[]) ∧ TextL B b (bs ++ putL g0 l) (g0 || !l.isEmpty) w' ∧ TKept B b w w' := by
  have hT := Lib.hid hl; obtain ⟨⟨A, c, rfl, hc, hm, _⟩, _⟩ := hl; have hlm : l.length ≤ 9223372036854775807 := (by unfold maxLen at hm; omega); have HL := Lib.hid hlen; have H0 := Lib.hid h; have HB := Lib.hid hBw; clear hc hm hlen h hBw; go_enter Tryz.func69, Tryz.ntmps69
  go_wp2_with fail
  go_loopg [8] l.length (fun g v wr => ∃ k : Nat, k + g = l.length ∧ v = .int .i64 k ∧ TextL B b (bs ++ putL g0 (l.take k)) (g0 || !(l.take k).isEmpty) wr ∧ TKept B b w wr)
  case atStart => exact ⟨0, by omega, rfl, by simpa [putL] using H0.out, TKept.refl _ _ _⟩
  case round =>
    obtain ⟨k, hkg, rfl, hto, hbw⟩ := hrel; have HK := Lib.hid hkg; have HW := Lib.hid hbw; have HTO := Lib.hid hto; have HBR := Lib.hid (Nat.le_trans HB.out hbw.1.size); have hkl : k ≤ l.length := (by omega); clear hkg hbw hto; by_cases hlt : k < l.length
    · obtain ⟨x, hx⟩ : ∃ x, l[k]? = some x := ⟨_, List.getElem?_eq_getElem hlt⟩; obtain ⟨a, rfl, d0⟩ := hT.out.cell HW.out hx; rw [Nat.mul_one] at d0; have HS := Lib.hid (show putL g0 (l.take (k + 1)) = putL g0 (l.take k) ++ putL (g0 || !(l.take k).isEmpty) [x] by rw [take_snoc hx, putL_app]); have HF := Lib.hid (show (g0 || !(l.take (k + 1)).isEmpty) = true by rw [take_snoc hx]; simp)
      have HN := Lib.hid (show bs.length + (putL g0 (l.take (k + 1))).length ≤ 140737488355328 by
        have e : putL g0 l = putL g0 (l.take (k + 1)) ++ putL (g0 || !(l.take (k + 1)).isEmpty) (l.drop (k + 1)) := (by rw [← putL_app, List.take_append_drop]); have := HL.out; rw [e, List.length_append] at this; omega)
      clear hx; have HT1 := HTO.out; generalize hg1 : (g0 || !(l.take k).isEmpty) = g1 at HT1 HS; generalize hb1 : bs ++ putL g0 (l.take k) = bs1 at HT1; have HB1 := Lib.hid hb1; clear hg1 hb1 HTO; have HT2 := Lib.hid HT1; obtain ⟨p, hp⟩ : ∃ p, TextAt B b p (Lib.byteCells bs1) g1 wr := HT1.elim (fun h => ⟨_, h⟩) (fun h => ⟨_, h⟩); obtain ⟨hBb, vv, hbk, _, _⟩ := hp; have c2 : wr.cell? ⟨b, 2, none⟩ = some (.bool g1) := (by rw [Lib.cell_of_heap hbk]; rfl); have f2 : wr.frozen? ⟨b, 2, none⟩ = false := Lib.frozen_of_heap hbk 2; clear HT1 hbk; cases g1
      · have HQ := Lib.hid (show bs1.length + x.length ≤ 140737488355328 by have := HN.out; rw [HS.out, ← List.length_append, ← List.append_assoc, HB1.out] at this; simpa [putL] using this); have HP := Lib.hid (show TextL B b bs1 true (wr.setCell ⟨b, 2, none⟩ (.bool true)) from HT2.out.elim (fun h => .inl (h.begun true)) (fun h => .inr (h.begun true))); have HKS := Lib.hid (show TKept B b wr (wr.setCell ⟨b, 2, none⟩ (.bool true)) from ⟨(Below.refl B wr).setCell (p := ⟨b, 2, none⟩) hBb _, (Lib.OthersKept.refl _ _ wr).setCell ⟨b, 2, none⟩ rfl _⟩); go_wp2_with (go_at_call 119; refine (tString_any B b _ true (str x) _ HP.out (by rw [Lib.byteCells_length]; exact HQ.out) (Nat.le_trans HBR.out HKS.out.1.size)).mono ?_; rintro e w1 ⟨rfl, ht1, hk1⟩)
        rw [byte_str] at ht1; go_roundg (l.length - (k + 1))
        case measure => have := HK.out; omega
        case rel => exact ⟨k + 1, by omega, by go_num, by rw [HF.out, HS.out, ← List.append_assoc, HB1.out]; simpa [putL] using (show TextL B b (bs1 ++ x) true w1 from .inr ht1), HW.out.trans (HKS.out.trans hk1)⟩
      · have HQ := Lib.hid (show bs1.length + (x.length + 1) ≤ 140737488355328 by have := HN.out; rw [HS.out, ← List.length_append, ← List.append_assoc, HB1.out] at this; simpa [putL] using this); have HQ2 := Lib.hid (show (Lib.byteCells (bs1 ++ [32])).length + (str x).size ≤ 140737488355328 by rw [Lib.byteCells_length, List.length_append]; have := HQ.out; simp only [str_size, List.length_cons, List.length_nil]; omega)
        go_wp2_with (first
          | (go_at_call 118; refine (tByte_any B b _ true 32 _ HT2.out (by rw [Lib.byteCells_length]; have := HQ.out; omega) HBR.out).mono ?_; rintro e w1 ⟨rfl, ht1, hk1⟩; rw [byte_snoc] at ht1; have HTW := Lib.hid ht1; have HKW := Lib.hid hk1; obtain ⟨_, vv1, hbk1, _, _⟩ := ht1; have e2 : w1.cell? ⟨b, 2, none⟩ = some (.bool true) := (by rw [Lib.cell_of_heap hbk1]; rfl); have k2 : w1.frozen? ⟨b, 2, none⟩ = false := Lib.frozen_of_heap hbk1 2; clear hbk1 hk1; have HP := Lib.hid (show TextL B b (bs1 ++ [32]) true (w1.setCell ⟨b, 2, none⟩ (.bool true)) from .inr (HTW.out.begun true)); have HKS := Lib.hid (show TKept B b wr (w1.setCell ⟨b, 2, none⟩ (.bool true)) from HKW.out.trans ⟨(Below.refl B w1).setCell (p := ⟨b, 2, none⟩) hBb _, (Lib.OthersKept.refl _ _ w1).setCell ⟨b, 2, none⟩ rfl _⟩))
          | (go_at_call 119; refine (tString_any B b _ true (str x) _ HP.out HQ2.out (Nat.le_trans HBR.out HKS.out.1.size)).mono ?_; rintro e w2 ⟨rfl, ht2, hk2⟩))
        rw [byte_str] at ht2; go_roundg (l.length - (k + 1))
        case measure => have := HK.out; omega
        case rel => exact ⟨k + 1, by omega, by go_num, by rw [HF.out, HS.out, ← List.append_assoc, HB1.out]; simpa [putL] using (show TextL B b (bs1 ++ [32] ++ x) true w2 from .inr ht2), HW.out.trans (HKS.out.trans hk2)⟩
    · have hke : k = l.length := by omega
      have HKE := Lib.hid hke; clear hke; go_wp2_with fail
      go_end0
      refine ⟨rfl, ?_, HW.out⟩; have := HTO.out; rwa [HKE.out, List.take_length] at this
end Go.Proofs.YtlhmdjhfmhkllaaGreatDoor

namespace Go.Proofs.YtlhmdjhfmhkllaaGreatDoor
open Go.RowKit
/-- the text at b holds the tokens ts -/
def TextW (B b : Nat) (ts : List Tx) (w : World) : Prop := TextL B b (putL false ts) (!ts.isEmpty) w ∧ B ≤ w.heap.size
def SizeOk (ts : List Tx) : Prop := (putL false ts).length ≤ 140737488355328
theorem SizeOk.left {a r : List Tx} (h : SizeOk (a ++ r)) : SizeOk a := by
  unfold SizeOk at h ⊢; rw [putL_app, List.length_append] at h; omega
theorem TextW.alloc {B b : Nat} {ts : List Tx} {w : World} (h : TextW B b ts w) (o : Obj) : TextW B b ts (w.alloc o) := ⟨IsText.alloc h.1 o, by have := h.2; simp; omega⟩
theorem TextW.lt {B b : Nat} {ts : List Tx} {w : World} (h : TextW B b ts w) : b < w.heap.size := IsText.lt h.1
/-- what putting the tokens xs leaves -/
def PutPost (B b : Nat) (ts : List Tx) (w : World) (e : Ending) (w' : World) : Prop := e = .returned (.tuple #[]) ∧ TextW B b ts w' ∧ TKept B b w w'
def tks (l : List ByteArray) : List Tx := l.map fun x => x.data.toList
theorem TKept.alloc {B b : Nat} {w w' : World} (h : TKept B b w w') (hB : B ≤ w.heap.size) (o : Obj) : TKept B b w (w'.alloc o) := ⟨h.1.alloc (by have := h.1.size; omega) o, h.2.alloc o⟩
theorem put_made {B b : Nat} {ts : List Tx} {W : World} (xs : List ByteArray) (h : TextW B b ts W) (hlen : SizeOk (ts ++ tks xs)) (hx : ∀ x ∈ xs, x.size ≤ maxLen) (hn : xs.length ≤ maxLen) :
    Calls Tryz.prog 69 #[.pointer (some ⟨b, 0, none⟩), .slice (some ⟨W.heap.size, 0, none⟩) xs.length xs.length] (W.alloc (.cells (xs.map Value.string).toArray 9)) (PutPost B b (ts ++ tks xs) W) := by
  have hh := heap_alloc_new W (.cells (xs.map Value.string).toArray 9); have hne : W.heap.size ≠ b := fun e => by have := h.lt; omega
  have hw := h.alloc (.cells (xs.map Value.string).toArray 9); have hv : ToksAt B b (W.alloc (.cells (xs.map Value.string).toArray 9)) (.slice (some ⟨W.heap.size, 0, none⟩) xs.length xs.length) (tks xs) := by
    refine ⟨⟨some ⟨W.heap.size, 0, none⟩, xs.length, by simp [tks], by simp [tks], hn, fun i x hx' => ?_⟩, fun A n c e _ => ?_⟩
    · obtain ⟨y, hy, rfl⟩ : ∃ y, xs[i]? = some y ∧ y.data.toList = x := by simpa [tks] using hx'
      refine ⟨[.string y], ⟨_, rfl, fun j u hu => ?_⟩, by rw [str_eq], by have := hx y (List.mem_of_getElem? hy); rw [Array.length_toList]; exact this⟩; match j, hu with
      | 0, hu =>
        simp at hu; subst hu; rw [add_zero]; have ha : (⟨W.heap.size, 0, none⟩ : Addr).add (i * [Value.string y].length) = ⟨W.heap.size, i, none⟩ := (by unfold Addr.add; split <;> simp_all)
        rw [ha, cell_of_row _ _ _ _ _ _ hh]; simp [hy]
    · injection e with e _ _; injection e with e; subst e; exact .inr ⟨hne, _, _, _, hh, by decide⟩
  have hp : putL false ts ++ putL (!ts.isEmpty) (tks xs) = putL false (ts ++ tks xs) := (by rw [putL_app]; simp); refine (put_any _ hw.1 hv (by have := hlen; unfold SizeOk at this; rw [← hp, List.length_append] at this; exact this) hw.2).mono ?_; rintro e w' ⟨rfl, h1, h2⟩; refine ⟨rfl, ⟨?_, Nat.le_trans hw.2 h2.1.size⟩, ((TKept.refl B b W).alloc h.2 _).trans h2⟩; rw [hp] at h1; have : (!ts.isEmpty || !(tks xs).isEmpty) = !(ts ++ tks xs).isEmpty := by cases ts <;> simp
  rwa [this] at h1
theorem put1 {B b : Nat} {ts : List Tx} {W : World} {x : ByteArray} (h : TextW B b ts W) (hlen : SizeOk (ts ++ [x.data.toList])) (hx : x.size ≤ maxLen) :
    Calls Tryz.prog 69 #[.pointer (some ⟨b, 0, none⟩), .slice (some ⟨W.heap.size, 0, none⟩) 1 1] (W.alloc (.cells #[.string x] 9)) (PutPost B b (ts ++ [x.data.toList]) W) :=
  put_made [x] h hlen (by simpa using hx) (by simp only [List.length_cons, List.length_nil]; decide)
theorem put2 {B b : Nat} {ts : List Tx} {W : World} {x y : ByteArray} (h : TextW B b ts W) (hlen : SizeOk (ts ++ [x.data.toList, y.data.toList])) (hx : x.size ≤ maxLen) (hy : y.size ≤ maxLen) :
    Calls Tryz.prog 69 #[.pointer (some ⟨b, 0, none⟩), .slice (some ⟨W.heap.size, 0, none⟩) 2 2] (W.alloc (.cells #[.string x, .string y] 9)) (PutPost B b (ts ++ [x.data.toList, y.data.toList]) W) :=
  put_made [x, y] h hlen (by simp [hx, hy]) (by simp only [List.length_cons, List.length_nil]; decide)
theorem put3 {B b : Nat} {ts : List Tx} {W : World} {x y z : ByteArray} (h : TextW B b ts W) (hlen : SizeOk (ts ++ [x.data.toList, y.data.toList, z.data.toList])) (hx : x.size ≤ maxLen) (hy : y.size ≤ maxLen) (hz : z.size ≤ maxLen) :
    Calls Tryz.prog 69 #[.pointer (some ⟨b, 0, none⟩), .slice (some ⟨W.heap.size, 0, none⟩) 3 3] (W.alloc (.cells #[.string x, .string y, .string z] 9)) (PutPost B b (ts ++ [x.data.toList, y.data.toList, z.data.toList]) W) :=
  put_made [x, y, z] h hlen (by simp [hx, hy, hz]) (by simp only [List.length_cons, List.length_nil]; decide)
theorem namesT_snoc (s : Tx) {l : List Tx} {k : Nat} {x : Tx} (h : l[k]? = some x) : namesT s (l.take (k + 1)) = namesT s (l.take k) ++ (if k = 0 then [x] else [s, x]) := by
  have hk : k < l.length := (List.getElem?_eq_some_iff.1 h).1; unfold namesT; rw [take_snoc h, List.map_append, List.map_cons, List.map_nil, sepT_snoc]; congr 1
  by_cases h0 : k = 0
  · subst h0; simp
  · have h1 : (l.take k).map (fun x => [x]) ≠ [] := by
      intro e; have := congrArg List.length e; rw [List.length_map, List.length_take, List.length_nil] at this; omega
    rw [if_neg h1, if_neg h0]; rfl
theorem SizeOk.take {ts : List Tx} {s : Tx} {l : List Tx} (h : SizeOk (ts ++ namesT s l)) (k : Nat) : SizeOk (ts ++ namesT s (l.take k)) := by
  have e : ∀ m : List Tx, ∃ r, namesT s (l.take k ++ m) = namesT s (l.take k) ++ r := by
    intro m; unfold namesT; rw [List.map_append]; cases hl : (l.take k).map fun x => [x] with
    | nil => exact ⟨_, by simp [sepT]; rfl⟩
    | cons y r => exact ⟨_, by simp only [List.cons_append, sepT, List.flatMap_append, ← List.append_assoc]; rfl⟩
  obtain ⟨r, hr⟩ := e (l.drop k); rw [List.take_append_drop] at hr; rw [hr, ← List.append_assoc] at h; exact h.left
set_option maxHeartbeats 1000000 in
theorem names_any {B b : Nat} {ts : List Tx} {v : Value} {l : List Tx} {s : Tx} (w : World) (h : TextW B b ts w) (hl : ToksAt B b w v l) (hlen : SizeOk (ts ++ namesT s l)) (hs : s.length ≤ maxLen) :
    Calls Tryz.prog 123 #[.pointer (some ⟨b, 0, none⟩), v, .string (str s)] w (PutPost B b (ts ++ namesT s l) w) := by
  have hT := Lib.hid hl; obtain ⟨⟨A, c, rfl, hc, hm, hE⟩, _⟩ := hl; have hlm : l.length ≤ 9223372036854775807 := (by unfold maxLen at hm; omega); have HE := Lib.hid (show ∀ (i : Nat) x, l[i]? = some x → x.length ≤ maxLen from fun i x hx => by obtain ⟨_, _, _, h⟩ := hE i x hx; exact h); have HL := Lib.hid hlen; have H0 := Lib.hid h; have HS := Lib.hid (show (str s).size ≤ maxLen from hs); clear hc hm hlen h hE hs; go_enter Tryz.func123, Tryz.ntmps123
  go_wp2_with fail
  go_loopg [10] l.length (fun g v wr => ∃ k : Nat, k + g = l.length ∧ v = .int .i64 k ∧ TextW B b (ts ++ namesT s (l.take k)) wr ∧ TKept B b w wr)
  case atStart => exact ⟨0, by omega, rfl, by simpa [namesT, sepT] using H0.out, TKept.refl _ _ _⟩
  case round =>
    obtain ⟨k, hkg, rfl, hto, hbw⟩ := hrel; have HK := Lib.hid hkg; have HW := Lib.hid hbw; have HTO := Lib.hid hto; have hkl : k ≤ l.length := (by omega); clear hkg hbw hto; by_cases hlt : k < l.length
    · obtain ⟨x, hx⟩ : ∃ x, l[k]? = some x := ⟨_, List.getElem?_eq_getElem hlt⟩; obtain ⟨a, rfl, d0⟩ := hT.out.cell HW.out hx; rw [Nat.mul_one] at d0; have HX := Lib.hid (show (str x).size ≤ maxLen from HE.out k x hx); have HN := Lib.hid (HL.out.take (k + 1)); have HE1 := Lib.hid (namesT_snoc s hx); clear hx; by_cases h0 : k = 0
      · subst h0; rw [add_zero] at d0; have HN1 := Lib.hid (show SizeOk (ts ++ namesT s (l.take 0) ++ [x]) by have := HN.out; rw [HE1.out, if_pos rfl, ← List.append_assoc] at this; exact this); go_wp2_with (go_at_call 69; refine (put1 HTO.out HN1.out HX.out).mono ?_; rintro e w1 ⟨rfl, ht1, hk1⟩)
        go_roundg (l.length - 1)
        case measure => have := HK.out; omega
        case rel => exact ⟨1, by omega, by go_num, by rw [HE1.out]; simp only [↓reduceIte, ← List.append_assoc]; exact ht1, HW.out.trans hk1⟩
      · have hk0 : 0 < k := by omega
        have HN2 := Lib.hid (show SizeOk (ts ++ namesT s (l.take k) ++ [(str s).data.toList] ++ [(str x).data.toList]) by have := HN.out; rw [HE1.out, if_neg h0] at this; simpa [str_toList] using this); have H00 := Lib.hid h0; clear h0
        go_wp2_with (first
          | (go_at_call 69; with_reducible refine (put1 HTO.out HN2.out.left HS.out).mono ?_
             rintro e w1 ⟨rfl, ht1, hk1⟩)
          | (go_at_call 69; with_reducible refine (put1 ht1 HN2.out HX.out).mono ?_
             rintro e w2 ⟨rfl, ht2, hk2⟩))
        go_roundg (l.length - (k + 1))
        case measure => have := HK.out; omega
        case rel => exact ⟨k + 1, by omega, by go_num, by rw [HE1.out, if_neg H00.out]; simpa [str_toList] using ht2, HW.out.trans (hk1.trans hk2)⟩
    · have hke : k = l.length := by omega
      have HKE := Lib.hid hke; clear hke; go_wp2_with fail
      go_end0
      refine ⟨rfl, ?_, HW.out⟩; have := HTO.out; rwa [HKE.out, List.take_length] at this
end Go.Proofs.YtlhmdjhfmhkllaaGreatDoor

namespace Go.Proofs.YtlhmdjhfmhkllaaGreatDoor
open Go.RowKit
/-- the contract of expr for one expression -/
def ExprC (B b : Nat) (w0 : World) (L : List Value) (x : Ex) : Prop := ∀ (w : World) (ts : List Tx), TextW B b ts w → Below w0.heap.size w0 w → SizeOk (ts ++ toksX x) →
  Calls Tryz.prog 36 #[.pointer (some ⟨b, 0, none⟩), .agg L.toArray] w (PutPost B b (ts ++ toksX x) w)
structure NodeC (B b : Nat) (w0 : World) (nm : Tx) (cs : List Tx) (ks : List Ex) (cv : Value) (A : Option Addr) (c : Nat) (C : Nat → List Value) : Prop where
  size : w0.heap.size ≤ B
  hnm : (str nm).size ≤ maxLen
  hcs : StrsAt w0 cv cs
  hl : ks.length ≤ c
  hc : c ≤ maxLen
  hk : ∀ (i : Nat) y, ks[i]? = some y → ElemAt w0 A i (C i)
  hx : ∀ (i : Nat) y, ks[i]? = some y → ExAt w0 (C i) y
  ih : ∀ (i : Nat) y, ks[i]? = some y → ExprC B b w0 (C i) y
theorem box_kept {B b N : Nat} {W w1 : World} {cs : Array Value} {T : TypeId} (h : TKept B b W w1) (hb : W.heap[N]? = some (.cells cs T (0, 0))) (hN : N ≠ b) (hT : T ≠ 5) : w1.heap[N]? = some (.cells cs T (0, 0)) :=
  h.2 N _ hb (fun e => hN (by simpa using e)) fun c' fz' e => by injection e with _ e; exact hT e
theorem lit_ok {x : ByteArray} (h : x.size ≤ 100) : x.size ≤ maxLen := by unfold maxLen; omega
theorem putN1 {B b N : Nat} {ts : List Tx} {W : World} (x : ByteArray) (h : TextW B b ts W) (hlen : SizeOk (ts ++ [x.data.toList])) (hx : x.size ≤ maxLen) (hN : W.heap.size = N) :
    Calls Tryz.prog 69 #[.pointer (some ⟨b, 0, none⟩), .slice (some ⟨N, 0, none⟩) 1 1] (W.alloc (.cells #[.string x] 9)) (PutPost B b (ts ++ [x.data.toList]) W) := by
  subst hN; exact put1 h hlen hx
theorem putN2 {B b N : Nat} {ts : List Tx} {W : World} (x y : ByteArray) (h : TextW B b ts W) (hlen : SizeOk (ts ++ [x.data.toList, y.data.toList])) (hx : x.size ≤ maxLen) (hy : y.size ≤ maxLen) (hN : W.heap.size = N) :
    Calls Tryz.prog 69 #[.pointer (some ⟨b, 0, none⟩), .slice (some ⟨N, 0, none⟩) 2 2] (W.alloc (.cells #[.string x, .string y] 9)) (PutPost B b (ts ++ [x.data.toList, y.data.toList]) W) := by
  subst hN; exact put2 h hlen hx hy
theorem putN3 {B b N : Nat} {ts : List Tx} {W : World} (x y z : ByteArray) (h : TextW B b ts W) (hlen : SizeOk (ts ++ [x.data.toList, y.data.toList, z.data.toList])) (hx : x.size ≤ maxLen) (hy : y.size ≤ maxLen) (hz : z.size ≤ maxLen) (hN : W.heap.size = N) :
    Calls Tryz.prog 69 #[.pointer (some ⟨b, 0, none⟩), .slice (some ⟨N, 0, none⟩) 3 3] (W.alloc (.cells #[.string x, .string y, .string z] 9)) (PutPost B b (ts ++ [x.data.toList, y.data.toList, z.data.toList]) W) := by
  subst hN; exact put3 h hlen hx hy hz
set_option maxHeartbeats 1000000 in
theorem kid_any {B b : Nat} {w0 : World} {op n : Int} {nm : Tx} {cs : List Tx} {ks : List Ex} {cv : Value} {A : Option Addr} {c : Nat} {C : Nat → List Value} (h : NodeC B b w0 nm cs ks cv A c C) (i : Nat) {w : World} {ts : List Tx} (ht : TextW B b ts w) (hb : Below w0.heap.size w0 w) (hn : SizeOk (ts ++ kidT (ks.map toksX) i)) :
    Calls Tryz.prog 122 #[.pointer (some ⟨b, 0, none⟩), .agg #[.int .i64 op, .string (str nm), .int .i64 n, cv, .slice A ks.length c], .int .i64 i] w (PutPost B b (ts ++ kidT (ks.map toksX) i) w) := by
  have HT := Lib.hid ht; have HB := Lib.hid hb; have hlm : ks.length ≤ 9223372036854775807 := (by have := h.hl; have := h.hc; unfold maxLen at this; omega); have hsz := hb.size; have hcv : ∃ A2 n2 k2, cv = .slice A2 n2 k2 := (by obtain ⟨A2, k2, e, _⟩ := h.hcs; exact ⟨_, _, _, e⟩); obtain ⟨A2, n2, k2, rfl⟩ := hcv; by_cases hlt : i < ks.length
  · obtain ⟨y, hy⟩ : ∃ y, ks[i]? = some y := ⟨_, List.getElem?_eq_getElem hlt⟩; have ek : kidT (ks.map toksX) i = toksX y := (by simp [kidT, List.getD, hy]); rw [ek] at hn ⊢; have HN := Lib.hid hn; have hC := h.hk i y hy; have HI := Lib.hid (h.ih i y hy); obtain ⟨o1, s1, n1, A3, m1, k1, A4, m2, k4, hL⟩ := (h.hx i y hy).shape; generalize C i = L at hC HI hL; subst hL; clear hy ek hn h ht; obtain ⟨a, rfl, ha, haa, d0, d1, d2, d3, d4⟩ := elem5 (hC.under hb); clear hC hb; go_enter Tryz.func122, Tryz.ntmps122
    go_wp2_with (go_at_call 36; refine (HI.out _ _ (HT.out.alloc _) (HB.out.alloc (by omega) _) HN.out).mono ?_; rintro e w1 ⟨rfl, ht1, hk1⟩)
    go_end0
    exact ⟨rfl, ht1, ((TKept.refl B b w).alloc HT.out.2 _).trans hk1⟩
  · have ek : kidT (ks.map toksX) i = [[63]] := by simp [kidT, List.getD, List.getElem?_eq_none (Nat.le_of_not_lt hlt)]
    rw [ek] at hn ⊢; have HN := Lib.hid (show SizeOk (ts ++ [(⟨#[63]⟩ : ByteArray).data.toList]) from hn); clear ek hn h ht hb; go_enter Tryz.func122, Tryz.ntmps122
    go_wp2_with (go_at_call 69; (with_reducible refine (putN1 ⟨#[63]⟩ (HT.out.alloc _) HN.out (lit_ok (by decide)) (by simp)).mono ?_); rintro e w1 ⟨rfl, ht1, hk1⟩)
    go_end0
    exact ⟨rfl, ht1, ((TKept.refl B b w).alloc HT.out.2 _).trans hk1⟩
set_option maxHeartbeats 1000000 in
theorem prefix_any {B b : Nat} {w0 : World} {op n : Int} {nm o : Tx} {cs : List Tx} {ks : List Ex} {cv : Value} {A : Option Addr} {c : Nat} {C : Nat → List Value} (h : NodeC B b w0 nm cs ks cv A c C) (ho : (str o).size ≤ maxLen) {w : World} {ts : List Tx} (ht : TextW B b ts w) (hb : Below w0.heap.size w0 w) (hn : SizeOk (ts ++ prefixT o (ks.map toksX))) :
    Calls Tryz.prog 72 #[.pointer (some ⟨b, 0, none⟩), .string (str o), .agg #[.int .i64 op, .string (str nm), .int .i64 n, cv, .slice A ks.length c]] w (PutPost B b (ts ++ prefixT o (ks.map toksX)) w) := by
  have HT := Lib.hid ht; have HB := Lib.hid hb; have HH := Lib.hid h; have HO := Lib.hid ho; have hsz := hb.size; have hblt := ht.lt; obtain ⟨A2, n2, k2, rfl⟩ : ∃ A2 n2 k2, cv = .slice A2 n2 k2 := by obtain ⟨A2, k2, e, _⟩ := h.hcs; exact ⟨_, _, _, e⟩
  have HN := Lib.hid (show SizeOk (ts ++ [(⟨#[40]⟩ : ByteArray).data.toList, (str o).data.toList] ++ kidT (ks.map toksX) 0 ++ [(⟨#[41]⟩ : ByteArray).data.toList]) by simpa [prefixT, str_toList] using hn); clear h hn ht hb ho; go_enter Tryz.func72, Tryz.ntmps72
  go_wp2_with (first
    | (go_at_call 69; (with_reducible refine (putN2 ⟨#[40]⟩ (str o) (HT.out.alloc _) HN.out.left.left (lit_ok (by decide)) HO.out (by simp)).mono ?_); rintro e w1 ⟨rfl, ht1, hk1⟩; have hbx := box_kept hk1 (heap_alloc_new w _) (by omega) (by decide); obtain ⟨d0, d1, d2, d3, d4⟩ := row5 hbx; have HT1 := Lib.hid ht1; have HK1 := Lib.hid (((TKept.refl B b w).alloc HT.out.2 _).trans hk1); clear ht1 hk1 hbx)
    | (go_at_call 122; (refine (kid_any HH.out 0 HT1.out (HB.out.trans (HK1.out.1.mono HH.out.size)) HN.out.left).mono ?_)
       rintro e w2 ⟨rfl, ht2, hk2⟩)
    | (go_at_call 69; (with_reducible refine (putN1 ⟨#[41]⟩ ht2 HN.out (lit_ok (by decide)) rfl).mono ?_); rintro e w3 ⟨rfl, ht3, hk3⟩))
  go_end0
  exact ⟨rfl, by simpa [prefixT, str_toList] using ht3, HK1.out.trans (hk2.trans hk3)⟩
end Go.Proofs.YtlhmdjhfmhkllaaGreatDoor

namespace Go.Proofs.YtlhmdjhfmhkllaaGreatDoor
open Go.RowKit
theorem TKept.below {B b : Nat} {w w' : World} (h : TKept B b w w') : Below B w w' := h.1
theorem kid_at0 {B b : Nat} {w0 : World} {op n : Int} {nm : Tx} {cs : List Tx} {ks : List Ex} {cv : Value} {A : Option Addr} {c : Nat} {C : Nat → List Value} (h : NodeC B b w0 nm cs ks cv A c C) {w : World} {ts : List Tx} (ht : TextW B b ts w) (hb : Below w0.heap.size w0 w) (hn : SizeOk (ts ++ kidT (ks.map toksX) 0)) :
    Calls Tryz.prog 122 #[.pointer (some ⟨b, 0, none⟩), .agg #[.int .i64 op, .string (str nm), .int .i64 n, cv, .slice A ks.length c], .int .i64 0] w (PutPost B b (ts ++ kidT (ks.map toksX) 0) w) := kid_any h 0 ht hb hn
theorem kid_at1 {B b : Nat} {w0 : World} {op n : Int} {nm : Tx} {cs : List Tx} {ks : List Ex} {cv : Value} {A : Option Addr} {c : Nat} {C : Nat → List Value} (h : NodeC B b w0 nm cs ks cv A c C) {w : World} {ts : List Tx} (ht : TextW B b ts w) (hb : Below w0.heap.size w0 w) (hn : SizeOk (ts ++ kidT (ks.map toksX) 1)) :
    Calls Tryz.prog 122 #[.pointer (some ⟨b, 0, none⟩), .agg #[.int .i64 op, .string (str nm), .int .i64 n, cv, .slice A ks.length c], .int .i64 1] w (PutPost B b (ts ++ kidT (ks.map toksX) 1) w) := kid_any h 1 ht hb hn
theorem kid_at2 {B b : Nat} {w0 : World} {op n : Int} {nm : Tx} {cs : List Tx} {ks : List Ex} {cv : Value} {A : Option Addr} {c : Nat} {C : Nat → List Value} (h : NodeC B b w0 nm cs ks cv A c C) {w : World} {ts : List Tx} (ht : TextW B b ts w) (hb : Below w0.heap.size w0 w) (hn : SizeOk (ts ++ kidT (ks.map toksX) 2)) :
    Calls Tryz.prog 122 #[.pointer (some ⟨b, 0, none⟩), .agg #[.int .i64 op, .string (str nm), .int .i64 n, cv, .slice A ks.length c], .int .i64 2] w (PutPost B b (ts ++ kidT (ks.map toksX) 2) w) := kid_any h 2 ht hb hn
set_option maxHeartbeats 2000000 in
theorem infix_any {B b : Nat} {w0 : World} {op n : Int} {nm o : Tx} {cs : List Tx} {ks : List Ex} {cv : Value} {A : Option Addr} {c : Nat} {C : Nat → List Value} (h : NodeC B b w0 nm cs ks cv A c C) (ho : (str o).size ≤ maxLen) {w : World} {ts : List Tx} (ht : TextW B b ts w) (hb : Below w0.heap.size w0 w) (hn : SizeOk (ts ++ infixT o (ks.map toksX))) :
    Calls Tryz.prog 73 #[.pointer (some ⟨b, 0, none⟩), .string (str o), .agg #[.int .i64 op, .string (str nm), .int .i64 n, cv, .slice A ks.length c]] w (PutPost B b (ts ++ infixT o (ks.map toksX)) w) := by
  have HT := Lib.hid ht; have HB := Lib.hid hb; have HH := Lib.hid h; have HO := Lib.hid ho; have hsz := hb.size; have hblt := ht.lt; obtain ⟨A2, n2, k2, rfl⟩ : ∃ A2 n2 k2, cv = .slice A2 n2 k2 := by obtain ⟨A2, k2, e, _⟩ := h.hcs; exact ⟨_, _, _, e⟩
  have HN := Lib.hid (show SizeOk (ts ++ [(⟨#[40]⟩ : ByteArray).data.toList] ++ kidT (ks.map toksX) 0 ++ [(str o : ByteArray).data.toList] ++ kidT (ks.map toksX) 1 ++ [(⟨#[41]⟩ : ByteArray).data.toList]) by simpa [infixT, str_toList] using hn); clear h hn ht hb ho; go_enter Tryz.func73, Tryz.ntmps73
  go_wp2_with (first
    | (go_at_call 69; with_reducible refine (putN1 (⟨#[40]⟩) (HT.out.alloc _) HN.out.left.left.left.left (lit_ok (by decide)) (by simp)).mono ?_
       rintro e w1 ⟨rfl, ht1, hk1⟩; have hbx1 := box_kept hk1 (heap_alloc_new w _) (by omega) (by decide); obtain ⟨d0, d1, d2, d3, d4⟩ := row5 hbx1; have HX1 := Lib.hid hbx1; have HT1 := Lib.hid ht1; have HK1 := Lib.hid (((TKept.refl B b w).alloc HT.out.2 _).trans hk1); clear ht1 hk1 hbx1)
    | (go_at_call 122; with_reducible refine (kid_at0 HH.out (HT1.out) (HB.out.trans (HK1.out.below.mono HH.out.size)) HN.out.left.left.left).mono ?_
       rintro e w2 ⟨rfl, ht2, hk2⟩; have hbx2 := box_kept hk2 HX1.out (by omega) (by decide); obtain ⟨d0, d1, d2, d3, d4⟩ := row5 hbx2; have HX2 := Lib.hid hbx2; have HT2 := Lib.hid ht2; have HK2 := Lib.hid (HK1.out.trans hk2); clear ht2 hk2 hbx2)
    | (go_at_call 69; with_reducible refine (putN1 (str o) (HT2.out) HN.out.left.left HO.out rfl).mono ?_
       rintro e w3 ⟨rfl, ht3, hk3⟩; have hbx3 := box_kept hk3 HX2.out (by omega) (by decide); obtain ⟨d0, d1, d2, d3, d4⟩ := row5 hbx3; have HX3 := Lib.hid hbx3; have HT3 := Lib.hid ht3; have HK3 := Lib.hid (HK2.out.trans hk3); clear ht3 hk3 hbx3)
    | (go_at_call 122; with_reducible refine (kid_at1 HH.out (HT3.out) (HB.out.trans (HK3.out.below.mono HH.out.size)) HN.out.left).mono ?_
       rintro e w4 ⟨rfl, ht4, hk4⟩; have hbx4 := box_kept hk4 HX3.out (by omega) (by decide); obtain ⟨d0, d1, d2, d3, d4⟩ := row5 hbx4; have HX4 := Lib.hid hbx4; have HT4 := Lib.hid ht4; have HK4 := Lib.hid (HK3.out.trans hk4); clear ht4 hk4 hbx4)
    | (go_at_call 69; with_reducible refine (putN1 (⟨#[41]⟩) (HT4.out) HN.out (lit_ok (by decide)) rfl).mono ?_
       rintro e w5 ⟨rfl, ht5, hk5⟩; skip))
  go_end0
  exact ⟨rfl, by simpa [infixT, str_toList] using ht5, HK4.out.trans hk5⟩
set_option maxHeartbeats 2000000 in
theorem choice_any {B b : Nat} {w0 : World} {op n : Int} {nm : Tx} {cs : List Tx} {ks : List Ex} {cv : Value} {A : Option Addr} {c : Nat} {C : Nat → List Value} (h : NodeC B b w0 nm cs ks cv A c C) {w : World} {ts : List Tx} (ht : TextW B b ts w) (hb : Below w0.heap.size w0 w) (hn : SizeOk (ts ++ choiceT (ks.map toksX))) :
    Calls Tryz.prog 74 #[.pointer (some ⟨b, 0, none⟩), .agg #[.int .i64 op, .string (str nm), .int .i64 n, cv, .slice A ks.length c]] w (PutPost B b (ts ++ choiceT (ks.map toksX)) w) := by
  have HT := Lib.hid ht; have HB := Lib.hid hb; have HH := Lib.hid h; have hsz := hb.size; have hblt := ht.lt; obtain ⟨A2, n2, k2, rfl⟩ : ∃ A2 n2 k2, cv = .slice A2 n2 k2 := by obtain ⟨A2, k2, e, _⟩ := h.hcs; exact ⟨_, _, _, e⟩
  have HN := Lib.hid (show SizeOk (ts ++ [(⟨#[40]⟩ : ByteArray).data.toList, (⟨#[105, 102]⟩ : ByteArray).data.toList] ++ kidT (ks.map toksX) 0 ++ [(⟨#[116, 104, 101, 110]⟩ : ByteArray).data.toList] ++ kidT (ks.map toksX) 1 ++ [(⟨#[101, 108, 115, 101]⟩ : ByteArray).data.toList] ++ kidT (ks.map toksX) 2 ++ [(⟨#[41]⟩ : ByteArray).data.toList]) by simpa [choiceT, str_toList] using hn); clear h hn ht hb; go_enter Tryz.func74, Tryz.ntmps74
  go_wp2_with (first
    | (go_at_call 69; with_reducible refine (putN2 (⟨#[40]⟩) (⟨#[105, 102]⟩) (HT.out.alloc _) HN.out.left.left.left.left.left.left (lit_ok (by decide)) (lit_ok (by decide)) (by simp)).mono ?_
       rintro e w1 ⟨rfl, ht1, hk1⟩; have hbx1 := box_kept hk1 (heap_alloc_new w _) (by omega) (by decide); obtain ⟨d0, d1, d2, d3, d4⟩ := row5 hbx1; have HX1 := Lib.hid hbx1; have HT1 := Lib.hid ht1; have HK1 := Lib.hid (((TKept.refl B b w).alloc HT.out.2 _).trans hk1); clear ht1 hk1 hbx1)
    | (go_at_call 122; with_reducible refine (kid_at0 HH.out (HT1.out) (HB.out.trans (HK1.out.below.mono HH.out.size)) HN.out.left.left.left.left.left).mono ?_
       rintro e w2 ⟨rfl, ht2, hk2⟩; have hbx2 := box_kept hk2 HX1.out (by omega) (by decide); obtain ⟨d0, d1, d2, d3, d4⟩ := row5 hbx2; have HX2 := Lib.hid hbx2; have HT2 := Lib.hid ht2; have HK2 := Lib.hid (HK1.out.trans hk2); clear ht2 hk2 hbx2)
    | (go_at_call 69; with_reducible refine (putN1 (⟨#[116, 104, 101, 110]⟩) (HT2.out) HN.out.left.left.left.left (lit_ok (by decide)) rfl).mono ?_
       rintro e w3 ⟨rfl, ht3, hk3⟩; have hbx3 := box_kept hk3 HX2.out (by omega) (by decide); obtain ⟨d0, d1, d2, d3, d4⟩ := row5 hbx3; have HX3 := Lib.hid hbx3; have HT3 := Lib.hid ht3; have HK3 := Lib.hid (HK2.out.trans hk3); clear ht3 hk3 hbx3)
    | (go_at_call 122; with_reducible refine (kid_at1 HH.out (HT3.out) (HB.out.trans (HK3.out.below.mono HH.out.size)) HN.out.left.left.left).mono ?_
       rintro e w4 ⟨rfl, ht4, hk4⟩; have hbx4 := box_kept hk4 HX3.out (by omega) (by decide); obtain ⟨d0, d1, d2, d3, d4⟩ := row5 hbx4; have HX4 := Lib.hid hbx4; have HT4 := Lib.hid ht4; have HK4 := Lib.hid (HK3.out.trans hk4); clear ht4 hk4 hbx4)
    | (go_at_call 69; with_reducible refine (putN1 (⟨#[101, 108, 115, 101]⟩) (HT4.out) HN.out.left.left (lit_ok (by decide)) rfl).mono ?_
       rintro e w5 ⟨rfl, ht5, hk5⟩; have hbx5 := box_kept hk5 HX4.out (by omega) (by decide); obtain ⟨d0, d1, d2, d3, d4⟩ := row5 hbx5; have HX5 := Lib.hid hbx5; have HT5 := Lib.hid ht5; have HK5 := Lib.hid (HK4.out.trans hk5); clear ht5 hk5 hbx5)
    | (go_at_call 122; with_reducible refine (kid_at2 HH.out (HT5.out) (HB.out.trans (HK5.out.below.mono HH.out.size)) HN.out.left).mono ?_
       rintro e w6 ⟨rfl, ht6, hk6⟩; have hbx6 := box_kept hk6 HX5.out (by omega) (by decide); obtain ⟨d0, d1, d2, d3, d4⟩ := row5 hbx6; have HX6 := Lib.hid hbx6; have HT6 := Lib.hid ht6; have HK6 := Lib.hid (HK5.out.trans hk6); clear ht6 hk6 hbx6)
    | (go_at_call 69; with_reducible refine (putN1 (⟨#[41]⟩) (HT6.out) HN.out (lit_ok (by decide)) rfl).mono ?_
       rintro e w7 ⟨rfl, ht7, hk7⟩; skip))
  go_end0
  exact ⟨rfl, by simpa [choiceT, str_toList] using ht7, HK6.out.trans hk7⟩
end Go.Proofs.YtlhmdjhfmhkllaaGreatDoor

namespace Go.Proofs.YtlhmdjhfmhkllaaGreatDoor
open Go.RowKit
theorem Kept1.keep {B b n : Nat} {w w' : World} (h : Kept1 B b w n) (hk : TKept B b w w') : Kept1 B b w' n := by
  rcases h with h | ⟨hb, cs, T, fz, hh, hT⟩
  · exact .inl h
  · exact .inr ⟨hb, cs, T, fz, (Kept1.heap (.inr ⟨hb, cs, T, fz, hh, hT⟩) hk).trans hh, hT⟩
theorem ToksAt.keep {B b : Nat} {w w' : World} {v : Value} {l : List Tx} (h : ToksAt B b w v l) (hk : TKept B b w w') : ToksAt B b w' v l := by
  obtain ⟨⟨A, c, rfl, h1, h2, h3⟩, hK⟩ := h; refine ⟨⟨A, c, rfl, h1, h2, fun i x hx => ?_⟩, fun A' n' c' e hne => (hK A' n' c' e hne).keep hk⟩; obtain ⟨L, ⟨a, rfl, hc⟩, hR⟩ := h3 i x hx; refine ⟨L, ⟨a, rfl, fun j u hu => ?_⟩, hR⟩; have hh := (hK a _ _ rfl (fun e => by rw [e] at hx; cases hx)).heap hk; have := hc j u hu; rw [World.cell?, add_block, add_block, hh]; rw [World.cell?, add_block, add_block] at this; exact this
set_option maxHeartbeats 1000000 in
theorem statics_any {B b : Nat} {ts : List Tx} {v : Value} {l : List Tx} (w : World) (h : TextW B b ts w) (hl : ToksAt B b w v l) (hlen : SizeOk (ts ++ staticsT l)) :
    Calls Tryz.prog 124 #[.pointer (some ⟨b, 0, none⟩), v] w (PutPost B b (ts ++ staticsT l) w) := by
  have hT := Lib.hid hl; obtain ⟨⟨A, c, rfl, hc, hm, _⟩, _⟩ := hl; have hlm : l.length ≤ 9223372036854775807 := (by unfold maxLen at hm; omega); have HT := Lib.hid h; by_cases h0 : l = []
  · subst h0; clear hc hm h hlen; go_enter Tryz.func124, Tryz.ntmps124
    go_wp2_with fail
    first
      | (go_end0; exact ⟨rfl, by simpa [staticsT] using HT.out, TKept.refl _ _ _⟩)
      | (go_ret; exact ⟨rfl, by simpa [staticsT] using HT.out, TKept.refl _ _ _⟩)
  · have hne : l.length ≠ 0 := by simpa using h0
    have es : staticsT l = [(⟨#[91]⟩ : ByteArray).data.toList] ++ namesT [44] l ++ [(⟨#[93]⟩ : ByteArray).data.toList] := (by simp [staticsT, h0]); have HE := Lib.hid es; have HN := Lib.hid (show SizeOk (ts ++ [(⟨#[91]⟩ : ByteArray).data.toList] ++ namesT [44] l ++ [(⟨#[93]⟩ : ByteArray).data.toList]) by rw [es] at hlen; simpa using hlen); clear hc hm h hlen es h0; go_enter Tryz.func124, Tryz.ntmps124
    go_wp2_with (first
      | (go_at_call 69; with_reducible refine (putN1 ⟨#[91]⟩ HT.out HN.out.left.left (lit_ok (by decide)) rfl).mono ?_
         rintro e w1 ⟨rfl, ht1, hk1⟩; have HT1 := Lib.hid ht1; have HK1 := Lib.hid hk1; clear ht1 hk1)
      | (go_at_call 123; refine (names_any (s := [44]) _ HT1.out (hT.out.keep HK1.out) HN.out.left (lit_ok (x := str [44]) (by decide))).mono ?_; rintro e w2 ⟨rfl, ht2, hk2⟩)
      | (go_at_call 69; with_reducible refine (putN1 ⟨#[93]⟩ ht2 HN.out (lit_ok (by decide)) rfl).mono ?_
         rintro e w3 ⟨rfl, ht3, hk3⟩))
    go_end0
    exact ⟨rfl, by rw [HE.out]; simpa using ht3, HK1.out.trans (hk2.trans hk3)⟩
end Go.Proofs.YtlhmdjhfmhkllaaGreatDoor

namespace Go.Proofs.YtlhmdjhfmhkllaaGreatDoor
open Go.RowKit
theorem putN4 {B b N : Nat} {ts : List Tx} {W : World} (x y z u : ByteArray) (h : TextW B b ts W) (hlen : SizeOk (ts ++ [x.data.toList, y.data.toList, z.data.toList, u.data.toList])) (hx : x.size ≤ maxLen) (hy : y.size ≤ maxLen) (hz : z.size ≤ maxLen) (hu : u.size ≤ maxLen) (hN : W.heap.size = N) :
    Calls Tryz.prog 69 #[.pointer (some ⟨b, 0, none⟩), .slice (some ⟨N, 0, none⟩) 4 4] (W.alloc (.cells #[.string x, .string y, .string z, .string u] 9)) (PutPost B b (ts ++ [x.data.toList, y.data.toList, z.data.toList, u.data.toList]) W) := by
  subst hN; exact put_made [x, y, z, u] h hlen (by simp [hx, hy, hz, hu]) (by simp only [List.length_cons, List.length_nil]; decide)
theorem ToksAt.came {B b : Nat} {w0 w : World} {v : Value} {l : List Tx} (h : StrsAt w0 v l) (hB : w0.heap.size ≤ B) (hb : Below w0.heap.size w0 w) : ToksAt B b w v l := by
  refine ⟨h.under hb, fun A n c e hne => ?_⟩; obtain ⟨A', c', rfl, _, _, h3⟩ := h; injection e with e _ _; subst e; obtain ⟨x, r, rfl⟩ := List.exists_cons_of_ne_nil hne; obtain ⟨L, ⟨a, e, hc⟩, hL, _⟩ := h3 0 x rfl; cases e; subst hL; have := hc.lt (by simp); rw [add_block] at this; exact .inl (by omega)
set_option maxHeartbeats 2000000 in
theorem when_any {B b : Nat} {w0 : World} {op n : Int} {nm : Tx} {cs : List Tx} {ks : List Ex} {cv : Value} {A : Option Addr} {c : Nat} {C : Nat → List Value} (h : NodeC B b w0 nm cs ks cv A c C) {w : World} {ts : List Tx} (ht : TextW B b ts w) (hb : Below w0.heap.size w0 w) (hn : SizeOk (ts ++ whenT nm cs (ks.map toksX))) :
    Calls Tryz.prog 75 #[.pointer (some ⟨b, 0, none⟩), .agg #[.int .i64 op, .string (str nm), .int .i64 n, cv, .slice A ks.length c]] w (PutPost B b (ts ++ whenT nm cs (ks.map toksX)) w) := by
  have HT := Lib.hid ht; have HB := Lib.hid hb; have HH := Lib.hid h; have hsz := hb.size; have hblt := ht.lt; have HC := Lib.hid h.hcs; obtain ⟨A2, n2, k2, rfl⟩ : ∃ A2 n2 k2, cv = .slice A2 n2 k2 := by obtain ⟨A2, k2, e, _⟩ := h.hcs; exact ⟨_, _, _, e⟩
  have HN := Lib.hid (show SizeOk (ts ++ [(⟨#[40]⟩ : ByteArray).data.toList] ++ kidT (ks.map toksX) 0 ++ [(⟨#[119, 104, 101, 110]⟩ : ByteArray).data.toList] ++ namesT [44] cs ++ [(⟨#[40]⟩ : ByteArray).data.toList, (str nm).data.toList, (⟨#[41]⟩ : ByteArray).data.toList, (⟨#[41]⟩ : ByteArray).data.toList]) by simpa [whenT, str_toList] using hn); clear h hn ht hb; go_enter Tryz.func75, Tryz.ntmps75
  go_wp2_with (first
    | (go_at_call 69; with_reducible refine (putN1 (⟨#[40]⟩) (HT.out.alloc _) HN.out.left.left.left.left (lit_ok (by decide)) (by simp)).mono ?_
       rintro e w1 ⟨rfl, ht1, hk1⟩; have hbx1 := box_kept hk1 (heap_alloc_new w _) (by omega) (by decide); obtain ⟨d0, d1, d2, d3, d4⟩ := row5 hbx1; have HX1 := Lib.hid hbx1; have HT1 := Lib.hid ht1; have HK1 := Lib.hid (((TKept.refl B b w).alloc HT.out.2 _).trans hk1); clear ht1 hk1 hbx1)
    | (go_at_call 122; with_reducible refine (kid_at0 HH.out (HT1.out) (HB.out.trans (HK1.out.below.mono HH.out.size)) HN.out.left.left.left).mono ?_
       rintro e w2 ⟨rfl, ht2, hk2⟩; have hbx2 := box_kept hk2 HX1.out (by omega) (by decide); obtain ⟨d0, d1, d2, d3, d4⟩ := row5 hbx2; have HX2 := Lib.hid hbx2; have HT2 := Lib.hid ht2; have HK2 := Lib.hid (HK1.out.trans hk2); clear ht2 hk2 hbx2)
    | (go_at_call 69; with_reducible refine (putN1 (⟨#[119, 104, 101, 110]⟩) (HT2.out) HN.out.left.left (lit_ok (by decide)) rfl).mono ?_
       rintro e w3 ⟨rfl, ht3, hk3⟩; have hbx3 := box_kept hk3 HX2.out (by omega) (by decide); obtain ⟨d0, d1, d2, d3, d4⟩ := row5 hbx3; have HX3 := Lib.hid hbx3; have HT3 := Lib.hid ht3; have HK3 := Lib.hid (HK2.out.trans hk3); have HC3 := Lib.hid (ToksAt.came (b := b) HC.out HH.out.size (HB.out.trans (HK3.out.below.mono HH.out.size))); clear ht3 hk3 hbx3)
    | (go_at_call 123; refine (names_any (s := [44]) _ HT3.out HC3.out HN.out.left (lit_ok (x := str [44]) (by decide))).mono ?_; rintro e w4 ⟨rfl, ht4, hk4⟩; have hbx4 := box_kept hk4 HX3.out (by omega) (by decide); obtain ⟨d0, d1, d2, d3, d4⟩ := row5 hbx4; have HT4 := Lib.hid ht4; have HK4 := Lib.hid (HK3.out.trans hk4); clear ht4 hk4 hbx4)
    | (go_at_call 69; with_reducible refine (putN4 (⟨#[40]⟩) (str nm) (⟨#[41]⟩) (⟨#[41]⟩) (HT4.out) HN.out (lit_ok (by decide)) HH.out.hnm (lit_ok (by decide)) (lit_ok (by decide)) rfl).mono ?_
       rintro e w5 ⟨rfl, ht5, hk5⟩))
  go_end0
  exact ⟨rfl, by simpa [whenT, str_toList] using ht5, HK4.out.trans hk5⟩
end Go.Proofs.YtlhmdjhfmhkllaaGreatDoor
