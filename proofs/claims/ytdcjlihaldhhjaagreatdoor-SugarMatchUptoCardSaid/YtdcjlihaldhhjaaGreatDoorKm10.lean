import Derived.Shelf.Strings.BuilderK
import Derived.Test.YtdcjlihaldhhjaaGreatDoorShelf
import Derived.Test.YtdcjlihaldhhjaaGreatDoorKm07
set_option maxHeartbeats 2000000
set_option maxRecDepth 100000
namespace Go.Proofs.YtdcjlihaldhhjaaGreatDoor
open _root_.Go.Proofs.Tryz
open Go.RowKit
theorem Cj : Builder.Extra prog lays169_ren := Tryz.Builder_Extra_169
theorem yD : liesAt prog prog.depth 64 (3 / prog.cellsOf 64) 0 62 1 = true := by kernel_rfl
def cL (B b : Nat) (p : Value) (bs : List Value) (g : Bool) (w : World) : Prop :=
 B <= b /\ ∃ v, w.heap[b]? = some (.cells #[p, v, .bool g] 64 (0, 0)) /\ w.ownsRowF B 5 1 v bs.length bs /\ v.ownBlock ≠ some b
def eZ (B b : Nat) (bs : List Value) (g : Bool) (w : World) : Prop := cL B b (.pointer none) bs g w ∨ cL B b (.pointer (some ⟨b, 0, none⟩)) bs g w
section
variable {B b : Nat} {p : Value} {bs : List Value} {g : Bool} {w w' : World}
theorem cL.lt (h : cL B b p bs g w) : b < w.heap.size := by obtain ⟨_, v, hb, _⟩ := h; exact ar hb
theorem eZ.lt (h : eZ B b bs g w) : b < w.heap.size := h.elim (λ x => x.lt) (λ x => x.lt)
theorem cL.alloc (h : cL B b p bs g w) (o : Obj) : cL B b p bs g (w.alloc o) := by
 have hlt := h.lt; obtain ⟨hB, v, hb, hown, hne⟩ := h; exact ⟨hB, v, (Lib.alloc_old w o b hlt).trans hb, hown.kept (World.grownBy_alloc w o none) (by cases hv : v.ownBlock <;> simp), hne⟩
theorem eZ.alloc (h : eZ B b bs g w) (o : Obj) : eZ B b bs g (w.alloc o) := h.elim (λ x => .inl (x.alloc o)) (λ x => .inr (x.alloc o))
theorem cL.used (h : cL B b p bs g w) (q : Value) : cL B b q bs g (w.setCell ⟨b, 0, none⟩ q) := by
 obtain ⟨hB, v, hb, hown, hne⟩ := h; refine ⟨hB, v, ?_, ?_, hne⟩
 . simp [World.setCell, Array.getElem?_modify, hb]
 . exact hown.kept (row := some b) ⟨rfl, rfl, rfl, by simp [World.setCell], λ k _ hk => Below.heap_setCell _ _ _ _ (λ e => hk (by simp [e]))⟩ (Or.inr hne)
theorem cL.begun (h : cL B b p bs g w) (g' : Bool) : cL B b p bs g' (w.setCell ⟨b, 2, none⟩ (.bool g')) := by
 obtain ⟨hB, v, hb, hown, hne⟩ := h; refine ⟨hB, v, ?_, ?_, hne⟩
 . simp [World.setCell, Array.getElem?_modify, hb]
 . exact hown.kept (row := some b) ⟨rfl, rfl, rfl, by simp [World.setCell], λ k _ hk => Below.heap_setCell _ _ _ _ (λ e => hk (by simp [e]))⟩ (Or.inr hne)
theorem sx {v v' : Value} {bs' : List Value} (hB : B <= b) (hb : w.heap[b]? = some (.cells #[p, v, .bool g] 64 (0, 0))) (hown : w.ownsRowF B 5 1 v' bs'.length bs') : cL B b p bs' g (w.setCell ⟨b, 1, none⟩ v') := by
 have hne := Lib.ownBlock_neF hown hb zD; refine ⟨hB, v', ?_, ?_, hne⟩
 . simp [World.setCell, Array.getElem?_modify, hb]
 . exact hown.kept (row := some b) ⟨rfl, rfl, rfl, by simp [World.setCell], λ k _ hk => Below.heap_setCell _ _ _ _ (λ e => hk (by simp [e]))⟩ (Or.inr hne)
theorem uA (w : World) : eZ w.heap.size w.heap.size [] false (w.alloc (.cells #[.pointer none, .slice none 0 0, .bool false] 64)) :=
 .inl ⟨Nat.le_refl _, .slice none 0 0, heap_alloc_new w _, World.ownsRowF_of (World.ownsRow_nil _ _ _ _), by simp [Value.ownBlock]⟩
end
def a8 (B b : Nat) (w w' : World) : Prop := Below B w w' /\ Lib.OthersKept 5 (some b) w w'
theorem a8.refl (B b : Nat) (w : World) : a8 B b w w := ⟨Below.refl _ _, Lib.OthersKept.refl _ _ _⟩
theorem a8.trans {B b : Nat} {w w1 w2 : World} (h : a8 B b w w1) (k : a8 B b w1 w2) : a8 B b w w2 := ⟨h.1.trans k.1, h.2.trans k.2⟩
theorem uE (b : Nat) (w : World) (h0 : w.cell? ⟨b, 0, none⟩ = some (.pointer (some ⟨b, 0, none⟩))) :
  Calls prog 137 #[.pointer (some ⟨b, 0, none⟩)] w λ e w' => e = .returned (.tuple #[]) /\ w' = w := by
 obtain ⟨j, hj, _⟩ := Option.map_eq_some_iff.1 Cj.sizeBuilder; go_enter func137, ntmps137
 go_wp2; rw [Lib.run_neq_ptr_same w _ underlying59 hj]; go_wp2; go_end0
 exact ⟨rfl, rfl⟩
theorem sz (b : Nat) (w : World) (h0 : w.cell? ⟨b, 0, none⟩ = some (.pointer none)) (hsh : w.shape? b = some (64, 3)) (hfz : w.frozen? ⟨b, 0, none⟩ = false) :
  Calls prog 137 #[.pointer (some ⟨b, 0, none⟩)] w λ e w' => e = .returned (.tuple #[]) /\ w' = w.setCell ⟨b, 0, none⟩ (.pointer (some ⟨b, 0, none⟩)) := by
 obtain ⟨j, hj, hjs⟩ := Option.map_eq_some_iff.1 Cj.sizeBuilder; go_enter func137, ntmps137
 go_wp2; rw [Lib.run_to_unsafe w ⟨b, 0, none⟩ underlying59 underlying214 hj (by rw [hjs]; decide) hsh (Nat.zero_lt_succ 2)]; simp only [Result.andThen]; rw [Oper.upon_value]; go_wp2; rw [run_callFunc_extern func168 zK zK zK (e := Extern.AbiNoEscape.same) zK]; rw [Lib.run_noEscape]; simp only [Result.andThen]; rw [Oper.upon_value]; go_wp2; rw [Lib.run_from_unsafe w ⟨b, 0, none⟩ underlying214 underlying59 hj hsh yD]; simp only [Result.andThen]; rw [Oper.upon_value]; go_wp2; go_end0
 exact ⟨rfl, rfl⟩
theorem pU (B b : Nat) (bs : List Value) (g : Bool) (w : World) (h : eZ B b bs g w) :
  Calls prog 137 #[.pointer (some ⟨b, 0, none⟩)] w λ e w' => e = .returned (.tuple #[]) /\ cL B b (.pointer (some ⟨b, 0, none⟩)) bs g w' /\ a8 B b w w' := by
 rcases h with h | h
 . have h' := h; obtain ⟨hB, v, hb, _⟩ := h'; refine (sz b w (by simp [World.cell?, hb]) (by simp [World.shape?, hb]) (by simp [World.frozen?, hb])).mono ?_; rintro e w' ⟨rfl, rfl⟩; exact ⟨rfl, h.used _, (Below.refl B w).setCell (p := ⟨b, 0, none⟩) h.1 _, (Lib.OthersKept.refl _ _ w).setCell ⟨b, 0, none⟩ rfl _⟩
 . have h' := h; obtain ⟨hB, v, hb, _⟩ := h'; refine (uE b w (by simp [World.cell?, hb])).mono ?_; rintro e w' ⟨rfl, rfl⟩; exact ⟨rfl, h, a8.refl _ _ _⟩
theorem xQ (B b : Nat) (bs : List Value) (g : Bool) (c : Int) (w : World) (h : eZ B b bs g w) (hlen : bs.length + 1 <= 140737488355328) (hBw : B <= w.heap.size) :
  Calls prog 95 #[.pointer (some ⟨b, 0, none⟩), .int .u8 c] w λ e w' => e = .returned .nilIface /\ cL B b (.pointer (some ⟨b, 0, none⟩)) (bs ++ [.int .u8 c]) g w' /\ a8 B b w w' := by
 obtain ⟨i0, hi, hz0, hz1, hz2⟩ := info_parts Cj.infoByte; go_enter func95, ntmps95
 go_wp2_with (go_at_call 137; refine (pU B b bs g _ h).mono ?_)
 rintro e w1 ⟨rfl, h1, hb1, hk1⟩; obtain ⟨hB, v, hbk, hown, hne⟩ := h1; have c0 : w1.cell? ⟨b, 0, none⟩ = some (.pointer (some ⟨b, 0, none⟩)) := (by rw [Lib.cell_of_heap hbk]; rfl); have c1 : w1.cell? ⟨b, 1, none⟩ = some v := (by rw [Lib.cell_of_heap hbk]; rfl); go_wp2_with (at_builtin; refine wpList_append_ownF _ rfl _ _ 60 rfl B 5 i0 (.int .u8 0) 1 1 underlying60 hi hz0 hz1 hz2 rfl zD _ _ _ rfl (hown.alloc _) ⟨w1.heap.size, 0, none⟩ 1 1 [.int .u8 c] rfl rfl ?c1 ?c2 ?c3 ?c4 ?c5 ?_)
 case c1 =>
  intro j u hj; match j, hj with
  | 0, hj => simp at hj; subst hj; simp [Addr.add]
 case c2 => intro u hu; simp at hu; subst hu; rfl
 case c3 => unfold maxLen; omega
 case c4 => omega
 case c5 => have := hb1.size; simp; omega
 intro v' w2 hown' hgrow _; have hlt := ar hbk; have hb2 : w2.heap[b]? = some (.cells #[.pointer (some ⟨b, 0, none⟩), v, .bool g] 64 (0, 0)) := by
  rw [hgrow.block b (by simp; omega) (λ e => hne e.symm), Lib.alloc_old w1 _ b hlt]; exact hbk
 have d0 : w2.cell? ⟨b, 0, none⟩ = some (.pointer (some ⟨b, 0, none⟩)) := (by rw [Lib.cell_of_heap hb2]; rfl); have d1 : w2.cell? ⟨b, 1, none⟩ = some v := (by rw [Lib.cell_of_heap hb2]; rfl); have f1 : w2.frozen? ⟨b, 1, none⟩ = false := Lib.frozen_of_heap hb2 1; obtain ⟨gg, cap, rfl⟩ : ∃ gg cap, v' = .slice (some ⟨gg, 0, none⟩) (bs.length + 1) cap := by
  rcases hown'.2 with ⟨_, h0⟩ | ⟨gg, cap, cur, fz, hv, _⟩
  . omega
  . exact ⟨gg, cap, hv⟩
 go_wp2; go_ret; refine ⟨rfl, ?_, ?_, ((hk1.alloc _).grown hgrow (Lib.ownsRowF_kind (hown.alloc _))).setCell ⟨b, 1, none⟩ rfl _⟩
 . exact sx hB hb2 (bs' := bs ++ [.int .u8 c]) (by simpa using hown')
 . exact ((hb1.alloc (by have := hb1.size; omega) _).grown hgrow (by have := hb1.size; simp; omega) (λ k hk => (hown.lt k hk).1)).setCell (p := ⟨b, 1, none⟩) hB _
theorem ml (B b : Nat) (bs : List Value) (g : Bool) (s : ByteArray) (w : World) (h : eZ B b bs g w) (hlen : bs.length + s.size <= 140737488355328) (hBw : B <= w.heap.size) :
  Calls prog 96 #[.pointer (some ⟨b, 0, none⟩), .string s] w λ e w' => e = .returned (.tuple #[.int .i64 s.size, .nilIface]) /\ cL B b (.pointer (some ⟨b, 0, none⟩)) (bs ++ Lib.strCells s) g w' /\ a8 B b w w' := by
 obtain ⟨i0, hi, hz0, hz1, hz2⟩ := info_parts Cj.infoByte; go_enter func96, ntmps96
 go_wp2_with (go_at_call 137; refine (pU B b bs g _ h).mono ?_)
 rintro e w1 ⟨rfl, h1, hb1, hk1⟩; obtain ⟨hB, v, hbk, hown, hne⟩ := h1; have c0 : w1.cell? ⟨b, 0, none⟩ = some (.pointer (some ⟨b, 0, none⟩)) := (by rw [Lib.cell_of_heap hbk]; rfl); have c1 : w1.cell? ⟨b, 1, none⟩ = some v := (by rw [Lib.cell_of_heap hbk]; rfl); go_wp2_with (at_builtin; refine Lib.wpList_append_own_stringF _ rfl _ _ 60 9 rfl B 5 i0 underlying60 underlying9 hi hz0 hz1 hz2 _ _ _ rfl hown s rfl ?c3 ?c4 ?c5 ?_)
 case c3 => unfold maxLen; omega
 case c4 => omega
 case c5 => have := hb1.size; omega
 intro v' w2 hown' hgrow _; have hlt := ar hbk; have hb2 : w2.heap[b]? = some (.cells #[.pointer (some ⟨b, 0, none⟩), v, .bool g] 64 (0, 0)) := by
  rw [hgrow.block b hlt (λ e => hne e.symm)]; exact hbk
 have d0 : w2.cell? ⟨b, 0, none⟩ = some (.pointer (some ⟨b, 0, none⟩)) := (by rw [Lib.cell_of_heap hb2]; rfl); have d1 : w2.cell? ⟨b, 1, none⟩ = some v := (by rw [Lib.cell_of_heap hb2]; rfl); have f1 : w2.frozen? ⟨b, 1, none⟩ = false := Lib.frozen_of_heap hb2 1; obtain ⟨ao, n', cap, rfl⟩ : ∃ ao n' cap, v' = .slice ao n' cap := by
  rcases hown'.2 with ⟨hv, _⟩ | ⟨gg, cap, cur, fz, hv, _⟩
  . exact ⟨_, _, _, hv⟩
  . exact ⟨_, _, _, hv⟩
 go_wp2; go_ret2
 refine ⟨rfl, ?_, ?_, (hk1.grown hgrow (Lib.ownsRowF_kind hown)).setCell ⟨b, 1, none⟩ rfl _⟩
 . exact sx hB hb2 (bs' := bs ++ Lib.strCells s) (by simpa [Lib.strCells_length] using hown')
 . exact (hb1.grown hgrow (by have := hb1.size; omega) (λ k hk => (hown.lt k hk).1)).setCell (p := ⟨b, 1, none⟩) hB _
def py (B b : Nat) (w : World) (n : Nat) : Prop := n < B ∨ (n ≠ b /\ ∃ cs T fz, w.heap[n]? = some (.cells cs T fz) /\ T ≠ 5)
theorem py.heap {B b n : Nat} {w w' : World} (h : py B b w n) (hk : a8 B b w w') : w'.heap[n]? = w.heap[n]? := by
 rcases h with h | ⟨hb, cs, T, fz, hh, hT⟩
 . exact hk.1.block n h
 . rw [hh]; refine hk.2 n _ hh (λ e => hb (by simpa using e)) λ c' fz' e => ?_; injection e with _ e; exact hT e
def dp (B b : Nat) (w : World) (v : Value) (l : List Tx) : Prop := aG w v l /\ ∀ A n c, v = .slice (some A) n c -> l ≠ [] -> py B b w A.block
def mM (B b : Nat) (bs : Tx) (g : Bool) (w : World) : Prop := eZ B b (Lib.byteCells bs) g w
theorem zi (bs : Tx) : Lib.byteCells bs ++ [.int .u8 32] = Lib.byteCells (bs ++ [32]) := by rw [Lib.byteCells_append]; rfl
theorem uc (bs x : Tx) : Lib.byteCells bs ++ Lib.strCells (str x) = Lib.byteCells (bs ++ x) := by rw [Lib.byteCells_append]; rfl
theorem dp.cell {B b : Nat} {w w' : World} {A : Option Addr} {n c : Nat} {l : List Tx} (h : dp B b w (.slice A n c) l) (hk : a8 B b w w') {k : Nat} {x : Tx} (hx : l[k]? = some x) : ∃ a, A = some a /\ w'.cell? (a.add (k * 1)) = some (.string (str x)) := by
 obtain ⟨⟨A', c', e, _, _, hE⟩, hK⟩ := h; cases e; obtain ⟨L, hEL, rfl, _⟩ := hE k x hx; obtain ⟨a, rfl, ha, _, d0⟩ := ez hEL; refine ⟨a, rfl, ?_⟩; have := (hK a _ _ rfl (λ e => by rw [e] at hx; cases hx)).heap hk; rw [World.cell?, bI, this, <- bI a (k * 1), <- World.cell?]; exact d0
theorem CT {B b : Nat} {bs : Tx} {g0 : Bool} {v : Value} {l : List Tx} (w : World) (h : mM B b bs g0 w) (hl : dp B b w v l) (hlen : bs.length + (putL g0 l).length <= 140737488355328) (hBw : B <= w.heap.size) :
  Calls prog 43 #[.pointer (some ⟨b, 0, none⟩), v] w λ e w' => e = .returned (.tuple #[]) /\ mM B b (bs ++ putL g0 l) (g0 || !l.isEmpty) w' /\ a8 B b w w' := by
 have hT := zH hl; obtain ⟨⟨A, c, rfl, hc, hm, _⟩, _⟩ := hl; have hlm : l.length <= 9223372036854775807 := (by unfold maxLen at hm; omega); have HL := zH hlen; have H0 := zH h; have HB := zH hBw; clear hc hm hlen h hBw; go_enter func43, ntmps43
 go_wp2_with fail
 go_loopg [8] l.length (λ g v wr => ∃ k : Nat, k + g = l.length /\ v = .int .i64 k /\ mM B b (bs ++ putL g0 (l.take k)) (g0 || !(l.take k).isEmpty) wr /\ a8 B b w wr)
 case atStart => exact ⟨0, by omega, rfl, by simpa [putL] using H0.o, a8.refl _ _ _⟩
 case round =>
  obtain ⟨k, hkg, rfl, hto, hbw⟩ := hrel; have HK := zH hkg; have HW := zH hbw; have HTO := zH hto; have HBR := zH (Nat.le_trans HB.o hbw.1.size); have hkl : k <= l.length := zO; clear hkg hbw hto; by_cases hlt : k < l.length
  . obtain ⟨x, hx⟩ := zG hlt; obtain ⟨a, rfl, d0⟩ := hT.o.cell HW.o hx; rw [Nat.mul_one] at d0; have HS := zH (show putL g0 (l.take (k + 1)) = putL g0 (l.take k) ++ putL (g0 || !(l.take k).isEmpty) [x] by rw [br hx, kK]); have HF := zH (show (g0 || !(l.take (k + 1)).isEmpty) = true by rw [br hx]; simp)
    have HN := zH (show bs.length + (putL g0 (l.take (k + 1))).length <= 140737488355328 by
     have e : putL g0 l = putL g0 (l.take (k + 1)) ++ putL (g0 || !(l.take (k + 1)).isEmpty) (l.drop (k + 1)) := (by rw [<- kK, List.take_append_drop]); have := HL.o; rw [e, List.length_append] at this; omega)
    clear hx; have HT1 := HTO.o; generalize hg1 : (g0 || !(l.take k).isEmpty) = g1 at HT1 HS; generalize hb1 : bs ++ putL g0 (l.take k) = bs1 at HT1; have HB1 := zH hb1; clear hg1 hb1 HTO; have HT2 := zH HT1; obtain ⟨p, hp⟩ : ∃ p, cL B b p (Lib.byteCells bs1) g1 wr := HT1.elim (λ h => ⟨_, h⟩) (λ h => ⟨_, h⟩); obtain ⟨hBb, vv, hbk, _, _⟩ := hp; have c2 : wr.cell? ⟨b, 2, none⟩ = some (.bool g1) := (by rw [Lib.cell_of_heap hbk]; rfl); have f2 : wr.frozen? ⟨b, 2, none⟩ = false := Lib.frozen_of_heap hbk 2; clear HT1 hbk; cases g1
    . have HQ := zH (show bs1.length + x.length <= 140737488355328 by have := HN.o; rw [HS.o, <- List.length_append, <- List.append_assoc, HB1.o] at this; simpa [putL] using this); have HP := zH (show mM B b bs1 true (wr.setCell ⟨b, 2, none⟩ (.bool true)) from HT2.o.elim (λ h => .inl (h.begun true)) (λ h => .inr (h.begun true))); have HKS := zH (show a8 B b wr (wr.setCell ⟨b, 2, none⟩ (.bool true)) from ⟨(Below.refl B wr).setCell (p := ⟨b, 2, none⟩) hBb _, (Lib.OthersKept.refl _ _ wr).setCell ⟨b, 2, none⟩ rfl _⟩); go_wp2_with (go_at_call 96; refine (ml B b _ true (str x) _ HP.o (by rw [Lib.byteCells_length]; exact HQ.o) (Nat.le_trans HBR.o HKS.o.1.size)).mono ?_; rintro e w1 ⟨rfl, ht1, hk1⟩)
      rw [uc] at ht1; go_roundg (l.length - (k + 1))
      case measure => have := HK.o; omega
      case rel => exact ⟨k + 1, by omega, by go_num, by rw [HF.o, HS.o, <- List.append_assoc, HB1.o]; simpa [putL] using (show mM B b (bs1 ++ x) true w1 from .inr ht1), HW.o.trans (HKS.o.trans hk1)⟩
    . have HQ := zH (show bs1.length + (x.length + 1) <= 140737488355328 by have := HN.o; rw [HS.o, <- List.length_append, <- List.append_assoc, HB1.o] at this; simpa [putL] using this); have HQ2 := zH (show (Lib.byteCells (bs1 ++ [32])).length + (str x).size <= 140737488355328 by rw [Lib.byteCells_length, List.length_append]; have := HQ.o; simp only [fS, List.length_cons, List.length_nil]; omega)
      go_wp2_with (first
       | (go_at_call 95; refine (xQ B b _ true 32 _ HT2.o (by rw [Lib.byteCells_length]; have := HQ.o; omega) HBR.o).mono ?_; rintro e w1 ⟨rfl, ht1, hk1⟩; rw [zi] at ht1; have HTW := zH ht1; have HKW := zH hk1; obtain ⟨_, vv1, hbk1, _, _⟩ := ht1; have e2 : w1.cell? ⟨b, 2, none⟩ = some (.bool true) := (by rw [Lib.cell_of_heap hbk1]; rfl); have k2 : w1.frozen? ⟨b, 2, none⟩ = false := Lib.frozen_of_heap hbk1 2; clear hbk1 hk1; have HP := zH (show mM B b (bs1 ++ [32]) true (w1.setCell ⟨b, 2, none⟩ (.bool true)) from .inr (HTW.o.begun true)); have HKS := zH (show a8 B b wr (w1.setCell ⟨b, 2, none⟩ (.bool true)) from HKW.o.trans ⟨(Below.refl B w1).setCell (p := ⟨b, 2, none⟩) hBb _, (Lib.OthersKept.refl _ _ w1).setCell ⟨b, 2, none⟩ rfl _⟩))
       | (go_at_call 96; refine (ml B b _ true (str x) _ HP.o HQ2.o (Nat.le_trans HBR.o HKS.o.1.size)).mono ?_; rintro e w2 ⟨rfl, ht2, hk2⟩))
      rw [uc] at ht2; go_roundg (l.length - (k + 1))
      case measure => have := HK.o; omega
      case rel => exact ⟨k + 1, by omega, by go_num, by rw [HF.o, HS.o, <- List.append_assoc, HB1.o]; simpa [putL] using (show mM B b (bs1 ++ [32] ++ x) true w2 from .inr ht2), HW.o.trans (HKS.o.trans hk2)⟩
  . have hke : k = l.length := by omega
    have HKE := zH hke; clear hke; go_wp2_with fail
    go_end0
    refine ⟨rfl, ?_, HW.o⟩; have := HTO.o; rwa [HKE.o, List.take_length] at this
def bl (B b : Nat) (ts : List Tx) (w : World) : Prop := mM B b (putL false ts) (!ts.isEmpty) w /\ B <= w.heap.size
def aM (ts : List Tx) : Prop := (putL false ts).length <= 140737488355328
theorem aM.left {a r : List Tx} (h : aM (a ++ r)) : aM a := by
 unfold aM at h ⊢; rw [kK, List.length_append] at h; omega
theorem bl.alloc {B b : Nat} {ts : List Tx} {w : World} (h : bl B b ts w) (o : Obj) : bl B b ts (w.alloc o) := ⟨eZ.alloc h.1 o, by have := h.2; simp; omega⟩
theorem bl.lt {B b : Nat} {ts : List Tx} {w : World} (h : bl B b ts w) : b < w.heap.size := eZ.lt h.1
def a7 (B b : Nat) (ts : List Tx) (w : World) (e : Ending) (w' : World) : Prop := e = .returned (.tuple #[]) /\ bl B b ts w' /\ a8 B b w w'
def tks (l : List ByteArray) : List Tx := l.map λ x => x.data.toList
theorem a8.alloc {B b : Nat} {w w' : World} (h : a8 B b w w') (hB : B <= w.heap.size) (o : Obj) : a8 B b w (w'.alloc o) := ⟨h.1.alloc (by have := h.1.size; omega) o, h.2.alloc o⟩
theorem kJ {B b : Nat} {ts : List Tx} {W : World} (xs : List ByteArray) (h : bl B b ts W) (hlen : aM (ts ++ tks xs)) (hx : ∀ x ∈ xs, x.size <= maxLen) (hn : xs.length <= maxLen) :
  Calls prog 43 #[.pointer (some ⟨b, 0, none⟩), .slice (some ⟨W.heap.size, 0, none⟩) xs.length xs.length] (W.alloc (.cells (xs.map Value.string).toArray 9)) (a7 B b (ts ++ tks xs) W) := by
 have hh := heap_alloc_new W (.cells (xs.map Value.string).toArray 9); have hne : W.heap.size ≠ b := λ e => by have := h.lt; omega
 have hw := h.alloc (.cells (xs.map Value.string).toArray 9); have hv : dp B b (W.alloc (.cells (xs.map Value.string).toArray 9)) (.slice (some ⟨W.heap.size, 0, none⟩) xs.length xs.length) (tks xs) := by
  refine ⟨⟨some ⟨W.heap.size, 0, none⟩, xs.length, by simp [tks], by simp [tks], hn, λ i x hx' => ?_⟩, λ A n c e _ => ?_⟩
  . obtain ⟨y, hy, rfl⟩ : ∃ y, xs[i]? = some y /\ y.data.toList = x := by simpa [tks] using hx'
    refine ⟨[.string y], ⟨_, rfl, λ j u hu => ?_⟩, by rw [str_eq], by have := hx y (List.mem_of_getElem? hy); rw [Array.length_toList]; exact this⟩; match j, hu with
    | 0, hu =>
      simp at hu; subst hu; rw [add_zero]; have ha : (⟨W.heap.size, 0, none⟩ : Addr).add (i * [Value.string y].length) = ⟨W.heap.size, i, none⟩ := (by unfold Addr.add; split <;> simp_all)
      rw [ha, cell_of_row _ _ _ _ _ _ hh]; simp [hy]
  . injection e with e _ _; injection e with e; subst e; exact .inr ⟨hne, _, _, _, hh, by decide⟩
 have hp : putL false ts ++ putL (!ts.isEmpty) (tks xs) = putL false (ts ++ tks xs) := (by rw [kK]; simp); refine (CT _ hw.1 hv (by have := hlen; unfold aM at this; rw [<- hp, List.length_append] at this; exact this) hw.2).mono ?_; rintro e w' ⟨rfl, h1, h2⟩; refine ⟨rfl, ⟨?_, Nat.le_trans hw.2 h2.1.size⟩, ((a8.refl B b W).alloc h.2 _).trans h2⟩; rw [hp] at h1; have : (!ts.isEmpty || !(tks xs).isEmpty) = !(ts ++ tks xs).isEmpty := by cases ts <;> simp
 rwa [this] at h1
theorem CV {B b : Nat} {ts : List Tx} {W : World} {x : ByteArray} (h : bl B b ts W) (hlen : aM (ts ++ [x.data.toList])) (hx : x.size <= maxLen) :
  Calls prog 43 #[.pointer (some ⟨b, 0, none⟩), .slice (some ⟨W.heap.size, 0, none⟩) 1 1] (W.alloc (.cells #[.string x] 9)) (a7 B b (ts ++ [x.data.toList]) W) :=
 kJ [x] h hlen (by simpa using hx) (by simp only [List.length_cons, List.length_nil]; decide)
theorem F9 {B b : Nat} {ts : List Tx} {W : World} {x y : ByteArray} (h : bl B b ts W) (hlen : aM (ts ++ [x.data.toList, y.data.toList])) (hx : x.size <= maxLen) (hy : y.size <= maxLen) :
  Calls prog 43 #[.pointer (some ⟨b, 0, none⟩), .slice (some ⟨W.heap.size, 0, none⟩) 2 2] (W.alloc (.cells #[.string x, .string y] 9)) (a7 B b (ts ++ [x.data.toList, y.data.toList]) W) :=
 kJ [x, y] h hlen (by simp [hx, hy]) (by simp only [List.length_cons, List.length_nil]; decide)
theorem F8 {B b : Nat} {ts : List Tx} {W : World} {x y z : ByteArray} (h : bl B b ts W) (hlen : aM (ts ++ [x.data.toList, y.data.toList, z.data.toList])) (hx : x.size <= maxLen) (hy : y.size <= maxLen) (hz : z.size <= maxLen) :
  Calls prog 43 #[.pointer (some ⟨b, 0, none⟩), .slice (some ⟨W.heap.size, 0, none⟩) 3 3] (W.alloc (.cells #[.string x, .string y, .string z] 9)) (a7 B b (ts ++ [x.data.toList, y.data.toList, z.data.toList]) W) :=
 kJ [x, y, z] h hlen (by simp [hx, hy, hz]) (by simp only [List.length_cons, List.length_nil]; decide)
theorem tz (s : Tx) {l : List Tx} {k : Nat} {x : Tx} (h : l[k]? = some x) : di s (l.take (k + 1)) = di s (l.take k) ++ (if k = 0 then [x] else [s, x]) := by
 have hk : k < l.length := (List.getElem?_eq_some_iff.1 h).1; unfold di; rw [br h, List.map_append, List.map_cons, List.map_nil, lK]; congr 1
 by_cases h0 : k = 0
 . subst h0; simp
 . have h1 : (l.take k).map (λ x => [x]) ≠ [] := by
    intro e; have := congrArg List.length e; rw [List.length_map, List.length_take, List.length_nil] at this; omega
   rw [if_neg h1, if_neg h0]; rfl
theorem aM.take {ts : List Tx} {s : Tx} {l : List Tx} (h : aM (ts ++ di s l)) (k : Nat) : aM (ts ++ di s (l.take k)) := by
 have e : ∀ m : List Tx, ∃ r, di s (l.take k ++ m) = di s (l.take k) ++ r := by
  intro m; unfold di; rw [List.map_append]; cases hl : (l.take k).map λ x => [x] with
  | nil => exact ⟨_, by simp [gK]; rfl⟩
  | cons y r => exact ⟨_, by simp only [List.cons_append, gK, List.flatMap_append, <- List.append_assoc]; rfl⟩
 obtain ⟨r, hr⟩ := e (l.drop k); rw [List.take_append_drop] at hr; rw [hr, <- List.append_assoc] at h; exact h.left
theorem xg {B b : Nat} {ts : List Tx} {v : Value} {l : List Tx} {s : Tx} (w : World) (h : bl B b ts w) (hl : dp B b w v l) (hlen : aM (ts ++ di s l)) (hs : s.length <= maxLen) :
  Calls prog 100 #[.pointer (some ⟨b, 0, none⟩), v, .string (str s)] w (a7 B b (ts ++ di s l) w) := by
 have hT := zH hl; obtain ⟨⟨A, c, rfl, hc, hm, hE⟩, _⟩ := hl; have hlm : l.length <= 9223372036854775807 := (by unfold maxLen at hm; omega); have HE := zH (show ∀ (i : Nat) x, l[i]? = some x -> x.length <= maxLen from λ i x hx => by obtain ⟨_, _, _, h⟩ := hE i x hx; exact h); have HL := zH hlen; have H0 := zH h; have HS := zH (show (str s).size <= maxLen from hs); clear hc hm hlen h hE hs; go_enter func100, ntmps100
 go_wp2_with fail
 go_loopg [10] l.length (λ g v wr => ∃ k : Nat, k + g = l.length /\ v = .int .i64 k /\ bl B b (ts ++ di s (l.take k)) wr /\ a8 B b w wr)
 case atStart => exact ⟨0, by omega, rfl, by simpa [di, gK] using H0.o, a8.refl _ _ _⟩
 case round =>
  obtain ⟨k, hkg, rfl, hto, hbw⟩ := hrel; have HK := zH hkg; have HW := zH hbw; have HTO := zH hto; have hkl : k <= l.length := zO; clear hkg hbw hto; by_cases hlt : k < l.length
  . obtain ⟨x, hx⟩ := zG hlt; obtain ⟨a, rfl, d0⟩ := hT.o.cell HW.o hx; rw [Nat.mul_one] at d0; have HX := zH (show (str x).size <= maxLen from HE.o k x hx); have HN := zH (HL.o.take (k + 1)); have HE1 := zH (tz s hx); clear hx; by_cases h0 : k = 0
    . subst h0; rw [add_zero] at d0; have HN1 := zH (show aM (ts ++ di s (l.take 0) ++ [x]) by have := HN.o; rw [HE1.o, if_pos rfl, <- List.append_assoc] at this; exact this); go_wp2_with (go_at_call 43; refine (CV HTO.o HN1.o HX.o).mono ?_; rintro e w1 ⟨rfl, ht1, hk1⟩)
      go_roundg (l.length - 1)
      case measure => have := HK.o; omega
      case rel => exact ⟨1, by omega, by go_num, by rw [HE1.o]; simp only [↓reduceIte, <- List.append_assoc]; exact ht1, HW.o.trans hk1⟩
    . have hk0 : 0 < k := by omega
      have HN2 := zH (show aM (ts ++ di s (l.take k) ++ [(str s).data.toList] ++ [(str x).data.toList]) by have := HN.o; rw [HE1.o, if_neg h0] at this; simpa [aV] using this); have H00 := zH h0; clear h0
      go_wp2_with (first
       | (go_at_call 43; with_reducible refine (CV HTO.o HN2.o.left HS.o).mono ?_
          rintro e w1 ⟨rfl, ht1, hk1⟩)
       | (go_at_call 43; with_reducible refine (CV ht1 HN2.o HX.o).mono ?_
          rintro e w2 ⟨rfl, ht2, hk2⟩))
      go_roundg (l.length - (k + 1))
      case measure => have := HK.o; omega
      case rel => exact ⟨k + 1, by omega, by go_num, by rw [HE1.o, if_neg H00.o]; simpa [aV] using ht2, HW.o.trans (hk1.trans hk2)⟩
  . have hke : k = l.length := by omega
    have HKE := zH hke; clear hke; go_wp2_with fail
    go_end0
    refine ⟨rfl, ?_, HW.o⟩; have := HTO.o; rwa [HKE.o, List.take_length] at this
def Ek (B b : Nat) (w0 : World) (L : List Value) (x : Ex) : Prop := ∀ (w : World) (ts : List Tx), bl B b ts w -> Below w0.heap.size w0 w -> aM (ts ++ aA x) ->
 Calls prog 19 #[.pointer (some ⟨b, 0, none⟩), .agg L.toArray] w (a7 B b (ts ++ aA x) w)
structure dd (B b : Nat) (w0 : World) (nm : Tx) (cs : List Tx) (ks : List Ex) (cv : Value) (A : Option Addr) (c : Nat) (C : Nat -> List Value) : Prop where
 size : w0.heap.size <= B
 hnm : (str nm).size <= maxLen
 hcs : aG w0 cv cs
 hl : ks.length <= c
 hc : c <= maxLen
 hk : ∀ (i : Nat) y, ks[i]? = some y -> cB w0 A i (C i)
 hx : ∀ (i : Nat) y, ks[i]? = some y -> aT w0 (C i) y
 ih : ∀ (i : Nat) y, ks[i]? = some y -> Ek B b w0 (C i) y
theorem cy {B b N : Nat} {W w1 : World} {cs : Array Value} {T : TypeId} (h : a8 B b W w1) (hb : W.heap[N]? = some (.cells cs T (0, 0))) (hN : N ≠ b) (hT : T ≠ 5) : w1.heap[N]? = some (.cells cs T (0, 0)) :=
 h.2 N _ hb (λ e => hN (by simpa using e)) λ c' fz' e => by injection e with _ e; exact hT e
theorem bu {x : ByteArray} (h : x.size <= 100) : x.size <= maxLen := by unfold maxLen; omega
theorem dy {B b N : Nat} {ts : List Tx} {W : World} (x : ByteArray) (h : bl B b ts W) (hlen : aM (ts ++ [x.data.toList])) (hx : x.size <= maxLen) (hN : W.heap.size = N) :
  Calls prog 43 #[.pointer (some ⟨b, 0, none⟩), .slice (some ⟨N, 0, none⟩) 1 1] (W.alloc (.cells #[.string x] 9)) (a7 B b (ts ++ [x.data.toList]) W) := by
 subst hN; exact CV h hlen hx
theorem wP {B b N : Nat} {ts : List Tx} {W : World} (x y : ByteArray) (h : bl B b ts W) (hlen : aM (ts ++ [x.data.toList, y.data.toList])) (hx : x.size <= maxLen) (hy : y.size <= maxLen) (hN : W.heap.size = N) :
  Calls prog 43 #[.pointer (some ⟨b, 0, none⟩), .slice (some ⟨N, 0, none⟩) 2 2] (W.alloc (.cells #[.string x, .string y] 9)) (a7 B b (ts ++ [x.data.toList, y.data.toList]) W) := by
 subst hN; exact F9 h hlen hx hy
theorem FG {B b N : Nat} {ts : List Tx} {W : World} (x y z : ByteArray) (h : bl B b ts W) (hlen : aM (ts ++ [x.data.toList, y.data.toList, z.data.toList])) (hx : x.size <= maxLen) (hy : y.size <= maxLen) (hz : z.size <= maxLen) (hN : W.heap.size = N) :
  Calls prog 43 #[.pointer (some ⟨b, 0, none⟩), .slice (some ⟨N, 0, none⟩) 3 3] (W.alloc (.cells #[.string x, .string y, .string z] 9)) (a7 B b (ts ++ [x.data.toList, y.data.toList, z.data.toList]) W) := by
 subst hN; exact F8 h hlen hx hy hz
theorem rM {B b : Nat} {w0 : World} {op n : Int} {nm : Tx} {cs : List Tx} {ks : List Ex} {cv : Value} {A : Option Addr} {c : Nat} {C : Nat -> List Value} (h : dd B b w0 nm cs ks cv A c C) (i : Nat) {w : World} {ts : List Tx} (ht : bl B b ts w) (hb : Below w0.heap.size w0 w) (hn : aM (ts ++ fi (ks.map aA) i)) :
  Calls prog 99 #[.pointer (some ⟨b, 0, none⟩), .agg #[.int .i64 op, .string (str nm), .int .i64 n, cv, .slice A ks.length c], .int .i64 i] w (a7 B b (ts ++ fi (ks.map aA) i) w) := by
 have HT := zH ht; have HB := zH hb; have hlm : ks.length <= 9223372036854775807 := (by have := h.hl; have := h.hc; unfold maxLen at this; omega); have hsz := hb.size; have hcv : ∃ A2 n2 k2, cv = .slice A2 n2 k2 := (by obtain ⟨A2, k2, e, _⟩ := h.hcs; exact ⟨_, _, _, e⟩); obtain ⟨A2, n2, k2, rfl⟩ := hcv; by_cases hlt : i < ks.length
 . obtain ⟨y, hy⟩ := zG hlt; have ek : fi (ks.map aA) i = aA y := (by simp [fi, List.getD, hy]); rw [ek] at hn ⊢; have HN := zH hn; have hC := h.hk i y hy; have HI := zH (h.ih i y hy); obtain ⟨o1, s1, n1, A3, m1, k1, A4, m2, k4, hL⟩ := (h.hx i y hy).shape; generalize C i = L at hC HI hL; subst hL; clear hy ek hn h ht; obtain ⟨a, rfl, ha, haa, d0, d1, d2, d3, d4⟩ := dR (hC.under hb); clear hC hb; go_enter func99, ntmps99
   go_wp2_with (go_at_call 19; refine (HI.o _ _ (HT.o.alloc _) (HB.o.alloc zO _) HN.o).mono ?_; rintro e w1 ⟨rfl, ht1, hk1⟩)
   go_end0
   exact ⟨rfl, ht1, ((a8.refl B b w).alloc HT.o.2 _).trans hk1⟩
 . have ek : fi (ks.map aA) i = [[63]] := by simp [fi, List.getD, List.getElem?_eq_none (Nat.le_of_not_lt hlt)]
   rw [ek] at hn ⊢; have HN := zH (show aM (ts ++ [(⟨#[63]⟩ : ByteArray).data.toList]) from hn); clear ek hn h ht hb; go_enter func99, ntmps99
   go_wp2_with (go_at_call 43; (with_reducible refine (dy ⟨#[63]⟩ (HT.o.alloc _) HN.o (bu zD) (by simp)).mono ?_); rintro e w1 ⟨rfl, ht1, hk1⟩)
   go_end0
   exact ⟨rfl, ht1, ((a8.refl B b w).alloc HT.o.2 _).trans hk1⟩
theorem oo {B b : Nat} {w0 : World} {op n : Int} {nm o : Tx} {cs : List Tx} {ks : List Ex} {cv : Value} {A : Option Addr} {c : Nat} {C : Nat -> List Value} (h : dd B b w0 nm cs ks cv A c C) (ho : (str o).size <= maxLen) {w : World} {ts : List Tx} (ht : bl B b ts w) (hb : Below w0.heap.size w0 w) (hn : aM (ts ++ fc o (ks.map aA))) :
  Calls prog 46 #[.pointer (some ⟨b, 0, none⟩), .string (str o), .agg #[.int .i64 op, .string (str nm), .int .i64 n, cv, .slice A ks.length c]] w (a7 B b (ts ++ fc o (ks.map aA)) w) := by
 have HT := zH ht; have HB := zH hb; have HH := zH h; have HO := zH ho; have hsz := hb.size; have hblt := ht.lt; obtain ⟨A2, n2, k2, rfl⟩ : ∃ A2 n2 k2, cv = .slice A2 n2 k2 := by obtain ⟨A2, k2, e, _⟩ := h.hcs; exact ⟨_, _, _, e⟩
 have HN := zH (show aM (ts ++ [(⟨#[40]⟩ : ByteArray).data.toList, (str o).data.toList] ++ fi (ks.map aA) 0 ++ [(⟨#[41]⟩ : ByteArray).data.toList]) by simpa [fc, aV] using hn); clear h hn ht hb ho; go_enter func46, ntmps46
 go_wp2_with (first
  | (go_at_call 43; (with_reducible refine (wP ⟨#[40]⟩ (str o) (HT.o.alloc _) HN.o.left.left (bu zD) HO.o (by simp)).mono ?_); rintro e w1 ⟨rfl, ht1, hk1⟩; have hbx := cy hk1 (heap_alloc_new w _) zO zD; obtain ⟨d0, d1, d2, d3, d4⟩ := aN hbx; have HT1 := zH ht1; have HK1 := zH (((a8.refl B b w).alloc HT.o.2 _).trans hk1); clear ht1 hk1 hbx)
  | (go_at_call 99; (refine (rM HH.o 0 HT1.o (HB.o.trans (HK1.o.1.mono HH.o.size)) HN.o.left).mono ?_)
     rintro e w2 ⟨rfl, ht2, hk2⟩)
  | (go_at_call 43; (with_reducible refine (dy ⟨#[41]⟩ ht2 HN.o (bu zD) rfl).mono ?_); rintro e w3 ⟨rfl, ht3, hk3⟩))
 go_end0
 exact ⟨rfl, by simpa [fc, aV] using ht3, HK1.o.trans (hk2.trans hk3)⟩
theorem qZ (W : World) (q : Option Addr) : (Builtin.unsafeString_ #[107, 3] 9 #[.pointer q, .int .i64 0]).run prog W = .ok (.string .empty) W := Lib.run_unsafeString_none W _ _ _ q
theorem rb : prog.follows Departure.mixedOrders = true := by kernel_rfl
theorem Fr : prog.underlying 107 = some (.pointer 5) := by kernel_rfl
theorem uC (B b : Nat) (p : Value) (g0 : Bool) (l : List UInt8) (w : World) (h : cL B b p (Lib.byteCells l) g0 w) (h0 : l ≠ []) :
  Calls prog 20 #[.pointer (some ⟨b, 0, none⟩)] w λ e w' => e = .returned (.string (str l)) /\ Below B w w' := by
 obtain ⟨hB, v, hbk, hown, hne⟩ := h; have hl0 : l.length ≠ 0 := (by simpa using h0); rw [Lib.byteCells_length] at hown; obtain ⟨g, cap, cur, fz, rfl, hbg, hg, hfz, hnc, hcm, hcs, htake⟩ : ∃ g cap cur fz, v = .slice (some ⟨g, 0, none⟩) l.length cap /\ B <= g /\ w.heap[g]? = some (.cells cur 5 fz) /\ fz.2 <= l.length * 1 /\ l.length <= cap /\ cap <= maxLen /\ cur.size = cap * 1 /\ cur.toList.take (l.length * 1) = Lib.byteCells l := by
  rcases hown.2 with ⟨_, hz⟩ | ⟨g, cap, cur, fz, hv, r⟩
  . exact absurd hz hl0
  . exact ⟨g, cap, cur, fz, hv, r⟩
 have c1 : w.drew.cell? ⟨b, 1, none⟩ = some (.slice (some ⟨g, 0, none⟩) l.length cap) := by
  have : w.drew.heap[b]? = some (.cells #[p, .slice (some ⟨g, 0, none⟩) l.length cap, .bool g0] 64 (0, 0)) := hbk; rw [Lib.cell_of_heap this]; rfl
 have hSD : (Builtin.unsafeSliceData_ #[60] 107 #[.slice (some ⟨g, 0, none⟩) l.length cap]).run prog w.drew = .ok (.pointer (some ⟨g, 0, none⟩)) w.drew :=
  Lib.run_unsafeSliceData_row _ _ _ _ _ _ zO
 have hUS : (Builtin.unsafeString_ #[107, 3] 9 #[.pointer (some ⟨g, 0, none⟩), .int .i64 l.length]).run prog w.drew = .ok (.string ⟨l.toArray⟩) (w.drew.freeze ⟨g, 0, none⟩ l.length) := by
  refine Lib.run_unsafeString_row w.drew 107 3 9 5 Fr Cj.cellsByte g cur.size (by have hg' : w.drew.heap[g]? = some (.cells cur 5 fz) := hg; simp [World.shape?, hg']) l h0 zO (by unfold maxLen at hcm; omega) ?_; intro j x hx; exact hown.cells (g := g) rfl j (.int .u8 x.toNat) (by simp [Lib.byteCells, hx])
 have mixed := rb; go_enter func20, ntmps20
 go_wp2; go_region_o
 all_goals (go_wp2; go_ret; exact ⟨rfl, Lib.below_freeze (Below.drew (Below.refl B w)) (p := ⟨g, 0, none⟩) hbg _⟩)
theorem xO (B b : Nat) (p : Value) (g0 : Bool) (w : World) (hbk : w.heap[b]? = some (.cells #[p, .slice none 0 0, .bool g0] 64 (0, 0))) :
  Calls prog 20 #[.pointer (some ⟨b, 0, none⟩)] w λ e w' => e = .returned (.string (str [])) /\ Below B w w' := by
 have hUS := qZ; have c1 : w.drew.cell? ⟨b, 1, none⟩ = some (.slice none 0 0) := by
  have : w.drew.heap[b]? = some (.cells #[p, .slice none 0 0, .bool g0] 64 (0, 0)) := hbk; rw [Lib.cell_of_heap this]; rfl
 have hSD : (Builtin.unsafeSliceData_ #[60] 107 #[.slice none 0 0]).run prog w.drew = .ok (.pointer none) w.drew := rfl; have mixed := rb; go_enter func20, ntmps20
 go_wp2; go_region_o
 all_goals (go_wp2; go_ret; exact ⟨rfl, Below.drew (Below.refl B w)⟩)
theorem ra (B b g : Nat) (p : Value) (g0 : Bool) (cur : Array Value) (w : World) (hBw : B <= w.heap.size) (hbk : w.heap[b]? = some (.cells #[p, .slice (some ⟨g, 0, none⟩) 0 0, .bool g0] 64 (0, 0))) (fz : Nat × Nat) (hg : w.heap[g]? = some (.cells cur 5 fz)) :
  Calls prog 20 #[.pointer (some ⟨b, 0, none⟩)] w λ e w' => e = .returned (.string (str [])) /\ Below B w w' := by
 have hUS := qZ; have hlt := ar hbk; have c1 : w.drew.cell? ⟨b, 1, none⟩ = some (.slice (some ⟨g, 0, none⟩) 0 0) := by
  have : w.drew.heap[b]? = some (.cells #[p, .slice (some ⟨g, 0, none⟩) 0 0, .bool g0] 64 (0, 0)) := hbk; rw [Lib.cell_of_heap this]; rfl
 have hSD : (Builtin.unsafeSliceData_ #[60] 107 #[.slice (some ⟨g, 0, none⟩) 0 0]).run prog w.drew = .ok (.pointer (some ⟨w.drew.heap.size, 0, none⟩)) (w.drew.alloc (.view ⟨g, 0, none⟩ 5)) :=
  Lib.run_unsafeSliceData_zero w.drew _ _ 5 Fr ⟨g, 0, none⟩ 0 (5, cur.size) (by have hg' : w.drew.heap[g]? = some (.cells cur 5 fz) := hg; simp [World.shape?, hg'])
 have c2 : (w.drew.alloc (.view ⟨g, 0, none⟩ 5)).cell? ⟨b, 1, none⟩ = some (.slice (some ⟨g, 0, none⟩) 0 0) := by
  have : (w.drew.alloc (.view ⟨g, 0, none⟩ 5)).heap[b]? = _ := (Lib.alloc_old w.drew _ b hlt).trans hbk; rw [Lib.cell_of_heap this]; rfl
 have c3 : (w.alloc (.view ⟨g, 0, none⟩ 5)).drew.cell? ⟨b, 1, none⟩ = some (.slice (some ⟨g, 0, none⟩) 0 0) := c2; have c0 : w.cell? ⟨b, 1, none⟩ = some (.slice (some ⟨g, 0, none⟩) 0 0) := c1; have mixed := rb; go_enter func20, ntmps20
 go_wp2; go_region_o
 all_goals (go_wp2; go_ret; exact ⟨rfl, (Below.drew (Below.refl B w)).alloc hBw _⟩)
theorem uD (B b g cap : Nat) (p : Value) (g0 : Bool) (w : World) (hc0 : cap ≠ 0) (hbk : w.heap[b]? = some (.cells #[p, .slice (some ⟨g, 0, none⟩) 0 cap, .bool g0] 64 (0, 0))) :
  Calls prog 20 #[.pointer (some ⟨b, 0, none⟩)] w λ e w' => e = .returned (.string (str [])) /\ Below B w w' := by
 have hUS := qZ; have c1 : w.drew.cell? ⟨b, 1, none⟩ = some (.slice (some ⟨g, 0, none⟩) 0 cap) := by
  have : w.drew.heap[b]? = some (.cells #[p, .slice (some ⟨g, 0, none⟩) 0 cap, .bool g0] 64 (0, 0)) := hbk; rw [Lib.cell_of_heap this]; rfl
 have hSD : (Builtin.unsafeSliceData_ #[60] 107 #[.slice (some ⟨g, 0, none⟩) 0 cap]).run prog w.drew = .ok (.pointer (some ⟨g, 0, none⟩)) w.drew :=
  Lib.run_unsafeSliceData_row _ _ _ _ _ _ hc0
 clear hc0; have mixed := rb; go_enter func20, ntmps20
 go_wp2; go_region_o
 all_goals (go_wp2; go_ret; exact ⟨rfl, Below.drew (Below.refl B w)⟩)
theorem xP (B b : Nat) (g0 : Bool) (l : List UInt8) (w : World) (h : eZ B b (Lib.byteCells l) g0 w) (hBw : B <= w.heap.size) :
  Calls prog 20 #[.pointer (some ⟨b, 0, none⟩)] w λ e w' => e = .returned (.string (str l)) /\ Below B w w' := by
 obtain ⟨p, h⟩ : ∃ p, cL B b p (Lib.byteCells l) g0 w := h.elim (λ h => ⟨_, h⟩) (λ h => ⟨_, h⟩); cases l with
 | cons x r => exact uC B b p g0 (x :: r) w h (by simp)
 | nil =>
   obtain ⟨hB, v, hbk, hown, hne⟩ := h; rcases hown.2 with ⟨rfl, _⟩ | ⟨g, cap, cur, fz, rfl, hbg, hg, _, _, _, _, _⟩
   . exact xO B b p g0 w hbk
   . by_cases hc0 : cap = 0
     . subst hc0; exact ra B b g p g0 cur w hBw hbk fz hg
     . exact uD B b g cap p g0 w hc0 hbk
end Go.Proofs.YtdcjlihaldhhjaaGreatDoor
