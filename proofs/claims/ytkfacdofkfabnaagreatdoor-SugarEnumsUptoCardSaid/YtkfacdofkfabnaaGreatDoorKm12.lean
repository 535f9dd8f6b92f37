import Derived.Shelf.Strings.BuilderK
import Derived.Test.YtkfacdofkfabnaaGreatDoorShelf
import Derived.Test.YtkfacdofkfabnaaGreatDoorKm08
set_option maxHeartbeats 2000000
set_option maxRecDepth 100000
namespace Go.Proofs.YtkfacdofkfabnaaGreatDoor
open _root_.Go.Proofs.Tryz
open Go.RowKit
theorem Fp : Builder.Extra prog lays169_ren := Tryz.Builder_Extra_169
theorem BW : liesAt prog prog.depth 68 (3 / prog.cellsOf 68) 0 66 1 = true := by kernel_rfl
def de (B b : Nat) (p : Value) (bs : List Value) (g : Bool) (w : World) : Prop :=
 B <= b /\ ∃ v, w.heap[b]? = some (.cells #[p, v, .bool g] 68 (0, 0)) /\ w.ownsRowF B 5 1 v bs.length bs /\ v.ownBlock ≠ some b
def fP (B b : Nat) (bs : List Value) (g : Bool) (w : World) : Prop := de B b (.pointer none) bs g w ∨ de B b (.pointer (some ⟨b, 0, none⟩)) bs g w
section
variable {B b : Nat} {p : Value} {bs : List Value} {g : Bool} {w w' : World}
theorem de.lt (h : de B b p bs g w) : b < w.heap.size := by obtain ⟨_, v, hb, _⟩ := h; exact ak hb
theorem fP.lt (h : fP B b bs g w) : b < w.heap.size := h.elim (λ x => x.lt) (λ x => x.lt)
theorem de.alloc (h : de B b p bs g w) (o : Obj) : de B b p bs g (w.alloc o) := by
 have hlt := h.lt; obtain ⟨hB, v, hb, hown, hne⟩ := h; exact ⟨hB, v, (Lib.alloc_old w o b hlt).trans hb, hown.kept (World.grownBy_alloc w o none) (by cases hv : v.ownBlock <;> simp), hne⟩
theorem fP.alloc (h : fP B b bs g w) (o : Obj) : fP B b bs g (w.alloc o) := h.elim (λ x => .inl (x.alloc o)) (λ x => .inr (x.alloc o))
theorem de.used (h : de B b p bs g w) (q : Value) : de B b q bs g (w.setCell ⟨b, 0, none⟩ q) := by
 obtain ⟨hB, v, hb, hown, hne⟩ := h; refine ⟨hB, v, ?_, ?_, hne⟩
 . simp [World.setCell, Array.getElem?_modify, hb]
 . exact hown.kept (row := some b) ⟨rfl, rfl, rfl, by simp [World.setCell], λ k _ hk => Below.heap_setCell _ _ _ _ (λ e => hk (by simp [e]))⟩ (Or.inr hne)
theorem de.begun (h : de B b p bs g w) (g' : Bool) : de B b p bs g' (w.setCell ⟨b, 2, none⟩ (.bool g')) := by
 obtain ⟨hB, v, hb, hown, hne⟩ := h; refine ⟨hB, v, ?_, ?_, hne⟩
 . simp [World.setCell, Array.getElem?_modify, hb]
 . exact hown.kept (row := some b) ⟨rfl, rfl, rfl, by simp [World.setCell], λ k _ hk => Below.heap_setCell _ _ _ _ (λ e => hk (by simp [e]))⟩ (Or.inr hne)
theorem uw {v v' : Value} {bs' : List Value} (hB : B <= b) (hb : w.heap[b]? = some (.cells #[p, v, .bool g] 68 (0, 0))) (hown : w.ownsRowF B 5 1 v' bs'.length bs') : de B b p bs' g (w.setCell ⟨b, 1, none⟩ v') := by
 have hne := Lib.ownBlock_neF hown hb zD; refine ⟨hB, v', ?_, ?_, hne⟩
 . simp [World.setCell, Array.getElem?_modify, hb]
 . exact hown.kept (row := some b) ⟨rfl, rfl, rfl, by simp [World.setCell], λ k _ hk => Below.heap_setCell _ _ _ _ (λ e => hk (by simp [e]))⟩ (Or.inr hne)
theorem xt (w : World) : fP w.heap.size w.heap.size [] false (w.alloc (.cells #[.pointer none, .slice none 0 0, .bool false] 68)) :=
 .inl ⟨Nat.le_refl _, .slice none 0 0, heap_alloc_new w _, World.ownsRowF_of (World.ownsRow_nil _ _ _ _), by simp [Value.ownBlock]⟩
end
def bl (B b : Nat) (w w' : World) : Prop := Below B w w' /\ Lib.OthersKept 5 (some b) w w'
theorem bl.refl (B b : Nat) (w : World) : bl B b w w := ⟨Below.refl _ _, Lib.OthersKept.refl _ _ _⟩
theorem bl.trans {B b : Nat} {w w1 w2 : World} (h : bl B b w w1) (k : bl B b w1 w2) : bl B b w w2 := ⟨h.1.trans k.1, h.2.trans k.2⟩
theorem xy (b : Nat) (w : World) (h0 : w.cell? ⟨b, 0, none⟩ = some (.pointer (some ⟨b, 0, none⟩))) :
  Calls prog 137 #[.pointer (some ⟨b, 0, none⟩)] w λ e w' => e = .returned (.tuple #[]) /\ w' = w := by
 obtain ⟨j, hj, _⟩ := Option.map_eq_some_iff.1 Fp.sizeBuilder; go_enter func137, ntmps137
 go_wp2; rw [Lib.run_neq_ptr_same w _ underlying63 hj]; go_wp2; go_end0
 exact ⟨rfl, rfl⟩
theorem uy (b : Nat) (w : World) (h0 : w.cell? ⟨b, 0, none⟩ = some (.pointer none)) (hsh : w.shape? b = some (68, 3)) (hfz : w.frozen? ⟨b, 0, none⟩ = false) :
  Calls prog 137 #[.pointer (some ⟨b, 0, none⟩)] w λ e w' => e = .returned (.tuple #[]) /\ w' = w.setCell ⟨b, 0, none⟩ (.pointer (some ⟨b, 0, none⟩)) := by
 obtain ⟨j, hj, hjs⟩ := Option.map_eq_some_iff.1 Fp.sizeBuilder; go_enter func137, ntmps137
 go_wp2; rw [Lib.run_to_unsafe w ⟨b, 0, none⟩ underlying63 underlying217 hj (by rw [hjs]; decide) hsh (Nat.zero_lt_succ 2)]; simp only [Result.andThen]; rw [Oper.upon_value]; go_wp2; rw [run_callFunc_extern func170 zK zK zK (e := Extern.AbiNoEscape.same) zK]; rw [Lib.run_noEscape]; simp only [Result.andThen]; rw [Oper.upon_value]; go_wp2; rw [Lib.run_from_unsafe w ⟨b, 0, none⟩ underlying217 underlying63 hj hsh BW]; simp only [Result.andThen]; rw [Oper.upon_value]; go_wp2; go_end0
 exact ⟨rfl, rfl⟩
theorem rG (B b : Nat) (bs : List Value) (g : Bool) (w : World) (h : fP B b bs g w) :
  Calls prog 137 #[.pointer (some ⟨b, 0, none⟩)] w λ e w' => e = .returned (.tuple #[]) /\ de B b (.pointer (some ⟨b, 0, none⟩)) bs g w' /\ bl B b w w' := by
 rcases h with h | h
 . have h' := h; obtain ⟨hB, v, hb, _⟩ := h'; refine (uy b w (by simp [World.cell?, hb]) (by simp [World.shape?, hb]) (by simp [World.frozen?, hb])).mono ?_; rintro e w' ⟨rfl, rfl⟩; exact ⟨rfl, h.used _, (Below.refl B w).setCell (p := ⟨b, 0, none⟩) h.1 _, (Lib.OthersKept.refl _ _ w).setCell ⟨b, 0, none⟩ rfl _⟩
 . have h' := h; obtain ⟨hB, v, hb, _⟩ := h'; refine (xy b w (by simp [World.cell?, hb])).mono ?_; rintro e w' ⟨rfl, rfl⟩; exact ⟨rfl, h, bl.refl _ _ _⟩
theorem Bi (B b : Nat) (bs : List Value) (g : Bool) (c : Int) (w : World) (h : fP B b bs g w) (hlen : bs.length + 1 <= 140737488355328) (hBw : B <= w.heap.size) :
  Calls prog 93 #[.pointer (some ⟨b, 0, none⟩), .int .u8 c] w λ e w' => e = .returned .nilIface /\ de B b (.pointer (some ⟨b, 0, none⟩)) (bs ++ [.int .u8 c]) g w' /\ bl B b w w' := by
 obtain ⟨i0, hi, hz0, hz1, hz2⟩ := info_parts Fp.infoByte; go_enter func93, ntmps93
 go_wp2_with (go_at_call 137; refine (rG B b bs g _ h).mono ?_)
 rintro e w1 ⟨rfl, h1, hb1, hk1⟩; obtain ⟨hB, v, hbk, hown, hne⟩ := h1; have c0 : w1.cell? ⟨b, 0, none⟩ = some (.pointer (some ⟨b, 0, none⟩)) := (by rw [Lib.cell_of_heap hbk]; rfl); have c1 : w1.cell? ⟨b, 1, none⟩ = some v := (by rw [Lib.cell_of_heap hbk]; rfl); go_wp2_with (at_builtin; refine wpList_append_ownF _ rfl _ _ 64 rfl B 5 i0 (.int .u8 0) 1 1 underlying64 hi hz0 hz1 hz2 rfl zD _ _ _ rfl (hown.alloc _) ⟨w1.heap.size, 0, none⟩ 1 1 [.int .u8 c] rfl rfl ?c1 ?c2 ?c3 ?c4 ?c5 ?_)
 case c1 =>
  intro j u hj; match j, hj with
  | 0, hj => simp at hj; subst hj; simp [Addr.add]
 case c2 => intro u hu; simp at hu; subst hu; rfl
 case c3 => unfold maxLen; omega
 case c4 => omega
 case c5 => have := hb1.size; simp; omega
 intro v' w2 hown' hgrow _; have hlt := ak hbk; have hb2 : w2.heap[b]? = some (.cells #[.pointer (some ⟨b, 0, none⟩), v, .bool g] 68 (0, 0)) := by
  rw [hgrow.block b (by simp; omega) (λ e => hne e.symm), Lib.alloc_old w1 _ b hlt]; exact hbk
 have d0 : w2.cell? ⟨b, 0, none⟩ = some (.pointer (some ⟨b, 0, none⟩)) := (by rw [Lib.cell_of_heap hb2]; rfl); have d1 : w2.cell? ⟨b, 1, none⟩ = some v := (by rw [Lib.cell_of_heap hb2]; rfl); have f1 : w2.frozen? ⟨b, 1, none⟩ = false := Lib.frozen_of_heap hb2 1; obtain ⟨gg, cap, rfl⟩ : ∃ gg cap, v' = .slice (some ⟨gg, 0, none⟩) (bs.length + 1) cap := by
  rcases hown'.2 with ⟨_, h0⟩ | ⟨gg, cap, cur, fz, hv, _⟩
  . omega
  . exact ⟨gg, cap, hv⟩
 go_wp2; go_ret; refine ⟨rfl, ?_, ?_, ((hk1.alloc _).grown hgrow (Lib.ownsRowF_kind (hown.alloc _))).setCell ⟨b, 1, none⟩ rfl _⟩
 . exact uw hB hb2 (bs' := bs ++ [.int .u8 c]) (by simpa using hown')
 . exact ((hb1.alloc (by have := hb1.size; omega) _).grown hgrow (by have := hb1.size; simp; omega) (λ k hk => (hown.lt k hk).1)).setCell (p := ⟨b, 1, none⟩) hB _
theorem oe (B b : Nat) (bs : List Value) (g : Bool) (s : ByteArray) (w : World) (h : fP B b bs g w) (hlen : bs.length + s.size <= 140737488355328) (hBw : B <= w.heap.size) :
  Calls prog 94 #[.pointer (some ⟨b, 0, none⟩), .string s] w λ e w' => e = .returned (.tuple #[.int .i64 s.size, .nilIface]) /\ de B b (.pointer (some ⟨b, 0, none⟩)) (bs ++ Lib.strCells s) g w' /\ bl B b w w' := by
 obtain ⟨i0, hi, hz0, hz1, hz2⟩ := info_parts Fp.infoByte; go_enter func94, ntmps94
 go_wp2_with (go_at_call 137; refine (rG B b bs g _ h).mono ?_)
 rintro e w1 ⟨rfl, h1, hb1, hk1⟩; obtain ⟨hB, v, hbk, hown, hne⟩ := h1; have c0 : w1.cell? ⟨b, 0, none⟩ = some (.pointer (some ⟨b, 0, none⟩)) := (by rw [Lib.cell_of_heap hbk]; rfl); have c1 : w1.cell? ⟨b, 1, none⟩ = some v := (by rw [Lib.cell_of_heap hbk]; rfl); go_wp2_with (at_builtin; refine Lib.wpList_append_own_stringF _ rfl _ _ 64 9 rfl B 5 i0 underlying64 underlying9 hi hz0 hz1 hz2 _ _ _ rfl hown s rfl ?c3 ?c4 ?c5 ?_)
 case c3 => unfold maxLen; omega
 case c4 => omega
 case c5 => have := hb1.size; omega
 intro v' w2 hown' hgrow _; have hlt := ak hbk; have hb2 : w2.heap[b]? = some (.cells #[.pointer (some ⟨b, 0, none⟩), v, .bool g] 68 (0, 0)) := by
  rw [hgrow.block b hlt (λ e => hne e.symm)]; exact hbk
 have d0 : w2.cell? ⟨b, 0, none⟩ = some (.pointer (some ⟨b, 0, none⟩)) := (by rw [Lib.cell_of_heap hb2]; rfl); have d1 : w2.cell? ⟨b, 1, none⟩ = some v := (by rw [Lib.cell_of_heap hb2]; rfl); have f1 : w2.frozen? ⟨b, 1, none⟩ = false := Lib.frozen_of_heap hb2 1; obtain ⟨ao, n', cap, rfl⟩ : ∃ ao n' cap, v' = .slice ao n' cap := by
  rcases hown'.2 with ⟨hv, _⟩ | ⟨gg, cap, cur, fz, hv, _⟩
  . exact ⟨_, _, _, hv⟩
  . exact ⟨_, _, _, hv⟩
 go_wp2; go_ret2
 refine ⟨rfl, ?_, ?_, (hk1.grown hgrow (Lib.ownsRowF_kind hown)).setCell ⟨b, 1, none⟩ rfl _⟩
 . exact uw hB hb2 (bs' := bs ++ Lib.strCells s) (by simpa [Lib.strCells_length] using hown')
 . exact (hb1.grown hgrow (by have := hb1.size; omega) (λ k hk => (hown.lt k hk).1)).setCell (p := ⟨b, 1, none⟩) hB _
def ra (B b : Nat) (w : World) (n : Nat) : Prop := n < B ∨ (n ≠ b /\ ∃ cs T fz, w.heap[n]? = some (.cells cs T fz) /\ T ≠ 5)
theorem ra.heap {B b n : Nat} {w w' : World} (h : ra B b w n) (hk : bl B b w w') : w'.heap[n]? = w.heap[n]? := by
 rcases h with h | ⟨hb, cs, T, fz, hh, hT⟩
 . exact hk.1.block n h
 . rw [hh]; refine hk.2 n _ hh (λ e => hb (by simpa using e)) λ c' fz' e => ?_; injection e with _ e; exact hT e
def dT (B b : Nat) (w : World) (v : Value) (l : List Tx) : Prop := aH w v l /\ ∀ A n c, v = .slice (some A) n c -> l ≠ [] -> ra B b w A.block
def oJ (B b : Nat) (bs : Tx) (g : Bool) (w : World) : Prop := fP B b (Lib.byteCells bs) g w
theorem CH (bs : Tx) : Lib.byteCells bs ++ [.int .u8 32] = Lib.byteCells (bs ++ [32]) := by rw [Lib.byteCells_append]; rfl
theorem wV (bs x : Tx) : Lib.byteCells bs ++ Lib.strCells (str x) = Lib.byteCells (bs ++ x) := by rw [Lib.byteCells_append]; rfl
theorem dT.cell {B b : Nat} {w w' : World} {A : Option Addr} {n c : Nat} {l : List Tx} (h : dT B b w (.slice A n c) l) (hk : bl B b w w') {k : Nat} {x : Tx} (hx : l[k]? = some x) : ∃ a, A = some a /\ w'.cell? (a.add (k * 1)) = some (.string (str x)) := by
 obtain ⟨⟨A', c', e, _, _, hE⟩, hK⟩ := h; cases e; obtain ⟨L, hEL, rfl, _⟩ := hE k x hx; obtain ⟨a, rfl, ha, _, d0⟩ := et hEL; refine ⟨a, rfl, ?_⟩; have := (hK a _ _ rfl (λ e => by rw [e] at hx; cases hx)).heap hk; rw [World.cell?, bL, this, <- bL a (k * 1), <- World.cell?]; exact d0
theorem Gd {B b : Nat} {bs : Tx} {g0 : Bool} {v : Value} {l : List Tx} (w : World) (h : oJ B b bs g0 w) (hl : dT B b w v l) (hlen : bs.length + (putL g0 l).length <= 140737488355328) (hBw : B <= w.heap.size) :
  Calls prog 40 #[.pointer (some ⟨b, 0, none⟩), v] w λ e w' => e = .returned (.tuple #[]) /\ oJ B b (bs ++ putL g0 l) (g0 || !l.isEmpty) w' /\ bl B b w w' := by
 have hT := zH hl; obtain ⟨⟨A, c, rfl, hc, hm, _⟩, _⟩ := hl; have hlm : l.length <= 9223372036854775807 := (by unfold maxLen at hm; omega); have HL := zH hlen; have H0 := zH h; have HB := zH hBw; clear hc hm hlen h hBw; go_enter func40, ntmps40
 go_wp2_with fail
 go_loopg [8] l.length (λ g v wr => ∃ k : Nat, k + g = l.length /\ v = .int .i64 k /\ oJ B b (bs ++ putL g0 (l.take k)) (g0 || !(l.take k).isEmpty) wr /\ bl B b w wr)
 case atStart => exact ⟨0, by omega, rfl, by simpa [putL] using H0.o, bl.refl _ _ _⟩
 case round =>
  obtain ⟨k, hkg, rfl, hto, hbw⟩ := hrel; have HK := zH hkg; have HW := zH hbw; have HTO := zH hto; have HBR := zH (Nat.le_trans HB.o hbw.1.size); have hkl : k <= l.length := zO; clear hkg hbw hto; by_cases hlt : k < l.length
  . obtain ⟨x, hx⟩ := zG hlt; obtain ⟨a, rfl, d0⟩ := hT.o.cell HW.o hx; rw [Nat.mul_one] at d0; have HS := zH (show putL g0 (l.take (k + 1)) = putL g0 (l.take k) ++ putL (g0 || !(l.take k).isEmpty) [x] by rw [bo hx, mu]); have HF := zH (show (g0 || !(l.take (k + 1)).isEmpty) = true by rw [bo hx]; simp)
    have HN := zH (show bs.length + (putL g0 (l.take (k + 1))).length <= 140737488355328 by
     have e : putL g0 l = putL g0 (l.take (k + 1)) ++ putL (g0 || !(l.take (k + 1)).isEmpty) (l.drop (k + 1)) := (by rw [<- mu, List.take_append_drop]); have := HL.o; rw [e, List.length_append] at this; omega)
    clear hx; have HT1 := HTO.o; generalize hg1 : (g0 || !(l.take k).isEmpty) = g1 at HT1 HS; generalize hb1 : bs ++ putL g0 (l.take k) = bs1 at HT1; have HB1 := zH hb1; clear hg1 hb1 HTO; have HT2 := zH HT1; obtain ⟨p, hp⟩ : ∃ p, de B b p (Lib.byteCells bs1) g1 wr := HT1.elim (λ h => ⟨_, h⟩) (λ h => ⟨_, h⟩); obtain ⟨hBb, vv, hbk, _, _⟩ := hp; have c2 : wr.cell? ⟨b, 2, none⟩ = some (.bool g1) := (by rw [Lib.cell_of_heap hbk]; rfl); have f2 : wr.frozen? ⟨b, 2, none⟩ = false := Lib.frozen_of_heap hbk 2; clear HT1 hbk; cases g1
    . have HQ := zH (show bs1.length + x.length <= 140737488355328 by have := HN.o; rw [HS.o, <- List.length_append, <- List.append_assoc, HB1.o] at this; simpa [putL] using this); have HP := zH (show oJ B b bs1 true (wr.setCell ⟨b, 2, none⟩ (.bool true)) from HT2.o.elim (λ h => .inl (h.begun true)) (λ h => .inr (h.begun true))); have HKS := zH (show bl B b wr (wr.setCell ⟨b, 2, none⟩ (.bool true)) from ⟨(Below.refl B wr).setCell (p := ⟨b, 2, none⟩) hBb _, (Lib.OthersKept.refl _ _ wr).setCell ⟨b, 2, none⟩ rfl _⟩); go_wp2_with (go_at_call 94; refine (oe B b _ true (str x) _ HP.o (by rw [Lib.byteCells_length]; exact HQ.o) (Nat.le_trans HBR.o HKS.o.1.size)).mono ?_; rintro e w1 ⟨rfl, ht1, hk1⟩)
      rw [wV] at ht1; go_roundg (l.length - (k + 1))
      case measure => have := HK.o; omega
      case rel => exact ⟨k + 1, by omega, by go_num, by rw [HF.o, HS.o, <- List.append_assoc, HB1.o]; simpa [putL] using (show oJ B b (bs1 ++ x) true w1 from .inr ht1), HW.o.trans (HKS.o.trans hk1)⟩
    . have HQ := zH (show bs1.length + (x.length + 1) <= 140737488355328 by have := HN.o; rw [HS.o, <- List.length_append, <- List.append_assoc, HB1.o] at this; simpa [putL] using this); have HQ2 := zH (show (Lib.byteCells (bs1 ++ [32])).length + (str x).size <= 140737488355328 by rw [Lib.byteCells_length, List.length_append]; have := HQ.o; simp only [fX, List.length_cons, List.length_nil]; omega)
      go_wp2_with (first
       | (go_at_call 93; refine (Bi B b _ true 32 _ HT2.o (by rw [Lib.byteCells_length]; have := HQ.o; omega) HBR.o).mono ?_; rintro e w1 ⟨rfl, ht1, hk1⟩; rw [CH] at ht1; have HTW := zH ht1; have HKW := zH hk1; obtain ⟨_, vv1, hbk1, _, _⟩ := ht1; have e2 : w1.cell? ⟨b, 2, none⟩ = some (.bool true) := (by rw [Lib.cell_of_heap hbk1]; rfl); have k2 : w1.frozen? ⟨b, 2, none⟩ = false := Lib.frozen_of_heap hbk1 2; clear hbk1 hk1; have HP := zH (show oJ B b (bs1 ++ [32]) true (w1.setCell ⟨b, 2, none⟩ (.bool true)) from .inr (HTW.o.begun true)); have HKS := zH (show bl B b wr (w1.setCell ⟨b, 2, none⟩ (.bool true)) from HKW.o.trans ⟨(Below.refl B w1).setCell (p := ⟨b, 2, none⟩) hBb _, (Lib.OthersKept.refl _ _ w1).setCell ⟨b, 2, none⟩ rfl _⟩))
       | (go_at_call 94; refine (oe B b _ true (str x) _ HP.o HQ2.o (Nat.le_trans HBR.o HKS.o.1.size)).mono ?_; rintro e w2 ⟨rfl, ht2, hk2⟩))
      rw [wV] at ht2; go_roundg (l.length - (k + 1))
      case measure => have := HK.o; omega
      case rel => exact ⟨k + 1, by omega, by go_num, by rw [HF.o, HS.o, <- List.append_assoc, HB1.o]; simpa [putL] using (show oJ B b (bs1 ++ [32] ++ x) true w2 from .inr ht2), HW.o.trans (HKS.o.trans hk2)⟩
  . have hke : k = l.length := by omega
    have HKE := zH hke; clear hke; go_wp2_with fail
    go_end0
    refine ⟨rfl, ?_, HW.o⟩; have := HTO.o; rwa [HKE.o, List.take_length] at this
def bN (B b : Nat) (ts : List Tx) (w : World) : Prop := oJ B b (putL false ts) (!ts.isEmpty) w /\ B <= w.heap.size
def aQ (ts : List Tx) : Prop := (putL false ts).length <= 140737488355328
theorem aQ.left {a r : List Tx} (h : aQ (a ++ r)) : aQ a := by
 unfold aQ at h ⊢; rw [mu, List.length_append] at h; omega
theorem bN.alloc {B b : Nat} {ts : List Tx} {w : World} (h : bN B b ts w) (o : Obj) : bN B b ts (w.alloc o) := ⟨fP.alloc h.1 o, by have := h.2; simp; omega⟩
theorem bN.lt {B b : Nat} {ts : List Tx} {w : World} (h : bN B b ts w) : b < w.heap.size := fP.lt h.1
def bk (B b : Nat) (ts : List Tx) (w : World) (e : Ending) (w' : World) : Prop := e = .returned (.tuple #[]) /\ bN B b ts w' /\ bl B b w w'
def tks (l : List ByteArray) : List Tx := l.map λ x => x.data.toList
theorem bl.alloc {B b : Nat} {w w' : World} (h : bl B b w w') (hB : B <= w.heap.size) (o : Obj) : bl B b w (w'.alloc o) := ⟨h.1.alloc (by have := h.1.size; omega) o, h.2.alloc o⟩
theorem mr {B b : Nat} {ts : List Tx} {W : World} (xs : List ByteArray) (h : bN B b ts W) (hlen : aQ (ts ++ tks xs)) (hx : ∀ x ∈ xs, x.size <= maxLen) (hn : xs.length <= maxLen) :
  Calls prog 40 #[.pointer (some ⟨b, 0, none⟩), .slice (some ⟨W.heap.size, 0, none⟩) xs.length xs.length] (W.alloc (.cells (xs.map Value.string).toArray 9)) (bk B b (ts ++ tks xs) W) := by
 have hh := heap_alloc_new W (.cells (xs.map Value.string).toArray 9); have hne : W.heap.size ≠ b := λ e => by have := h.lt; omega
 have hw := h.alloc (.cells (xs.map Value.string).toArray 9); have hv : dT B b (W.alloc (.cells (xs.map Value.string).toArray 9)) (.slice (some ⟨W.heap.size, 0, none⟩) xs.length xs.length) (tks xs) := by
  refine ⟨⟨some ⟨W.heap.size, 0, none⟩, xs.length, by simp [tks], by simp [tks], hn, λ i x hx' => ?_⟩, λ A n c e _ => ?_⟩
  . obtain ⟨y, hy, rfl⟩ : ∃ y, xs[i]? = some y /\ y.data.toList = x := by simpa [tks] using hx'
    refine ⟨[.string y], ⟨_, rfl, λ j u hu => ?_⟩, by rw [str_eq], by have := hx y (List.mem_of_getElem? hy); rw [Array.length_toList]; exact this⟩; match j, hu with
    | 0, hu =>
      simp at hu; subst hu; rw [add_zero]; have ha : (⟨W.heap.size, 0, none⟩ : Addr).add (i * [Value.string y].length) = ⟨W.heap.size, i, none⟩ := (by unfold Addr.add; split <;> simp_all)
      rw [ha, cell_of_row _ _ _ _ _ _ hh]; simp [hy]
  . injection e with e _ _; injection e with e; subst e; exact .inr ⟨hne, _, _, _, hh, by decide⟩
 have hp : putL false ts ++ putL (!ts.isEmpty) (tks xs) = putL false (ts ++ tks xs) := (by rw [mu]; simp); refine (Gd _ hw.1 hv (by have := hlen; unfold aQ at this; rw [<- hp, List.length_append] at this; exact this) hw.2).mono ?_; rintro e w' ⟨rfl, h1, h2⟩; refine ⟨rfl, ⟨?_, Nat.le_trans hw.2 h2.1.size⟩, ((bl.refl B b W).alloc h.2 _).trans h2⟩; rw [hp] at h1; have : (!ts.isEmpty || !(tks xs).isEmpty) = !(ts ++ tks xs).isEmpty := by cases ts <;> simp
 rwa [this] at h1
theorem Gf {B b : Nat} {ts : List Tx} {W : World} {x : ByteArray} (h : bN B b ts W) (hlen : aQ (ts ++ [x.data.toList])) (hx : x.size <= maxLen) :
  Calls prog 40 #[.pointer (some ⟨b, 0, none⟩), .slice (some ⟨W.heap.size, 0, none⟩) 1 1] (W.alloc (.cells #[.string x] 9)) (bk B b (ts ++ [x.data.toList]) W) :=
 mr [x] h hlen (by simpa using hx) (by simp only [List.length_cons, List.length_nil]; decide)
theorem Kx {B b : Nat} {ts : List Tx} {W : World} {x y : ByteArray} (h : bN B b ts W) (hlen : aQ (ts ++ [x.data.toList, y.data.toList])) (hx : x.size <= maxLen) (hy : y.size <= maxLen) :
  Calls prog 40 #[.pointer (some ⟨b, 0, none⟩), .slice (some ⟨W.heap.size, 0, none⟩) 2 2] (W.alloc (.cells #[.string x, .string y] 9)) (bk B b (ts ++ [x.data.toList, y.data.toList]) W) :=
 mr [x, y] h hlen (by simp [hx, hy]) (by simp only [List.length_cons, List.length_nil]; decide)
theorem Kw {B b : Nat} {ts : List Tx} {W : World} {x y z : ByteArray} (h : bN B b ts W) (hlen : aQ (ts ++ [x.data.toList, y.data.toList, z.data.toList])) (hx : x.size <= maxLen) (hy : y.size <= maxLen) (hz : z.size <= maxLen) :
  Calls prog 40 #[.pointer (some ⟨b, 0, none⟩), .slice (some ⟨W.heap.size, 0, none⟩) 3 3] (W.alloc (.cells #[.string x, .string y, .string z] 9)) (bk B b (ts ++ [x.data.toList, y.data.toList, z.data.toList]) W) :=
 mr [x, y, z] h hlen (by simp [hx, hy, hz]) (by simp only [List.length_cons, List.length_nil]; decide)
theorem vG (s : Tx) {l : List Tx} {k : Nat} {x : Tx} (h : l[k]? = some x) : dN s (l.take (k + 1)) = dN s (l.take k) ++ (if k = 0 then [x] else [s, x]) := by
 have hk : k < l.length := (List.getElem?_eq_some_iff.1 h).1; unfold dN; rw [bo h, List.map_append, List.map_cons, List.map_nil, nB]; congr 1
 by_cases h0 : k = 0
 . subst h0; simp
 . have h1 : (l.take k).map (λ x => [x]) ≠ [] := by
    intro e; have := congrArg List.length e; rw [List.length_map, List.length_take, List.length_nil] at this; omega
   rw [if_neg h1, if_neg h0]; rfl
theorem aQ.take {ts : List Tx} {s : Tx} {l : List Tx} (h : aQ (ts ++ dN s l)) (k : Nat) : aQ (ts ++ dN s (l.take k)) := by
 have e : ∀ m : List Tx, ∃ r, dN s (l.take k ++ m) = dN s (l.take k) ++ r := by
  intro m; unfold dN; rw [List.map_append]; cases hl : (l.take k).map λ x => [x] with
  | nil => exact ⟨_, by simp [iM]; rfl⟩
  | cons y r => exact ⟨_, by simp only [List.cons_append, iM, List.flatMap_append, <- List.append_assoc]; rfl⟩
 obtain ⟨r, hr⟩ := e (l.drop k); rw [List.take_append_drop] at hr; rw [hr, <- List.append_assoc] at h; exact h.left
theorem Aq {B b : Nat} {ts : List Tx} {v : Value} {l : List Tx} {s : Tx} (w : World) (h : bN B b ts w) (hl : dT B b w v l) (hlen : aQ (ts ++ dN s l)) (hs : s.length <= maxLen) :
  Calls prog 98 #[.pointer (some ⟨b, 0, none⟩), v, .string (str s)] w (bk B b (ts ++ dN s l) w) := by
 have hT := zH hl; obtain ⟨⟨A, c, rfl, hc, hm, hE⟩, _⟩ := hl; have hlm : l.length <= 9223372036854775807 := (by unfold maxLen at hm; omega); have HE := zH (show ∀ (i : Nat) x, l[i]? = some x -> x.length <= maxLen from λ i x hx => by obtain ⟨_, _, _, h⟩ := hE i x hx; exact h); have HL := zH hlen; have H0 := zH h; have HS := zH (show (str s).size <= maxLen from hs); clear hc hm hlen h hE hs; go_enter func98, ntmps98
 go_wp2_with fail
 go_loopg [10] l.length (λ g v wr => ∃ k : Nat, k + g = l.length /\ v = .int .i64 k /\ bN B b (ts ++ dN s (l.take k)) wr /\ bl B b w wr)
 case atStart => exact ⟨0, by omega, rfl, by simpa [dN, iM] using H0.o, bl.refl _ _ _⟩
 case round =>
  obtain ⟨k, hkg, rfl, hto, hbw⟩ := hrel; have HK := zH hkg; have HW := zH hbw; have HTO := zH hto; have hkl : k <= l.length := zO; clear hkg hbw hto; by_cases hlt : k < l.length
  . obtain ⟨x, hx⟩ := zG hlt; obtain ⟨a, rfl, d0⟩ := hT.o.cell HW.o hx; rw [Nat.mul_one] at d0; have HX := zH (show (str x).size <= maxLen from HE.o k x hx); have HN := zH (HL.o.take (k + 1)); have HE1 := zH (vG s hx); clear hx; by_cases h0 : k = 0
    . subst h0; rw [add_zero] at d0; have HN1 := zH (show aQ (ts ++ dN s (l.take 0) ++ [x]) by have := HN.o; rw [HE1.o, if_pos rfl, <- List.append_assoc] at this; exact this); go_wp2_with (go_at_call 40; refine (Gf HTO.o HN1.o HX.o).mono ?_; rintro e w1 ⟨rfl, ht1, hk1⟩)
      go_roundg (l.length - 1)
      case measure => have := HK.o; omega
      case rel => exact ⟨1, by omega, by go_num, by rw [HE1.o]; simp only [↓reduceIte, <- List.append_assoc]; exact ht1, HW.o.trans hk1⟩
    . have hk0 : 0 < k := by omega
      have HN2 := zH (show aQ (ts ++ dN s (l.take k) ++ [(str s).data.toList] ++ [(str x).data.toList]) by have := HN.o; rw [HE1.o, if_neg h0] at this; simpa [aZ] using this); have H00 := zH h0; clear h0
      go_wp2_with (first
       | (go_at_call 40; with_reducible refine (Gf HTO.o HN2.o.left HS.o).mono ?_
          rintro e w1 ⟨rfl, ht1, hk1⟩)
       | (go_at_call 40; with_reducible refine (Gf ht1 HN2.o HX.o).mono ?_
          rintro e w2 ⟨rfl, ht2, hk2⟩))
      go_roundg (l.length - (k + 1))
      case measure => have := HK.o; omega
      case rel => exact ⟨k + 1, by omega, by go_num, by rw [HE1.o, if_neg H00.o]; simpa [aZ] using ht2, HW.o.trans (hk1.trans hk2)⟩
  . have hke : k = l.length := by omega
    have HKE := zH hke; clear hke; go_wp2_with fail
    go_end0
    refine ⟨rfl, ?_, HW.o⟩; have := HTO.o; rwa [HKE.o, List.take_length] at this
def IL (B b : Nat) (w0 : World) (L : List Value) (x : Ex) : Prop := ∀ (w : World) (ts : List Tx), bN B b ts w -> Below w0.heap.size w0 w -> aQ (ts ++ aE x) ->
 Calls prog 16 #[.pointer (some ⟨b, 0, none⟩), .agg L.toArray] w (bk B b (ts ++ aE x) w)
structure dH (B b : Nat) (w0 : World) (nm : Tx) (cs : List Tx) (ks : List Ex) (cv : Value) (A : Option Addr) (c : Nat) (C : Nat -> List Value) : Prop where
 size : w0.heap.size <= B
 hnm : (str nm).size <= maxLen
 hcs : aH w0 cv cs
 hl : ks.length <= c
 hc : c <= maxLen
 hk : ∀ (i : Nat) y, ks[i]? = some y -> cp w0 A i (C i)
 hx : ∀ (i : Nat) y, ks[i]? = some y -> a7 w0 (C i) y
 ih : ∀ (i : Nat) y, ks[i]? = some y -> IL B b w0 (C i) y
theorem cV {B b N : Nat} {W w1 : World} {cs : Array Value} {T : TypeId} (h : bl B b W w1) (hb : W.heap[N]? = some (.cells cs T (0, 0))) (hN : N ≠ b) (hT : T ≠ 5) : w1.heap[N]? = some (.cells cs T (0, 0)) :=
 h.2 N _ hb (λ e => hN (by simpa using e)) λ c' fz' e => by injection e with _ e; exact hT e
theorem bP {x : ByteArray} (h : x.size <= 100) : x.size <= maxLen := by unfold maxLen; omega
theorem eh {B b N : Nat} {ts : List Tx} {W : World} (x : ByteArray) (h : bN B b ts W) (hlen : aQ (ts ++ [x.data.toList])) (hx : x.size <= maxLen) (hN : W.heap.size = N) :
  Calls prog 40 #[.pointer (some ⟨b, 0, none⟩), .slice (some ⟨N, 0, none⟩) 1 1] (W.alloc (.cells #[.string x] 9)) (bk B b (ts ++ [x.data.toList]) W) := by
 subst hN; exact Gf h hlen hx
theorem zZ {B b N : Nat} {ts : List Tx} {W : World} (x y : ByteArray) (h : bN B b ts W) (hlen : aQ (ts ++ [x.data.toList, y.data.toList])) (hx : x.size <= maxLen) (hy : y.size <= maxLen) (hN : W.heap.size = N) :
  Calls prog 40 #[.pointer (some ⟨b, 0, none⟩), .slice (some ⟨N, 0, none⟩) 2 2] (W.alloc (.cells #[.string x, .string y] 9)) (bk B b (ts ++ [x.data.toList, y.data.toList]) W) := by
 subst hN; exact Kx h hlen hx hy
theorem J7 {B b N : Nat} {ts : List Tx} {W : World} (x y z : ByteArray) (h : bN B b ts W) (hlen : aQ (ts ++ [x.data.toList, y.data.toList, z.data.toList])) (hx : x.size <= maxLen) (hy : y.size <= maxLen) (hz : z.size <= maxLen) (hN : W.heap.size = N) :
  Calls prog 40 #[.pointer (some ⟨b, 0, none⟩), .slice (some ⟨N, 0, none⟩) 3 3] (W.alloc (.cells #[.string x, .string y, .string z] 9)) (bk B b (ts ++ [x.data.toList, y.data.toList, z.data.toList]) W) := by
 subst hN; exact Kw h hlen hx hy hz
theorem tM {B b : Nat} {w0 : World} {op n : Int} {nm : Tx} {cs : List Tx} {ks : List Ex} {cv : Value} {A : Option Addr} {c : Nat} {C : Nat -> List Value} (h : dH B b w0 nm cs ks cv A c C) (i : Nat) {w : World} {ts : List Tx} (ht : bN B b ts w) (hb : Below w0.heap.size w0 w) (hn : aQ (ts ++ fY (ks.map aE) i)) :
  Calls prog 97 #[.pointer (some ⟨b, 0, none⟩), .agg #[.int .i64 op, .string (str nm), .int .i64 n, cv, .slice A ks.length c], .int .i64 i] w (bk B b (ts ++ fY (ks.map aE) i) w) := by
 have HT := zH ht; have HB := zH hb; have hlm : ks.length <= 9223372036854775807 := (by have := h.hl; have := h.hc; unfold maxLen at this; omega); have hsz := hb.size; have hcv : ∃ A2 n2 k2, cv = .slice A2 n2 k2 := (by obtain ⟨A2, k2, e, _⟩ := h.hcs; exact ⟨_, _, _, e⟩); obtain ⟨A2, n2, k2, rfl⟩ := hcv; by_cases hlt : i < ks.length
 . obtain ⟨y, hy⟩ := zG hlt; have ek : fY (ks.map aE) i = aE y := (by simp [fY, List.getD, hy]); rw [ek] at hn ⊢; have HN := zH hn; have hC := h.hk i y hy; have HI := zH (h.ih i y hy); obtain ⟨o1, s1, n1, A3, m1, k1, A4, m2, k4, hL⟩ := (h.hx i y hy).shape; generalize C i = L at hC HI hL; subst hL; clear hy ek hn h ht; obtain ⟨a, rfl, ha, haa, d0, d1, d2, d3, d4⟩ := fB (hC.under hb); clear hC hb; go_enter func97, ntmps97
   go_wp2_with (go_at_call 16; refine (HI.o _ _ (HT.o.alloc _) (HB.o.alloc zO _) HN.o).mono ?_; rintro e w1 ⟨rfl, ht1, hk1⟩)
   go_end0
   exact ⟨rfl, ht1, ((bl.refl B b w).alloc HT.o.2 _).trans hk1⟩
 . have ek : fY (ks.map aE) i = [[63]] := by simp [fY, List.getD, List.getElem?_eq_none (Nat.le_of_not_lt hlt)]
   rw [ek] at hn ⊢; have HN := zH (show aQ (ts ++ [(⟨#[63]⟩ : ByteArray).data.toList]) from hn); clear ek hn h ht hb; go_enter func97, ntmps97
   go_wp2_with (go_at_call 40; (with_reducible refine (eh ⟨#[63]⟩ (HT.o.alloc _) HN.o (bP zD) (by simp)).mono ?_); rintro e w1 ⟨rfl, ht1, hk1⟩)
   go_end0
   exact ⟨rfl, ht1, ((bl.refl B b w).alloc HT.o.2 _).trans hk1⟩
theorem pU {B b : Nat} {w0 : World} {op n : Int} {nm o : Tx} {cs : List Tx} {ks : List Ex} {cv : Value} {A : Option Addr} {c : Nat} {C : Nat -> List Value} (h : dH B b w0 nm cs ks cv A c C) (ho : (str o).size <= maxLen) {w : World} {ts : List Tx} (ht : bN B b ts w) (hb : Below w0.heap.size w0 w) (hn : aQ (ts ++ fR o (ks.map aE))) :
  Calls prog 43 #[.pointer (some ⟨b, 0, none⟩), .string (str o), .agg #[.int .i64 op, .string (str nm), .int .i64 n, cv, .slice A ks.length c]] w (bk B b (ts ++ fR o (ks.map aE)) w) := by
 have HT := zH ht; have HB := zH hb; have HH := zH h; have HO := zH ho; have hsz := hb.size; have hblt := ht.lt; obtain ⟨A2, n2, k2, rfl⟩ : ∃ A2 n2 k2, cv = .slice A2 n2 k2 := by obtain ⟨A2, k2, e, _⟩ := h.hcs; exact ⟨_, _, _, e⟩
 have HN := zH (show aQ (ts ++ [(⟨#[40]⟩ : ByteArray).data.toList, (str o).data.toList] ++ fY (ks.map aE) 0 ++ [(⟨#[41]⟩ : ByteArray).data.toList]) by simpa [fR, aZ] using hn); clear h hn ht hb ho; go_enter func43, ntmps43
 go_wp2_with (first
  | (go_at_call 40; (with_reducible refine (zZ ⟨#[40]⟩ (str o) (HT.o.alloc _) HN.o.left.left (bP zD) HO.o (by simp)).mono ?_); rintro e w1 ⟨rfl, ht1, hk1⟩; have hbx := cV hk1 (heap_alloc_new w _) zO zD; obtain ⟨d0, d1, d2, d3, d4⟩ := aN hbx; have HT1 := zH ht1; have HK1 := zH (((bl.refl B b w).alloc HT.o.2 _).trans hk1); clear ht1 hk1 hbx)
  | (go_at_call 97; (refine (tM HH.o 0 HT1.o (HB.o.trans (HK1.o.1.mono HH.o.size)) HN.o.left).mono ?_)
     rintro e w2 ⟨rfl, ht2, hk2⟩)
  | (go_at_call 40; (with_reducible refine (eh ⟨#[41]⟩ ht2 HN.o (bP zD) rfl).mono ?_); rintro e w3 ⟨rfl, ht3, hk3⟩))
 go_end0
 exact ⟨rfl, by simpa [fR, aZ] using ht3, HK1.o.trans (hk2.trans hk3)⟩
theorem bl.below {B b : Nat} {w w' : World} (h : bl B b w w') : Below B w w' := h.1
theorem tN {B b : Nat} {w0 : World} {op n : Int} {nm : Tx} {cs : List Tx} {ks : List Ex} {cv : Value} {A : Option Addr} {c : Nat} {C : Nat -> List Value} (h : dH B b w0 nm cs ks cv A c C) {w : World} {ts : List Tx} (ht : bN B b ts w) (hb : Below w0.heap.size w0 w) (hn : aQ (ts ++ fY (ks.map aE) 0)) :
  Calls prog 97 #[.pointer (some ⟨b, 0, none⟩), .agg #[.int .i64 op, .string (str nm), .int .i64 n, cv, .slice A ks.length c], .int .i64 0] w (bk B b (ts ++ fY (ks.map aE) 0) w) := tM h 0 ht hb hn
theorem AA {B b : Nat} {w0 : World} {op n : Int} {nm : Tx} {cs : List Tx} {ks : List Ex} {cv : Value} {A : Option Addr} {c : Nat} {C : Nat -> List Value} (h : dH B b w0 nm cs ks cv A c C) {w : World} {ts : List Tx} (ht : bN B b ts w) (hb : Below w0.heap.size w0 w) (hn : aQ (ts ++ fY (ks.map aE) 1)) :
  Calls prog 97 #[.pointer (some ⟨b, 0, none⟩), .agg #[.int .i64 op, .string (str nm), .int .i64 n, cv, .slice A ks.length c], .int .i64 1] w (bk B b (ts ++ fY (ks.map aE) 1) w) := tM h 1 ht hb hn
theorem GN {B b : Nat} {w0 : World} {op n : Int} {nm : Tx} {cs : List Tx} {ks : List Ex} {cv : Value} {A : Option Addr} {c : Nat} {C : Nat -> List Value} (h : dH B b w0 nm cs ks cv A c C) {w : World} {ts : List Tx} (ht : bN B b ts w) (hb : Below w0.heap.size w0 w) (hn : aQ (ts ++ fY (ks.map aE) 2)) :
  Calls prog 97 #[.pointer (some ⟨b, 0, none⟩), .agg #[.int .i64 op, .string (str nm), .int .i64 n, cv, .slice A ks.length c], .int .i64 2] w (bk B b (ts ++ fY (ks.map aE) 2) w) := tM h 2 ht hb hn
theorem kX {B b : Nat} {w0 : World} {op n : Int} {nm o : Tx} {cs : List Tx} {ks : List Ex} {cv : Value} {A : Option Addr} {c : Nat} {C : Nat -> List Value} (h : dH B b w0 nm cs ks cv A c C) (ho : (str o).size <= maxLen) {w : World} {ts : List Tx} (ht : bN B b ts w) (hb : Below w0.heap.size w0 w) (hn : aQ (ts ++ eK o (ks.map aE))) :
  Calls prog 44 #[.pointer (some ⟨b, 0, none⟩), .string (str o), .agg #[.int .i64 op, .string (str nm), .int .i64 n, cv, .slice A ks.length c]] w (bk B b (ts ++ eK o (ks.map aE)) w) := by
 have HT := zH ht; have HB := zH hb; have HH := zH h; have HO := zH ho; have hsz := hb.size; have hblt := ht.lt; obtain ⟨A2, n2, k2, rfl⟩ : ∃ A2 n2 k2, cv = .slice A2 n2 k2 := by obtain ⟨A2, k2, e, _⟩ := h.hcs; exact ⟨_, _, _, e⟩
 have HN := zH (show aQ (ts ++ [(⟨#[40]⟩ : ByteArray).data.toList] ++ fY (ks.map aE) 0 ++ [(str o : ByteArray).data.toList] ++ fY (ks.map aE) 1 ++ [(⟨#[41]⟩ : ByteArray).data.toList]) by simpa [eK, aZ] using hn); clear h hn ht hb ho; go_enter func44, ntmps44
 go_wp2_with (first
  | (go_at_call 40; with_reducible refine (eh (⟨#[40]⟩) (HT.o.alloc _) HN.o.left.left.left.left (bP zD) (by simp)).mono ?_
     rintro e w1 ⟨rfl, ht1, hk1⟩; have hbx1 := cV hk1 (heap_alloc_new w _) zO zD; obtain ⟨d0, d1, d2, d3, d4⟩ := aN hbx1; have HX1 := zH hbx1; have HT1 := zH ht1; have HK1 := zH (((bl.refl B b w).alloc HT.o.2 _).trans hk1); clear ht1 hk1 hbx1)
  | (go_at_call 97; with_reducible refine (tN HH.o (HT1.o) (HB.o.trans (HK1.o.below.mono HH.o.size)) HN.o.left.left.left).mono ?_
     rintro e w2 ⟨rfl, ht2, hk2⟩; have hbx2 := cV hk2 HX1.o zO zD; obtain ⟨d0, d1, d2, d3, d4⟩ := aN hbx2; have HX2 := zH hbx2; have HT2 := zH ht2; have HK2 := zH (HK1.o.trans hk2); clear ht2 hk2 hbx2)
  | (go_at_call 40; with_reducible refine (eh (str o) (HT2.o) HN.o.left.left HO.o rfl).mono ?_
     rintro e w3 ⟨rfl, ht3, hk3⟩; have hbx3 := cV hk3 HX2.o zO zD; obtain ⟨d0, d1, d2, d3, d4⟩ := aN hbx3; have HX3 := zH hbx3; have HT3 := zH ht3; have HK3 := zH (HK2.o.trans hk3); clear ht3 hk3 hbx3)
  | (go_at_call 97; with_reducible refine (AA HH.o (HT3.o) (HB.o.trans (HK3.o.below.mono HH.o.size)) HN.o.left).mono ?_
     rintro e w4 ⟨rfl, ht4, hk4⟩; have hbx4 := cV hk4 HX3.o zO zD; obtain ⟨d0, d1, d2, d3, d4⟩ := aN hbx4; have HX4 := zH hbx4; have HT4 := zH ht4; have HK4 := zH (HK3.o.trans hk4); clear ht4 hk4 hbx4)
  | (go_at_call 40; with_reducible refine (eh (⟨#[41]⟩) (HT4.o) HN.o (bP zD) rfl).mono ?_
     rintro e w5 ⟨rfl, ht5, hk5⟩; skip))
 go_end0
 exact ⟨rfl, by simpa [eK, aZ] using ht5, HK4.o.trans hk5⟩
theorem zh {B b : Nat} {w0 : World} {op n : Int} {nm : Tx} {cs : List Tx} {ks : List Ex} {cv : Value} {A : Option Addr} {c : Nat} {C : Nat -> List Value} (h : dH B b w0 nm cs ks cv A c C) {w : World} {ts : List Tx} (ht : bN B b ts w) (hb : Below w0.heap.size w0 w) (hn : aQ (ts ++ jt (ks.map aE))) :
  Calls prog 45 #[.pointer (some ⟨b, 0, none⟩), .agg #[.int .i64 op, .string (str nm), .int .i64 n, cv, .slice A ks.length c]] w (bk B b (ts ++ jt (ks.map aE)) w) := by
 have HT := zH ht; have HB := zH hb; have HH := zH h; have hsz := hb.size; have hblt := ht.lt; obtain ⟨A2, n2, k2, rfl⟩ : ∃ A2 n2 k2, cv = .slice A2 n2 k2 := by obtain ⟨A2, k2, e, _⟩ := h.hcs; exact ⟨_, _, _, e⟩
 have HN := zH (show aQ (ts ++ [(⟨#[40]⟩ : ByteArray).data.toList, (⟨#[105, 102]⟩ : ByteArray).data.toList] ++ fY (ks.map aE) 0 ++ [(⟨#[116, 104, 101, 110]⟩ : ByteArray).data.toList] ++ fY (ks.map aE) 1 ++ [(⟨#[101, 108, 115, 101]⟩ : ByteArray).data.toList] ++ fY (ks.map aE) 2 ++ [(⟨#[41]⟩ : ByteArray).data.toList]) by simpa [jt, aZ] using hn); clear h hn ht hb; go_enter func45, ntmps45
 go_wp2_with (first
  | (go_at_call 40; with_reducible refine (zZ (⟨#[40]⟩) (⟨#[105, 102]⟩) (HT.o.alloc _) HN.o.left.left.left.left.left.left (bP zD) (bP zD) (by simp)).mono ?_
     rintro e w1 ⟨rfl, ht1, hk1⟩; have hbx1 := cV hk1 (heap_alloc_new w _) zO zD; obtain ⟨d0, d1, d2, d3, d4⟩ := aN hbx1; have HX1 := zH hbx1; have HT1 := zH ht1; have HK1 := zH (((bl.refl B b w).alloc HT.o.2 _).trans hk1); clear ht1 hk1 hbx1)
  | (go_at_call 97; with_reducible refine (tN HH.o (HT1.o) (HB.o.trans (HK1.o.below.mono HH.o.size)) HN.o.left.left.left.left.left).mono ?_
     rintro e w2 ⟨rfl, ht2, hk2⟩; have hbx2 := cV hk2 HX1.o zO zD; obtain ⟨d0, d1, d2, d3, d4⟩ := aN hbx2; have HX2 := zH hbx2; have HT2 := zH ht2; have HK2 := zH (HK1.o.trans hk2); clear ht2 hk2 hbx2)
  | (go_at_call 40; with_reducible refine (eh (⟨#[116, 104, 101, 110]⟩) (HT2.o) HN.o.left.left.left.left (bP zD) rfl).mono ?_
     rintro e w3 ⟨rfl, ht3, hk3⟩; have hbx3 := cV hk3 HX2.o zO zD; obtain ⟨d0, d1, d2, d3, d4⟩ := aN hbx3; have HX3 := zH hbx3; have HT3 := zH ht3; have HK3 := zH (HK2.o.trans hk3); clear ht3 hk3 hbx3)
  | (go_at_call 97; with_reducible refine (AA HH.o (HT3.o) (HB.o.trans (HK3.o.below.mono HH.o.size)) HN.o.left.left.left).mono ?_
     rintro e w4 ⟨rfl, ht4, hk4⟩; have hbx4 := cV hk4 HX3.o zO zD; obtain ⟨d0, d1, d2, d3, d4⟩ := aN hbx4; have HX4 := zH hbx4; have HT4 := zH ht4; have HK4 := zH (HK3.o.trans hk4); clear ht4 hk4 hbx4)
  | (go_at_call 40; with_reducible refine (eh (⟨#[101, 108, 115, 101]⟩) (HT4.o) HN.o.left.left (bP zD) rfl).mono ?_
     rintro e w5 ⟨rfl, ht5, hk5⟩; have hbx5 := cV hk5 HX4.o zO zD; obtain ⟨d0, d1, d2, d3, d4⟩ := aN hbx5; have HX5 := zH hbx5; have HT5 := zH ht5; have HK5 := zH (HK4.o.trans hk5); clear ht5 hk5 hbx5)
  | (go_at_call 97; with_reducible refine (GN HH.o (HT5.o) (HB.o.trans (HK5.o.below.mono HH.o.size)) HN.o.left).mono ?_
     rintro e w6 ⟨rfl, ht6, hk6⟩; have hbx6 := cV hk6 HX5.o zO zD; obtain ⟨d0, d1, d2, d3, d4⟩ := aN hbx6; have HX6 := zH hbx6; have HT6 := zH ht6; have HK6 := zH (HK5.o.trans hk6); clear ht6 hk6 hbx6)
  | (go_at_call 40; with_reducible refine (eh (⟨#[41]⟩) (HT6.o) HN.o (bP zD) rfl).mono ?_
     rintro e w7 ⟨rfl, ht7, hk7⟩; skip))
 go_end0
 exact ⟨rfl, by simpa [jt, aZ] using ht7, HK6.o.trans hk7⟩
theorem ra.keep {B b n : Nat} {w w' : World} (h : ra B b w n) (hk : bl B b w w') : ra B b w' n := by
 rcases h with h | ⟨hb, cs, T, fz, hh, hT⟩
 . exact .inl h
 . exact .inr ⟨hb, cs, T, fz, (ra.heap (.inr ⟨hb, cs, T, fz, hh, hT⟩) hk).trans hh, hT⟩
theorem dT.keep {B b : Nat} {w w' : World} {v : Value} {l : List Tx} (h : dT B b w v l) (hk : bl B b w w') : dT B b w' v l := by
 obtain ⟨⟨A, c, rfl, h1, h2, h3⟩, hK⟩ := h; refine ⟨⟨A, c, rfl, h1, h2, λ i x hx => ?_⟩, λ A' n' c' e hne => (hK A' n' c' e hne).keep hk⟩; obtain ⟨L, ⟨a, rfl, hc⟩, hR⟩ := h3 i x hx; refine ⟨L, ⟨a, rfl, λ j u hu => ?_⟩, hR⟩; have hh := (hK a _ _ rfl (λ e => by rw [e] at hx; cases hx)).heap hk; have := hc j u hu; rw [World.cell?, bL, bL, hh]; rw [World.cell?, bL, bL] at this; exact this
theorem uD {B b : Nat} {ts : List Tx} {v : Value} {l : List Tx} (w : World) (h : bN B b ts w) (hl : dT B b w v l) (hlen : aQ (ts ++ fg l)) :
  Calls prog 99 #[.pointer (some ⟨b, 0, none⟩), v] w (bk B b (ts ++ fg l) w) := by
 have hT := zH hl; obtain ⟨⟨A, c, rfl, hc, hm, _⟩, _⟩ := hl; have hlm : l.length <= 9223372036854775807 := (by unfold maxLen at hm; omega); have HT := zH h; by_cases h0 : l = []
 . subst h0; clear hc hm h hlen; go_enter func99, ntmps99
   go_wp2_with fail
   first
    | (go_end0; exact ⟨rfl, by simpa [fg] using HT.o, bl.refl _ _ _⟩)
    | (go_ret; exact ⟨rfl, by simpa [fg] using HT.o, bl.refl _ _ _⟩)
 . have hne : l.length ≠ 0 := by simpa using h0
   have es : fg l = [(⟨#[91]⟩ : ByteArray).data.toList] ++ dN [44] l ++ [(⟨#[93]⟩ : ByteArray).data.toList] := (by simp [fg, h0]); have HE := zH es; have HN := zH (show aQ (ts ++ [(⟨#[91]⟩ : ByteArray).data.toList] ++ dN [44] l ++ [(⟨#[93]⟩ : ByteArray).data.toList]) by rw [es] at hlen; simpa using hlen); clear hc hm h hlen es h0; go_enter func99, ntmps99
   go_wp2_with (first
    | (go_at_call 40; with_reducible refine (eh ⟨#[91]⟩ HT.o HN.o.left.left (bP zD) rfl).mono ?_
       rintro e w1 ⟨rfl, ht1, hk1⟩; have HT1 := zH ht1; have HK1 := zH hk1; clear ht1 hk1)
    | (go_at_call 98; refine (Aq (s := [44]) _ HT1.o (hT.o.keep HK1.o) HN.o.left (bP (x := str [44]) zD)).mono ?_; rintro e w2 ⟨rfl, ht2, hk2⟩)
    | (go_at_call 40; with_reducible refine (eh ⟨#[93]⟩ ht2 HN.o (bP zD) rfl).mono ?_
       rintro e w3 ⟨rfl, ht3, hk3⟩))
   go_end0
   exact ⟨rfl, by rw [HE.o]; simpa using ht3, HK1.o.trans (hk2.trans hk3)⟩
theorem J6 {B b N : Nat} {ts : List Tx} {W : World} (x y z u : ByteArray) (h : bN B b ts W) (hlen : aQ (ts ++ [x.data.toList, y.data.toList, z.data.toList, u.data.toList])) (hx : x.size <= maxLen) (hy : y.size <= maxLen) (hz : z.size <= maxLen) (hu : u.size <= maxLen) (hN : W.heap.size = N) :
  Calls prog 40 #[.pointer (some ⟨b, 0, none⟩), .slice (some ⟨N, 0, none⟩) 4 4] (W.alloc (.cells #[.string x, .string y, .string z, .string u] 9)) (bk B b (ts ++ [x.data.toList, y.data.toList, z.data.toList, u.data.toList]) W) := by
 subst hN; exact mr [x, y, z, u] h hlen (by simp [hx, hy, hz, hu]) (by simp only [List.length_cons, List.length_nil]; decide)
theorem dT.came {B b : Nat} {w0 w : World} {v : Value} {l : List Tx} (h : aH w0 v l) (hB : w0.heap.size <= B) (hb : Below w0.heap.size w0 w) : dT B b w v l := by
 refine ⟨h.under hb, λ A n c e hne => ?_⟩; obtain ⟨A', c', rfl, _, _, h3⟩ := h; injection e with e _ _; subst e; obtain ⟨x, r, rfl⟩ := List.exists_cons_of_ne_nil hne; obtain ⟨L, ⟨a, e, hc⟩, hL, _⟩ := h3 0 x rfl; cases e; subst hL; have := hc.lt (by simp); rw [bL] at this; exact .inl zO
theorem C1 {B b : Nat} {w0 : World} {op n : Int} {nm : Tx} {cs : List Tx} {ks : List Ex} {cv : Value} {A : Option Addr} {c : Nat} {C : Nat -> List Value} (h : dH B b w0 nm cs ks cv A c C) {w : World} {ts : List Tx} (ht : bN B b ts w) (hb : Below w0.heap.size w0 w) (hn : aQ (ts ++ pw nm cs (ks.map aE))) :
  Calls prog 46 #[.pointer (some ⟨b, 0, none⟩), .agg #[.int .i64 op, .string (str nm), .int .i64 n, cv, .slice A ks.length c]] w (bk B b (ts ++ pw nm cs (ks.map aE)) w) := by
 have HT := zH ht; have HB := zH hb; have HH := zH h; have hsz := hb.size; have hblt := ht.lt; have HC := zH h.hcs; obtain ⟨A2, n2, k2, rfl⟩ : ∃ A2 n2 k2, cv = .slice A2 n2 k2 := by obtain ⟨A2, k2, e, _⟩ := h.hcs; exact ⟨_, _, _, e⟩
 have HN := zH (show aQ (ts ++ [(⟨#[40]⟩ : ByteArray).data.toList] ++ fY (ks.map aE) 0 ++ [(⟨#[119, 104, 101, 110]⟩ : ByteArray).data.toList] ++ dN [44] cs ++ [(⟨#[40]⟩ : ByteArray).data.toList, (str nm).data.toList, (⟨#[41]⟩ : ByteArray).data.toList, (⟨#[41]⟩ : ByteArray).data.toList]) by simpa [pw, aZ] using hn); clear h hn ht hb; go_enter func46, ntmps46
 go_wp2_with (first
  | (go_at_call 40; with_reducible refine (eh (⟨#[40]⟩) (HT.o.alloc _) HN.o.left.left.left.left (bP zD) (by simp)).mono ?_
     rintro e w1 ⟨rfl, ht1, hk1⟩; have hbx1 := cV hk1 (heap_alloc_new w _) zO zD; obtain ⟨d0, d1, d2, d3, d4⟩ := aN hbx1; have HX1 := zH hbx1; have HT1 := zH ht1; have HK1 := zH (((bl.refl B b w).alloc HT.o.2 _).trans hk1); clear ht1 hk1 hbx1)
  | (go_at_call 97; with_reducible refine (tN HH.o (HT1.o) (HB.o.trans (HK1.o.below.mono HH.o.size)) HN.o.left.left.left).mono ?_
     rintro e w2 ⟨rfl, ht2, hk2⟩; have hbx2 := cV hk2 HX1.o zO zD; obtain ⟨d0, d1, d2, d3, d4⟩ := aN hbx2; have HX2 := zH hbx2; have HT2 := zH ht2; have HK2 := zH (HK1.o.trans hk2); clear ht2 hk2 hbx2)
  | (go_at_call 40; with_reducible refine (eh (⟨#[119, 104, 101, 110]⟩) (HT2.o) HN.o.left.left (bP zD) rfl).mono ?_
     rintro e w3 ⟨rfl, ht3, hk3⟩; have hbx3 := cV hk3 HX2.o zO zD; obtain ⟨d0, d1, d2, d3, d4⟩ := aN hbx3; have HX3 := zH hbx3; have HT3 := zH ht3; have HK3 := zH (HK2.o.trans hk3); have HC3 := zH (dT.came (b := b) HC.o HH.o.size (HB.o.trans (HK3.o.below.mono HH.o.size))); clear ht3 hk3 hbx3)
  | (go_at_call 98; refine (Aq (s := [44]) _ HT3.o HC3.o HN.o.left (bP (x := str [44]) zD)).mono ?_; rintro e w4 ⟨rfl, ht4, hk4⟩; have hbx4 := cV hk4 HX3.o zO zD; obtain ⟨d0, d1, d2, d3, d4⟩ := aN hbx4; have HT4 := zH ht4; have HK4 := zH (HK3.o.trans hk4); clear ht4 hk4 hbx4)
  | (go_at_call 40; with_reducible refine (J6 (⟨#[40]⟩) (str nm) (⟨#[41]⟩) (⟨#[41]⟩) (HT4.o) HN.o (bP zD) HH.o.hnm (bP zD) (bP zD) rfl).mono ?_
     rintro e w5 ⟨rfl, ht5, hk5⟩))
 go_end0
 exact ⟨rfl, by simpa [pw, aZ] using ht5, HK4.o.trans hk5⟩
theorem zw {c : Tx} {t : List Tx} : ∀ (k : Nat) (cs : List Tx) (U : List (List Tx)), cs[k]? = some c -> U[k]? = some t -> dV (cs.take (k + 1)) (U.take (k + 1)) = dV (cs.take k) (U.take k) ++ [c :: [45, 62] :: t] := by
 intro k; induction k with
 | zero =>
   intro cs U hc ht; cases cs <;> cases U <;> simp_all [dV]
 | succ k ih =>
   intro cs U hc ht; cases cs with
   | nil => simp at hc
   | cons c' cs =>
     cases U with
     | nil => simp at ht
     | cons t' U =>
       simp only [List.getElem?_cons_succ] at hc ht; simp only [List.take_succ_cons, dV, List.cons_append]; rw [ih cs U hc ht]
theorem zu : ∀ (k : Nat) (cs : List Tx) (U : List (List Tx)), ∃ r, dV cs U = dV (cs.take k) (U.take k) ++ r := by
 intro k; induction k with
 | zero => intro cs U; exact ⟨_, by simp [dV]; rfl⟩
 | succ k ih =>
   intro cs U; cases cs with
   | nil => exact ⟨[], by simp [dV]⟩
   | cons c' cs =>
     cases U with
     | nil => exact ⟨[], by simp [dV]⟩
     | cons t' U =>
       obtain ⟨r, hr⟩ := ih cs U; exact ⟨r, by simp only [List.take_succ_cons, dV, List.cons_append]; rw [<- hr]⟩
theorem sQ : ∀ (k : Nat) (cs : List Tx) (U : List (List Tx)), (cs.length <= k ∨ U.length <= k) -> dV (cs.take k) (U.take k) = dV cs U := by
 intro k; induction k with
 | zero =>
   intro cs U h; cases cs <;> cases U <;> simp_all [dV]
 | succ k ih =>
   intro cs U h; cases cs with
   | nil => simp [dV]
   | cons c' cs =>
     cases U with
     | nil => simp [dV]
     | cons t' U =>
       simp only [List.take_succ_cons, dV]; rw [ih cs U (by simpa using h)]
theorem CM (k : Nat) (cs : List Tx) (U : List (List Tx)) (hk : 0 < k) (hc : k <= cs.length) (ht : k <= U.length) : dV (cs.take k) (U.take k) ≠ [] := by
 obtain ⟨j, rfl⟩ : ∃ j, k = j + 1 := ⟨k - 1, by omega⟩; cases cs with
 | nil => simp at hc
 | cons c' cs =>
   cases U with
   | nil => simp at ht
   | cons t' U => simp [dV]
theorem rP (s : Tx) (l m : List (List Tx)) : ∃ r, iM s (l ++ m) = iM s l ++ r := by
 cases l with
 | nil => exact ⟨_, by simp [iM]; rfl⟩
 | cons y r => exact ⟨_, by simp only [List.cons_append, iM, List.flatMap_append, <- List.append_assoc]; rfl⟩
def fD (ts : List Tx) (word nm : Tx) (cs : List Tx) (U : List (List Tx)) (k : Nat) : List Tx := ts ++ [word, nm, [40]] ++ iM [124] (dV (cs.take k) (U.take k))
theorem xd {ts : List Tx} {word nm : Tx} {cs : List Tx} {U : List (List Tx)} (h : aQ (ts ++ nY word nm cs U)) (k : Nat) : aQ (fD ts word nm cs U k) := by
 obtain ⟨r, hr⟩ := zu k cs U; obtain ⟨q, hq⟩ := rP [124] (dV (cs.take k) (U.take k)) r; have e : ts ++ nY word nm cs U = fD ts word nm cs U k ++ (q ++ [[41]]) := by
  unfold nY fD; rw [hr, hq]; simp
 rw [e] at h; exact h.left
theorem zx (ts : List Tx) (word nm : Tx) {cs : List Tx} {U : List (List Tx)} {k : Nat} {c : Tx} {t : List Tx} (hc : cs[k]? = some c) (ht : U[k]? = some t) : fD ts word nm cs U (k + 1) = fD ts word nm cs U k ++ ((if k = 0 then [] else [[124]]) ++ ([c, [45, 62]] ++ t)) := by
 unfold fD; rw [zw k cs U hc ht, nB]; by_cases h0 : k = 0
 . subst h0; simp [dV]
 . rw [if_neg h0, if_neg (CM k cs U zO (by have := (List.getElem?_eq_some_iff.1 hc).1; omega) (by have := (List.getElem?_eq_some_iff.1 ht).1; omega))]; simp
theorem yU {w : World} {a : Addr} {k : Nat} {c0 c1 c2 c3 c4 : Value} (h : cp w (some a) k [c0, c1, c2, c3, c4]) :
  (a.add (k * 5)).block < w.heap.size /\ w.cell? (a.add (k * 5)) = some c0 /\ w.cell? { block := (a.add (k * 5)).block, off := (a.add (k * 5)).off + 1 } = some c1 /\ w.cell? { block := (a.add (k * 5)).block, off := (a.add (k * 5)).off + 2 } = some c2 /\ w.cell? { block := (a.add (k * 5)).block, off := (a.add (k * 5)).off + 3 } = some c3 /\ w.cell? { block := (a.add (k * 5)).block, off := (a.add (k * 5)).off + 4 } = some c4 := by
 obtain ⟨a', e, _, r⟩ := fB h; cases e; exact r
theorem oR {B b : Nat} {w : World} {a : Addr} {n c : Nat} {l : List Tx} (h : dT B b w (.slice (some a) n c) l) {k : Nat} {x : Tx} (hx : l[k]? = some x) : w.cell? (a.add k) = some (.string (str x)) := by
 obtain ⟨a', e, r⟩ := h.cell (bl.refl _ _ _) hx; cases e; rwa [Nat.mul_one] at r
theorem xb {B b : Nat} {w0 : World} {op n : Int} {nm word : Tx} {cs : List Tx} {ks : List Ex} {cv : Value} {A : Option Addr} {c : Nat} {C : Nat -> List Value} (h : dH B b w0 nm cs ks cv A c C) (ho : (str word).size <= maxLen) {w : World} {ts : List Tx} (ht : bN B b ts w) (hb : Below w0.heap.size w0 w) (hn : aQ (ts ++ nY word nm cs (ks.map aE))) :
  Calls prog 47 #[.pointer (some ⟨b, 0, none⟩), .string (str word), .agg #[.int .i64 op, .string (str nm), .int .i64 n, cv, .slice A ks.length c]] w (bk B b (ts ++ nY word nm cs (ks.map aE)) w) := by
 have HT := zH ht; have HB := zH hb; have HH := zH h; have HO := zH ho; have hsz := hb.size; have hblt := ht.lt; have HC := zH h.hcs; have hlk : ks.length <= 9223372036854775807 := (by have := h.hl; have := h.hc; unfold maxLen at this; omega); obtain ⟨A2, k2, rfl, hl2, hm2, _⟩ := h.hcs; have hlc : cs.length <= 9223372036854775807 := (by unfold maxLen at hm2; omega); have HZ := zH hn; have HN := zH (show aQ (ts ++ [(str word).data.toList, (str nm).data.toList, (⟨#[40]⟩ : ByteArray).data.toList]) by have := xd hn 0; simpa [fD, dV, iM, aZ] using this); clear h hn ht hb ho hl2 hm2; go_enter func47, ntmps47
 go_wp2_with (first
  | (go_at_call 40; with_reducible refine (J7 (str word) (str nm) ⟨#[40]⟩ (HT.o.alloc _) HN.o HO.o HH.o.hnm (bP zD) (by simp)).mono ?_
     rintro e w1 ⟨rfl, ht1, hk1⟩; have hbx1 := cV hk1 (heap_alloc_new w _) zO zD; obtain ⟨d0, d1, d2, d3, d4⟩ := aN hbx1; have HX1 := zH hbx1; have HT1 := zH ht1; have HK1 := zH (((bl.refl B b w).alloc HT.o.2 _).trans hk1); clear ht1 hk1 hbx1))
 obtain ⟨m, hm⟩ : ∃ m : Nat, min (cs.length : Int) (ks.length : Int) = m := ⟨min cs.length ks.length, by omega⟩; rw [hm]; have HM := zH (show m <= cs.length /\ m <= ks.length /\ (cs.length <= m ∨ ks.length <= m) by omega); have hmx : m <= 9223372036854775807 := zO; clear hm; go_loopg [20] m (λ g v wr => ∃ k : Nat, k + g = m /\ v = .int .i64 k /\ bN B b (fD ts word nm cs (ks.map aE) k) wr /\ bl B b w wr /\ wr.heap[w.heap.size]? = some (.cells #[.int .i64 op, .string (str nm), .int .i64 n, .slice A2 cs.length k2, .slice A ks.length c] 39 (0, 0)))
 case atStart => exact ⟨0, by omega, rfl, by simpa [fD, dV, iM, aZ] using HT1.o, HK1.o, HX1.o⟩
 case round =>
  obtain ⟨k, hkg, rfl, hto, hkw, hbx⟩ := hrel; obtain ⟨d0, d1, d2, d3, d4⟩ := aN hbx; have HX := zH hbx; have HK := zH hkg; have HW := zH hkw; have HTO := zH hto; have hkl : k <= m := zO; clear hkg hto hkw hbx; by_cases hlt : k < m
  . obtain ⟨y, hy⟩ : ∃ y, ks[k]? = some y := ⟨_, List.getElem?_eq_getElem (by have := HM.o.2.1; omega)⟩; obtain ⟨x, hx⟩ : ∃ x, cs[k]? = some x := ⟨_, List.getElem?_eq_getElem (by have := HM.o.1; omega)⟩; have HCX := zH hx; have hkk : k < ks.length := (by have := HM.o.2.1; omega); have hkc : k < cs.length := (by have := HM.o.1; omega); have HKS := zH (zx ts word nm hx (show (ks.map aE)[k]? = some (aE y) by simp [hy])); have HZ1 := zH (xd HZ.o (k + 1)); have hC := HH.o.hk k y hy; have HI := zH (HH.o.ih k y hy); obtain ⟨o1, s1, n1, A3, m1, k1', A4, m2, k4', hL⟩ := (HH.o.hx k y hy).shape; generalize C k = L at hC HI hL; subst hL; have HBR := zH (HB.o.trans (HW.o.below.mono HH.o.size)); have hlx : (str x).size <= maxLen := (by obtain ⟨_, _, _, _, _, h3⟩ := HC.o; obtain ⟨_, _, _, h⟩ := h3 k x hx; exact h); have HLX := zH hlx; obtain ⟨a2, rfl, _⟩ := (dT.came (b := b) HC.o HH.o.size HBR.o).cell (bl.refl _ _ _) hx; obtain ⟨a, rfl, hcl⟩ := hC; have HEL := zH (show cp w0 (some a) k _ from ⟨a, rfl, hcl⟩); have e0 := oR (dT.came (b := b) HC.o HH.o.size HBR.o) hx; clear hy hx hlx; by_cases h0 : k = 0
    . have HN3 := zH (show aQ (fD ts word nm cs (ks.map aE) k ++ [(str x).data.toList, (⟨#[45, 62]⟩ : ByteArray).data.toList] ++ aE y) by have := HZ1.o; rw [HKS.o, if_pos h0] at this; simpa [aZ] using this); have HQ := zH (show fD ts word nm cs (ks.map aE) (k + 1) = fD ts word nm cs (ks.map aE) k ++ [(str x).data.toList, (⟨#[45, 62]⟩ : ByteArray).data.toList] ++ aE y by rw [HKS.o, if_pos h0]; simp [aZ]); have HKG := zH (show ¬ (0 < k) by omega); have hk0 : ¬ (0 < (k : Int)) := zO; clear h0
      go_wp2_with (first
      | (go_at_call 40; with_reducible refine (zZ (str x) ⟨#[45, 62]⟩ HTO.o HN3.o.left HLX.o (bP zD) rfl).mono ?_
         rintro e w2 ⟨rfl, ht2, hk2⟩; have HW2 := zH (HW.o.trans hk2); have hbx2 := cV hk2 HX.o zO zD; obtain ⟨d0, d1, d2, d3, d4⟩ := aN hbx2; have HX2 := zH hbx2; have HT2 := zH ht2; have HB2 := zH (HB.o.trans (HW2.o.below.mono HH.o.size)); have e0 := oR (dT.came (b := b) HC.o HH.o.size HB2.o) HCX.o; obtain ⟨hab, q0, q1, q2, q3, q4⟩ := yU (HEL.o.under HB2.o); clear ht2 hk2 hbx2)
      | (go_at_call 16; refine (HI.o _ _ HT2.o HB2.o HN3.o).mono ?_; rintro e w3 ⟨rfl, ht3, hk3⟩))
      go_roundg (m - (k + 1))
      case measure => have := HK.o; omega
      case rel => exact ⟨k + 1, by omega, by go_num, by rw [HQ.o]; exact ht3, HW2.o.trans hk3, cV hk3 HX2.o zO zD⟩
    . have HN3 := zH (show aQ (fD ts word nm cs (ks.map aE) k ++ [(⟨#[124]⟩ : ByteArray).data.toList] ++ [(str x).data.toList, (⟨#[45, 62]⟩ : ByteArray).data.toList] ++ aE y) by have := HZ1.o; rw [HKS.o, if_neg h0] at this; simpa [aZ] using this); have HQ := zH (show fD ts word nm cs (ks.map aE) (k + 1) = fD ts word nm cs (ks.map aE) k ++ [(⟨#[124]⟩ : ByteArray).data.toList] ++ [(str x).data.toList, (⟨#[45, 62]⟩ : ByteArray).data.toList] ++ aE y by rw [HKS.o, if_neg h0]; simp [aZ]); have hk0 : 0 < k := zO; clear h0
      go_wp2_with (first
      | (go_at_call 40; with_reducible refine (eh ⟨#[124]⟩ HTO.o HN3.o.left.left (bP zD) rfl).mono ?_
         rintro e w2 ⟨rfl, ht2, hk2⟩; have HW2 := zH (HW.o.trans hk2); have hbx2 := cV hk2 HX.o zO zD; obtain ⟨d0, d1, d2, d3, d4⟩ := aN hbx2; have HX2 := zH hbx2; have HT2 := zH ht2; have HB2 := zH (HB.o.trans (HW2.o.below.mono HH.o.size)); have e0 := oR (dT.came (b := b) HC.o HH.o.size HB2.o) HCX.o; obtain ⟨hab, q0, q1, q2, q3, q4⟩ := yU (HEL.o.under HB2.o); clear ht2 hk2 hbx2)
      | (go_at_call 40; with_reducible refine (zZ (str x) ⟨#[45, 62]⟩ HT2.o HN3.o.left HLX.o (bP zD) rfl).mono ?_
         rintro e w3 ⟨rfl, ht3, hk3⟩; have HW3 := zH (HW2.o.trans hk3); have hbx3 := cV hk3 HX2.o zO zD; obtain ⟨d0, d1, d2, d3, d4⟩ := aN hbx3; have HX3 := zH hbx3; have HT3 := zH ht3; have HB3 := zH (HB.o.trans (HW3.o.below.mono HH.o.size)); have e0 := oR (dT.came (b := b) HC.o HH.o.size HB3.o) HCX.o; obtain ⟨hab, q0, q1, q2, q3, q4⟩ := yU (HEL.o.under HB3.o); clear ht3 hk3 hbx3)
      | (go_at_call 16; refine (HI.o _ _ HT3.o HB3.o HN3.o).mono ?_; rintro e w4 ⟨rfl, ht4, hk4⟩))
      go_roundg (m - (k + 1))
      case measure => have := HK.o; omega
      case rel => exact ⟨k + 1, by omega, by go_num, by rw [HQ.o]; exact ht4, HW3.o.trans hk4, cV hk4 HX3.o zO zD⟩
  . have hke : k = m := by omega
    have HKE := zH hke
    have HN2 := zH (show aQ (fD ts word nm cs (ks.map aE) k ++ [(⟨#[41]⟩ : ByteArray).data.toList]) by
     have := HZ.o; unfold fD; rw [hke, sQ m _ _ (by have := HM.o.2.2; simpa using this)]; simpa [nY] using this)
    clear hke
    go_wp2_with (first
     | (go_at_call 40; with_reducible refine (eh ⟨#[41]⟩ HTO.o HN2.o (bP zD) rfl).mono ?_
        rintro e w5 ⟨rfl, ht5, hk5⟩))
    go_end0
    refine ⟨rfl, ?_, HW.o.trans hk5⟩; unfold fD at ht5; rw [HKE.o, sQ m _ _ (by have := HM.o.2.2; simpa using this)] at ht5; simpa [nY] using ht5
def fC (ts : List Tx) (nm : Tx) (cs : List Tx) (U : List (List Tx)) (k : Nat) : List Tx := ts ++ [nm] ++ fg cs ++ [[40]] ++ iM [44] (U.take k)
theorem wR {ts : List Tx} {nm : Tx} {cs : List Tx} {U : List (List Tx)} (h : aQ (ts ++ lr nm cs U)) (k : Nat) : aQ (fC ts nm cs U k) := by
 obtain ⟨q, hq⟩ := rP [44] (U.take k) (U.drop k); rw [List.take_append_drop] at hq; have e : ts ++ lr nm cs U = fC ts nm cs U k ++ (q ++ [[41]]) := by
  unfold lr fC; rw [hq]; simp
 rw [e] at h; exact h.left
theorem zl (ts : List Tx) (nm : Tx) {cs : List Tx} {U : List (List Tx)} {k : Nat} {t : List Tx} (ht : U[k]? = some t) : fC ts nm cs U (k + 1) = fC ts nm cs U k ++ ((if k = 0 then [] else [[44]]) ++ t) := by
 unfold fC; have hk : k < U.length := (List.getElem?_eq_some_iff.1 ht).1; rw [bo ht, nB]; by_cases h0 : k = 0
 . subst h0; simp
 . have h1 : U.take k ≠ [] := by
    intro e; have := congrArg List.length e; rw [List.length_take, List.length_nil] at this; omega
   rw [if_neg h0, if_neg h1]; simp
theorem EZ {B b : Nat} {w0 : World} {op n : Int} {nm : Tx} {cs : List Tx} {ks : List Ex} {cv : Value} {A : Option Addr} {c : Nat} {C : Nat -> List Value} (h : dH B b w0 nm cs ks cv A c C) {w : World} {ts : List Tx} (ht : bN B b ts w) (hb : Below w0.heap.size w0 w) (hn : aQ (ts ++ lr nm cs (ks.map aE))) :
  Calls prog 48 #[.pointer (some ⟨b, 0, none⟩), .agg #[.int .i64 op, .string (str nm), .int .i64 n, cv, .slice A ks.length c]] w (bk B b (ts ++ lr nm cs (ks.map aE)) w) := by
 have HT := zH ht; have HB := zH hb; have HH := zH h; have hsz := hb.size; have hblt := ht.lt; have HC := zH h.hcs; have hlk : ks.length <= 9223372036854775807 := (by have := h.hl; have := h.hc; unfold maxLen at this; omega); obtain ⟨A2, n2, k2, rfl⟩ : ∃ A2 n2 k2, cv = .slice A2 n2 k2 := by obtain ⟨A2, k2, e, _⟩ := h.hcs; exact ⟨_, _, _, e⟩
 have HZ := zH hn; have HN := zH (show aQ (ts ++ [(str nm).data.toList] ++ fg cs ++ [(⟨#[40]⟩ : ByteArray).data.toList]) by have := wR hn 0; simpa [fC, iM, aZ] using this); clear h hn ht hb; go_enter func48, ntmps48
 go_wp2_with (first
  | (go_at_call 40; with_reducible refine (eh (str nm) (HT.o.alloc _) HN.o.left.left HH.o.hnm (by simp)).mono ?_
     rintro e w1 ⟨rfl, ht1, hk1⟩; have hbx1 := cV hk1 (heap_alloc_new w _) zO zD; obtain ⟨d0, d1, d2, d3, d4⟩ := aN hbx1; have HX1 := zH hbx1; have HT1 := zH ht1; have HK1 := zH (((bl.refl B b w).alloc HT.o.2 _).trans hk1); have HC1 := zH (dT.came (b := b) HC.o HH.o.size (HB.o.trans (HK1.o.below.mono HH.o.size))); clear ht1 hk1 hbx1)
  | (go_at_call 99; refine (uD _ HT1.o HC1.o HN.o.left).mono ?_; rintro e w2 ⟨rfl, ht2, hk2⟩; have hbx2 := cV hk2 HX1.o zO zD; obtain ⟨d0, d1, d2, d3, d4⟩ := aN hbx2; have HX2 := zH hbx2; have HT2 := zH ht2; have HK2 := zH (HK1.o.trans hk2); clear ht2 hk2 hbx2)
  | (go_at_call 40; with_reducible refine (eh ⟨#[40]⟩ HT2.o HN.o (bP zD) rfl).mono ?_
     rintro e w3 ⟨rfl, ht3, hk3⟩; have hbx3 := cV hk3 HX2.o zO zD; obtain ⟨d0, d1, d2, d3, d4⟩ := aN hbx3; have HT3 := zH ht3; have HK3 := zH (HK2.o.trans hk3); clear ht3 hk3 hbx3))
 go_loopg [21] ks.length (λ g v wr => ∃ k : Nat, k + g = ks.length /\ v = .int .i64 k /\ bN B b (fC ts nm cs (ks.map aE) k) wr /\ bl B b w wr)
 case atStart => exact ⟨0, by omega, rfl, by simpa [fC, iM, aZ] using HT3.o, HK3.o⟩
 case round =>
  obtain ⟨k, hkg, rfl, hto, hkw⟩ := hrel; have HK := zH hkg; have HW := zH hkw; have HTO := zH hto; have hkl : k <= ks.length := zO; have hblr := hto.lt; clear hkg hto hkw; by_cases hlt : k < ks.length
  . obtain ⟨y, hy⟩ := zG hlt; have HKS := zH (zl ts nm (cs := cs) (show (ks.map aE)[k]? = some (aE y) by simp [hy])); have HZ1 := zH (wR HZ.o (k + 1)); have hC := HH.o.hk k y hy; have HI := zH (HH.o.ih k y hy); obtain ⟨o1, s1, n1, A3, m1, k1', A4, m2, k4', hL⟩ := (HH.o.hx k y hy).shape; generalize C k = L at hC HI hL; subst hL; have HBR := zH (HB.o.trans (HW.o.below.mono HH.o.size)); have hszr := HBR.o.size; obtain ⟨a, rfl, hab, haa, q0, q1, q2, q3, q4⟩ := fB (hC.under HBR.o); clear hy hC; by_cases h0 : k = 0
    . have HN3 := zH (show aQ (fC ts nm cs (ks.map aE) k ++ aE y) by have := HZ1.o; rw [HKS.o, if_pos h0] at this; simpa using this); have HQ := zH (show fC ts nm cs (ks.map aE) (k + 1) = fC ts nm cs (ks.map aE) k ++ aE y by rw [HKS.o, if_pos h0]; simp); have hk0 : ¬ (0 < (k : Int)) := zO; clear h0; go_wp2_with (go_at_call 16; refine (HI.o _ _ (HTO.o.alloc _) (HBR.o.alloc zO _) HN3.o).mono ?_; rintro e w3 ⟨rfl, ht3, hk3⟩)
      go_roundg (ks.length - (k + 1))
      case measure => have := HK.o; omega
      case rel => exact ⟨k + 1, by omega, by go_num, by rw [HQ.o]; exact ht3, (HW.o.alloc HT.o.2 _).trans hk3⟩
    . have HN3 := zH (show aQ (fC ts nm cs (ks.map aE) k ++ [(⟨#[44]⟩ : ByteArray).data.toList] ++ aE y) by have := HZ1.o; rw [HKS.o, if_neg h0] at this; simpa [aZ] using this); have HQ := zH (show fC ts nm cs (ks.map aE) (k + 1) = fC ts nm cs (ks.map aE) k ++ [(⟨#[44]⟩ : ByteArray).data.toList] ++ aE y by rw [HKS.o, if_neg h0]; simp); have hk0 : 0 < k := zO; clear h0
      go_wp2_with (first
      | (go_at_call 40; with_reducible refine (eh ⟨#[44]⟩ (HTO.o.alloc _) HN3.o.left (bP zD) (by simp)).mono ?_
         rintro e w2 ⟨rfl, ht2, hk2⟩; have HW2 := zH ((HW.o.alloc HT.o.2 _).trans hk2); have hbx2 := cV hk2 (heap_alloc_new wr _) zO zD; obtain ⟨d0, d1, d2, d3, d4⟩ := aN hbx2; have HT2 := zH ht2; have HB2 := zH (HB.o.trans (HW2.o.below.mono HH.o.size)); clear ht2 hk2 hbx2)
      | (go_at_call 16; refine (HI.o _ _ HT2.o HB2.o HN3.o).mono ?_; rintro e w4 ⟨rfl, ht4, hk4⟩))
      go_roundg (ks.length - (k + 1))
      case measure => have := HK.o; omega
      case rel => exact ⟨k + 1, by omega, by go_num, by rw [HQ.o]; exact ht4, HW2.o.trans hk4⟩
  . have hke : k = ks.length := by omega
    have HKE := zH hke
    have HN2 := zH (show aQ (fC ts nm cs (ks.map aE) k ++ [(⟨#[41]⟩ : ByteArray).data.toList]) by
     have := HZ.o; unfold fC; rw [hke, List.take_of_length_le (by simp)]; simpa [lr] using this)
    clear hke; go_wp2_with (go_at_call 40; (with_reducible refine (eh ⟨#[41]⟩ HTO.o HN2.o (bP zD) rfl).mono ?_); rintro e w5 ⟨rfl, ht5, hk5⟩)
    go_end0
    refine ⟨rfl, ?_, HW.o.trans hk5⟩; unfold fC at ht5; rw [HKE.o, List.take_of_length_le (by simp)] at ht5; simpa [lr] using ht5
theorem s9 (W : World) (q : Option Addr) : (Builtin.unsafeString_ #[111, 3] 9 #[.pointer q, .int .i64 0]).run prog W = .ok (.string .empty) W := Lib.run_unsafeString_none W _ _ _ q
theorem tb : prog.follows Departure.mixedOrders = true := by kernel_rfl
theorem JS : prog.underlying 111 = some (.pointer 5) := by kernel_rfl
theorem xw (B b : Nat) (p : Value) (g0 : Bool) (l : List UInt8) (w : World) (h : de B b p (Lib.byteCells l) g0 w) (h0 : l ≠ []) :
  Calls prog 17 #[.pointer (some ⟨b, 0, none⟩)] w λ e w' => e = .returned (.string (str l)) /\ Below B w w' := by
 obtain ⟨hB, v, hbk, hown, hne⟩ := h; have hl0 : l.length ≠ 0 := (by simpa using h0); rw [Lib.byteCells_length] at hown; obtain ⟨g, cap, cur, fz, rfl, hbg, hg, hfz, hnc, hcm, hcs, htake⟩ : ∃ g cap cur fz, v = .slice (some ⟨g, 0, none⟩) l.length cap /\ B <= g /\ w.heap[g]? = some (.cells cur 5 fz) /\ fz.2 <= l.length * 1 /\ l.length <= cap /\ cap <= maxLen /\ cur.size = cap * 1 /\ cur.toList.take (l.length * 1) = Lib.byteCells l := by
  rcases hown.2 with ⟨_, hz⟩ | ⟨g, cap, cur, fz, hv, r⟩
  . exact absurd hz hl0
  . exact ⟨g, cap, cur, fz, hv, r⟩
 have c1 : w.drew.cell? ⟨b, 1, none⟩ = some (.slice (some ⟨g, 0, none⟩) l.length cap) := by
  have : w.drew.heap[b]? = some (.cells #[p, .slice (some ⟨g, 0, none⟩) l.length cap, .bool g0] 68 (0, 0)) := hbk; rw [Lib.cell_of_heap this]; rfl
 have hSD : (Builtin.unsafeSliceData_ #[64] 111 #[.slice (some ⟨g, 0, none⟩) l.length cap]).run prog w.drew = .ok (.pointer (some ⟨g, 0, none⟩)) w.drew :=
  Lib.run_unsafeSliceData_row _ _ _ _ _ _ zO
 have hUS : (Builtin.unsafeString_ #[111, 3] 9 #[.pointer (some ⟨g, 0, none⟩), .int .i64 l.length]).run prog w.drew = .ok (.string ⟨l.toArray⟩) (w.drew.freeze ⟨g, 0, none⟩ l.length) := by
  refine Lib.run_unsafeString_row w.drew 111 3 9 5 JS Fp.cellsByte g cur.size (by have hg' : w.drew.heap[g]? = some (.cells cur 5 fz) := hg; simp [World.shape?, hg']) l h0 zO (by unfold maxLen at hcm; omega) ?_; intro j x hx; exact hown.cells (g := g) rfl j (.int .u8 x.toNat) (by simp [Lib.byteCells, hx])
 have mixed := tb; go_enter func17, ntmps17
 go_wp2; go_region_o
 all_goals (go_wp2; go_ret; exact ⟨rfl, Lib.below_freeze (Below.drew (Below.refl B w)) (p := ⟨g, 0, none⟩) hbg _⟩)
theorem Bg (B b : Nat) (p : Value) (g0 : Bool) (w : World) (hbk : w.heap[b]? = some (.cells #[p, .slice none 0 0, .bool g0] 68 (0, 0))) :
  Calls prog 17 #[.pointer (some ⟨b, 0, none⟩)] w λ e w' => e = .returned (.string (str [])) /\ Below B w w' := by
 have hUS := s9; have c1 : w.drew.cell? ⟨b, 1, none⟩ = some (.slice none 0 0) := by
  have : w.drew.heap[b]? = some (.cells #[p, .slice none 0 0, .bool g0] 68 (0, 0)) := hbk; rw [Lib.cell_of_heap this]; rfl
 have hSD : (Builtin.unsafeSliceData_ #[64] 111 #[.slice none 0 0]).run prog w.drew = .ok (.pointer none) w.drew := rfl; have mixed := tb; go_enter func17, ntmps17
 go_wp2; go_region_o
 all_goals (go_wp2; go_ret; exact ⟨rfl, Below.drew (Below.refl B w)⟩)
theorem ta (B b g : Nat) (p : Value) (g0 : Bool) (cur : Array Value) (w : World) (hBw : B <= w.heap.size) (hbk : w.heap[b]? = some (.cells #[p, .slice (some ⟨g, 0, none⟩) 0 0, .bool g0] 68 (0, 0))) (fz : Nat × Nat) (hg : w.heap[g]? = some (.cells cur 5 fz)) :
  Calls prog 17 #[.pointer (some ⟨b, 0, none⟩)] w λ e w' => e = .returned (.string (str [])) /\ Below B w w' := by
 have hUS := s9; have hlt := ak hbk; have c1 : w.drew.cell? ⟨b, 1, none⟩ = some (.slice (some ⟨g, 0, none⟩) 0 0) := by
  have : w.drew.heap[b]? = some (.cells #[p, .slice (some ⟨g, 0, none⟩) 0 0, .bool g0] 68 (0, 0)) := hbk; rw [Lib.cell_of_heap this]; rfl
 have hSD : (Builtin.unsafeSliceData_ #[64] 111 #[.slice (some ⟨g, 0, none⟩) 0 0]).run prog w.drew = .ok (.pointer (some ⟨w.drew.heap.size, 0, none⟩)) (w.drew.alloc (.view ⟨g, 0, none⟩ 5)) :=
  Lib.run_unsafeSliceData_zero w.drew _ _ 5 JS ⟨g, 0, none⟩ 0 (5, cur.size) (by have hg' : w.drew.heap[g]? = some (.cells cur 5 fz) := hg; simp [World.shape?, hg'])
 have c2 : (w.drew.alloc (.view ⟨g, 0, none⟩ 5)).cell? ⟨b, 1, none⟩ = some (.slice (some ⟨g, 0, none⟩) 0 0) := by
  have : (w.drew.alloc (.view ⟨g, 0, none⟩ 5)).heap[b]? = _ := (Lib.alloc_old w.drew _ b hlt).trans hbk; rw [Lib.cell_of_heap this]; rfl
 have c3 : (w.alloc (.view ⟨g, 0, none⟩ 5)).drew.cell? ⟨b, 1, none⟩ = some (.slice (some ⟨g, 0, none⟩) 0 0) := c2; have c0 : w.cell? ⟨b, 1, none⟩ = some (.slice (some ⟨g, 0, none⟩) 0 0) := c1; have mixed := tb; go_enter func17, ntmps17
 go_wp2; go_region_o
 all_goals (go_wp2; go_ret; exact ⟨rfl, (Below.drew (Below.refl B w)).alloc hBw _⟩)
theorem xx (B b g cap : Nat) (p : Value) (g0 : Bool) (w : World) (hc0 : cap ≠ 0) (hbk : w.heap[b]? = some (.cells #[p, .slice (some ⟨g, 0, none⟩) 0 cap, .bool g0] 68 (0, 0))) :
  Calls prog 17 #[.pointer (some ⟨b, 0, none⟩)] w λ e w' => e = .returned (.string (str [])) /\ Below B w w' := by
 have hUS := s9; have c1 : w.drew.cell? ⟨b, 1, none⟩ = some (.slice (some ⟨g, 0, none⟩) 0 cap) := by
  have : w.drew.heap[b]? = some (.cells #[p, .slice (some ⟨g, 0, none⟩) 0 cap, .bool g0] 68 (0, 0)) := hbk; rw [Lib.cell_of_heap this]; rfl
 have hSD : (Builtin.unsafeSliceData_ #[64] 111 #[.slice (some ⟨g, 0, none⟩) 0 cap]).run prog w.drew = .ok (.pointer (some ⟨g, 0, none⟩)) w.drew :=
  Lib.run_unsafeSliceData_row _ _ _ _ _ _ hc0
 clear hc0; have mixed := tb; go_enter func17, ntmps17
 go_wp2; go_region_o
 all_goals (go_wp2; go_ret; exact ⟨rfl, Below.drew (Below.refl B w)⟩)
theorem Bh (B b : Nat) (g0 : Bool) (l : List UInt8) (w : World) (h : fP B b (Lib.byteCells l) g0 w) (hBw : B <= w.heap.size) :
  Calls prog 17 #[.pointer (some ⟨b, 0, none⟩)] w λ e w' => e = .returned (.string (str l)) /\ Below B w w' := by
 obtain ⟨p, h⟩ : ∃ p, de B b p (Lib.byteCells l) g0 w := h.elim (λ h => ⟨_, h⟩) (λ h => ⟨_, h⟩); cases l with
 | cons x r => exact xw B b p g0 (x :: r) w h (by simp)
 | nil =>
   obtain ⟨hB, v, hbk, hown, hne⟩ := h; rcases hown.2 with ⟨rfl, _⟩ | ⟨g, cap, cur, fz, rfl, hbg, hg, _, _, _, _, _⟩
   . exact Bg B b p g0 w hbk
   . by_cases hc0 : cap = 0
     . subst hc0; exact ta B b g p g0 cur w hBw hbk fz hg
     . exact xx B b g cap p g0 w hc0 hbk
end Go.Proofs.YtkfacdofkfabnaaGreatDoor
