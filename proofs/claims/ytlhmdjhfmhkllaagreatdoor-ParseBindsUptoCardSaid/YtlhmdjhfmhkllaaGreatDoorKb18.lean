/-
  Texts joined.
-/
import Derived.Laws.AppendOwn
import Derived.Test.YtlhmdjhfmhkllaaGreatDoorKb07
namespace Go.Proofs.YtlhmdjhfmhkllaaGreatDoor
open Go.RowKit
theorem str_info : (Tryz.prog.info? 9).map (fun i => (i.zero, i.size, i.bytes)) = some (some (.string ⟨#[]⟩), 1, 16) := by kernel_rfl
theorem run_append_nilS {w : World} (base : Nat) (t ty e : TypeId) (i : TypeInfo) (size : Nat) (ht : Tryz.prog.underlying t = some (.slice e)) (hi : Tryz.prog.info? e = some i)
    (v : Value) (n : Nat) (xs : List Value) (hown : w.ownsRow base e size v n xs) (c : Nat) :
    (Builtin.append_ #[t, t] ty #[v, .slice none 0 c]).run Tryz.prog w = .ok v w := by
  rcases hown.2 with ⟨rfl, rfl⟩ | ⟨g, cap, cur, rfl, _, _, hnc, _⟩
  · simp [Builtin.append_, run_underlying ht, sizeOf, typeInfo, hi, Builtin.lenOf, Builtin.firstCells]
  · simp [Builtin.append_, run_underlying ht, sizeOf, typeInfo, hi, Builtin.lenOf, Builtin.firstCells, hnc, storeCells]
end Go.Proofs.YtlhmdjhfmhkllaaGreatDoor

namespace Go.Proofs.YtlhmdjhfmhkllaaGreatDoor
open Go.RowKit
def zeroEx : Value := .agg #[.int .i64 0, .string ⟨#[]⟩, .int .i64 0, .slice none 0 0, .slice none 0 0]
theorem expr_info : (Tryz.prog.info? 37).map (fun i => (i.zero, i.size, i.bytes)) = some (some zeroEx, 5, 80) := by kernel_rfl
/-- a slice of the call's own that holds the expressions xs -/
def OwnE (w0 : World) (B : Nat) (w : World) (v : Value) (xs : List Ex) : Prop :=
  ∃ Ls : List (List Value), w.ownsRow B 37 5 v xs.length Ls.flatten ∧ Ls.length = xs.length ∧ ∀ (i : Nat) L x, Ls[i]? = some L → xs[i]? = some x → ExAt w0 L x
theorem OwnE.nil (w0 : World) (B : Nat) (w : World) : OwnE w0 B w (.slice none 0 0) [] := ⟨[], ⟨rfl, .inl ⟨rfl, rfl⟩⟩, rfl, fun i L x h => by simp at h⟩
theorem OwnE.snoc {w0 w' : World} {B : Nat} {v' : Value} {xs : List Ex} {x : Ex} {L : List Value} {Ls : List (List Value)} (hlen : Ls.length = xs.length) (hE : ∀ (i : Nat) L x, Ls[i]? = some L → xs[i]? = some x → ExAt w0 L x) (hx : ExAt w0 L x)
    (ho : w'.ownsRow B 37 5 v' (xs.length + 1) (Ls.flatten ++ L)) : OwnE w0 B w' v' (xs ++ [x]) := by
  refine ⟨Ls ++ [L], by simpa using ho, by simp [hlen], fun i M y hM hy => ?_⟩; by_cases hi : i < Ls.length
  · rw [List.getElem?_append_left hi] at hM; rw [List.getElem?_append_left (by omega)] at hy; exact hE i M y hM hy
  · rw [List.getElem?_append_right (by omega)] at hM hy; rw [hlen] at hM; have h0 : i - xs.length = 0 := by
      rcases Nat.eq_zero_or_pos (i - xs.length) with h | h
      · exact h
      · rw [List.getElem?_eq_none (by simp; omega)] at hM; cases hM
    rw [h0] at hM hy; cases hM; cases hy; exact hx
theorem OwnE.grown {w0 w w' : World} {B : Nat} {v : Value} {xs : List Ex} (h : OwnE w0 B w v xs) (hk : ∀ Ls : List Value, w.ownsRow B 37 5 v xs.length Ls → w'.ownsRow B 37 5 v xs.length Ls) : OwnE w0 B w' v xs := by
  obtain ⟨Ls, h1, h2, h3⟩ := h; exact ⟨Ls, hk _ h1, h2, h3⟩
theorem OwnE.alloc {w0 w : World} {B : Nat} {v : Value} {xs : List Ex} (h : OwnE w0 B w v xs) (o : Obj) : OwnE w0 B (w.alloc o) v xs := h.grown fun _ h => h.alloc _
/-- a block of another type than the row's is kept -/
theorem other_kept {w w' : World} {B n : Nat} {v : Value} {xs : List Value} {g : Nat} {cs : Array Value} {T : TypeId} (ho : w.ownsRow B 37 5 v n xs) (hg : w.grownBy w' v.ownBlock) (h : w.heap[g]? = some (.cells cs T (0, 0))) (hne : T ≠ 37) : w'.heap[g]? = some (.cells cs T (0, 0)) := by
  refine (hg.block g (lt_of_heap h) fun e => ?_).trans h; rcases ho.2 with ⟨rfl, _⟩ | ⟨g', cap, cur, rfl, _, hh, _⟩
  · simp [Value.ownBlock] at e
  · have : g = g' := by simpa [Value.ownBlock] using e
    subst this; rw [h] at hh; injection hh with hh; injection hh with _ ht; exact hne ht
/-- what an append leaves -/
def AppE (w0 : World) (B : Nat) (xs : List Ex) (W : World) (v' : Value) (w' : World) : Prop :=
  OwnE w0 B w' v' xs ∧ Below B W w' ∧ ∀ (g : Nat) (cs : Array Value) (T : TypeId), T ≠ 37 → W.heap[g]? = some (.cells cs T (0, 0)) → w'.heap[g]? = some (.cells cs T (0, 0))
theorem append_expr {ops : Array Oper} {rest : List Oper} {o : Oper} {a : Act} {Q : Exit → Act → World → Prop} {W : World} {w0 : World} {B : Nat} {v : Value} {xs : List Ex} {x : Ex} {L : List Value} {N : Nat} (hgd : o.guard = none) (s y : Operand)
    (ho : o.op = .call { callee := .builtin .append, args := #[s, y], argTypes := #[35, 35] }) (hs : a.eval s = v) (hy : a.eval y = .slice (some ⟨N, 0, none⟩) 1 1)
    (hN : W.heap[N]? = some (.cells L.toArray 37 (0, 0))) (hO : OwnE w0 B W v xs) (hx : ExAt w0 L x) (hl : xs.length ≤ 2097152) (hB : B ≤ W.heap.size)
    (h : ∀ v' w', AppE w0 B (xs ++ [x]) W v' w' → wpList Tryz.prog ops Q rest (a.put o.dst v') w') : wpList Tryz.prog ops Q (o :: rest) a W := by
  obtain ⟨i0, hi, hz0, hz1, hz2⟩ := info_parts expr_info; obtain ⟨Ls, hown, hlen, hE⟩ := hO; refine wpList_append_own W hgd s y 35 ho B 37 i0 zeroEx 5 80 Tryz.underlying35 hi hz0 hz1 hz2 rfl (by decide) v xs.length Ls.flatten hs hown ⟨N, 0, none⟩ 1 1 L hy (by rw [hx.len]) (fun j u hj => ?_) (fun u hu => ?_) (by unfold maxLen; omega) (by omega) hB fun v' w' h1 h2 _ => h v' w' ⟨OwnE.snoc hlen hE hx h1, ?_, fun g cs T hne hg => other_kept hown h2 hg hne⟩
  · have hadd : (⟨N, 0, none⟩ : Addr).add j = ⟨N, j, none⟩ := by unfold Addr.add; split <;> simp_all
    rw [hadd, cell_of_row _ _ _ _ _ _ hN]; simpa using hj
  · obtain ⟨o1, s1, n1, A1, m1, k1, A2, m2, k2, rfl⟩ := hx.shape; simp at hu; rcases hu with rfl | rfl | rfl | rfl | rfl <;> rfl
  · exact (Below.refl B W).grown h2 hB (fun j hj => (hown.lt j hj).1)
end Go.Proofs.YtlhmdjhfmhkllaaGreatDoor

namespace Go.Proofs.YtlhmdjhfmhkllaaGreatDoor
open Go.RowKit
theorem flat_snoc {X Y : Type} {f : X → List Y} {l : List X} {k : Nat} {x : X} (h : l[k]? = some x) : (l.take (k + 1)).flatMap f = (l.take k).flatMap f ++ f x := by
  rw [take_snoc h]; simp
theorem flat_le {X Y : Type} (f : X → List Y) (l : List X) (k : Nat) : ((l.take k).flatMap f).length ≤ (l.flatMap f).length := by
  have : l.flatMap f = (l.take k).flatMap f ++ (l.drop k).flatMap f := by rw [← List.flatMap_append, List.take_append_drop]
  rw [this]; simp
theorem heap_new1 (w : World) (A B : Obj) : ((w.alloc A).alloc B).heap[w.heap.size + 1]? = some B := by
  have := heap_alloc_new (w.alloc A) B; simpa using this
theorem heap_new0 (w : World) (A B : Obj) : ((w.alloc A).alloc B).heap[w.heap.size]? = some A := (Below.heap_alloc _ _ _ (by simp)).trans (heap_alloc_new w A)
theorem heap_two {w : World} {g : Nat} {o : Obj} (h : w.heap[g]? = some o) (A B : Obj) : ((w.alloc A).alloc B).heap[g]? = some o :=
  (Below.heap_alloc _ _ _ (by have := lt_of_heap h; simp; omega)).trans ((Below.heap_alloc _ _ _ (lt_of_heap h)).trans h)
def ExprsPost (w0 : World) (xs : List Ex) (w : World) (e : Ending) (w' : World) : Prop := ∃ v, e = .returned v ∧ OwnE w0 w.heap.size w' v xs ∧ Below w.heap.size w w'
set_option maxRecDepth 100000 in
set_option maxHeartbeats 4000000 in
theorem expressions_any {w0 : World} {x : QNode} {L : List Value} (hL : NodeAt w0 L x) (hq : (nodeX x).length ≤ 1048576) : ∀ w, Below w0.heap.size w0 w → Calls Tryz.prog 102 #[.agg L.toArray] w (ExprsPost w0 (nodeX x) w) := by
  intro w hw; obtain ⟨fv, iv, ov, xv, rfl, _, hf1, hf2, hf3, hxs⟩ := hL; obtain ⟨_, _, _, rfl⟩ := SliceAt.shape hf1; obtain ⟨_, _, _, rfl⟩ := SliceAt.shape hf2; obtain ⟨_, _, _, rfl⟩ := SliceAt.shape hf3; obtain ⟨A, ca, rfl, hca, hma, hea⟩ := hxs; have hla : x.items.length ≤ 9223372036854775807 := (by unfold maxLen at hma; omega); have HW0 := Lib.hid hw; have hsz0 := hw.size; have HQ := Lib.hid hq; clear hw hf1 hf2 hf3 hca hma hq; go_enter Tryz.func102, Tryz.ntmps102
  go_wp2_with fail
  go_loopg [3, 15] x.items.length (fun g v i wr => ∃ k : Nat, k + g = x.items.length ∧ i = .int .i64 k ∧ OwnE w0 w.heap.size wr v ((x.items.take k).flatMap itemX) ∧ Below w.heap.size w wr)
  case atStart => exact ⟨0, by omega, rfl, by simpa using OwnE.nil _ _ _, (Below.refl _ _).alloc (Nat.le_refl _) _⟩
  case round =>
    obtain ⟨k, hkg, rfl, ho, hbw⟩ := hrel; have HK := Lib.hid hkg; have HW := Lib.hid hbw; have hszw := hbw.size; have hkl : k ≤ x.items.length := (by omega); have HO := Lib.hid ho; clear hkg hbw ho; by_cases hlt : k < x.items.length
    · obtain ⟨y, hy⟩ : ∃ y, x.items[k]? = some y := ⟨_, List.getElem?_eq_getElem hlt⟩; obtain ⟨wr1, rfl⟩ : ∃ W, W = wr := ⟨_, rfl⟩; have HT := Lib.hid (flat_snoc (f := itemX) hy); have hlenT : ((x.items.take k).flatMap itemX).length + (itemX y).length ≤ 1048576 := by
        have h1 := flat_le itemX x.items (k + 1); rw [flat_snoc hy, List.length_append] at h1; have h2 : (nodeX x).length ≤ 1048576 := HQ.out; unfold nodeX at h2; omega
      obtain ⟨M, hEM, hRM⟩ := hea k y hy; obtain ⟨⟨nm, e⟩, sts⟩ := y; obtain ⟨L', sv, rfl, hEq, hst⟩ := hRM; obtain ⟨nv, Le, rfl, hnv, hxe⟩ := hEq; obtain ⟨nA, nn, nk, rfl⟩ := SliceAt.shape hnv; obtain ⟨eo1, es2, eo3, eA4, en4, ek4, eA5, en5, ek5, rfl⟩ := hxe.shape; obtain ⟨sA, sc, rfl, hsc, hsm, hes⟩ := hst; simp only [List.cons_append, List.nil_append] at hEM; have hsl : sts.length ≤ 9223372036854775807 := (by have h : sts.length ≤ sc := hsc; unfold maxLen at hsm; omega); have HXE := Lib.hid hxe; have HB0 := Lib.hid (HW0.out.trans (HW.out.mono hsz0)); obtain ⟨a, rfl, hab, haa, d0, d1, d2, d3, d4, d5, d6⟩ := elem7 (hEM.under HB0.out); clear hnv hxe hsm hsc hEM hea hy; by_cases hst0 : sts = []
      · subst hst0; simp only [itemX, if_true, List.flatMap_nil, List.append_nil, List.length_singleton, List.length_nil] at *; go_wp2_with (at_builtin; refine append_expr rfl _ _ rfl rfl rfl (heap_new1 wr1 _ _) ((HO.out.alloc _).alloc _) HXE.out ?_ ?_ ?_; (first | omega | (simp; omega)); (first | omega | (simp; omega)); (intro v5 w5 h5; obtain ⟨ho5, hb5, hk5⟩ := h5; have HO5 := Lib.hid ho5; have HB5 := Lib.hid (((HW.out.alloc (by omega) _).alloc (by simp; omega) _).trans hb5); obtain ⟨z0, z1, z2, z3, z4, z5, z6⟩ := row7 (hk5 _ _ 76 (by decide) (heap_new0 wr1 _ _)); clear ho5 hb5 hk5))
        go_loopg [3, 32] 0 (fun g v i wr2 => g = 0 ∧ v = v5 ∧ i = .int .i64 0 ∧ wr2 = w5)
        case atStart => exact ⟨rfl, rfl, rfl, rfl⟩
        case round =>
          obtain ⟨rfl, rfl, rfl, rfl⟩ := hrel; go_wp2_with fail
          go_roundg (x.items.length - (k + 1))
          case measure => have := HK.out; omega
          case rel => exact ⟨k + 1, by omega, by go_num, by rw [HT.out]; exact HO5.out, HB5.out⟩
      · have hd : ((sts.length : Int) == 0) = false := by cases sts with
          | nil => exact absurd rfl hst0
          | cons a b => simp; omega
        have HST := Lib.hid hst0; clear hst0; have hX : itemX ⟨⟨nm, e⟩, sts⟩ = sts.flatMap stateX := (by simp [itemX, HST.out]); rw [hX] at HT hlenT; clear hX; clear HXE; generalize hacc : (x.items.take k).flatMap itemX = acc at *; go_wp2_with fail
        go_loopg [3, 32] sts.length (fun g v i wr2 => ∃ k2 : Nat, k2 + g = sts.length ∧ i = .int .i64 k2 ∧ OwnE w0 w.heap.size wr2 v (acc ++ (sts.take k2).flatMap stateX) ∧ Below w.heap.size w wr2)
        case atStart => exact ⟨0, by omega, rfl, by simpa using HO.out.alloc _, HW.out.alloc (by omega) _⟩
        case round =>
          obtain ⟨wr2, rfl⟩ : ∃ W, W = wr := ⟨_, rfl⟩; obtain ⟨k2, hkg2, rfl, ho2, hbw2⟩ := hrel; have HK2 := Lib.hid hkg2; have HW2 := Lib.hid hbw2; have hszw2 := hbw2.size; have hkl2 : k2 ≤ sts.length := (by omega); have HO2 := Lib.hid ho2; clear hkg2 hbw2 ho2; by_cases hlt2 : k2 < sts.length
          · obtain ⟨z, hz⟩ : ∃ z, sts[k2]? = some z := ⟨_, List.getElem?_eq_getElem hlt2⟩; have HT2 := Lib.hid (flat_snoc (f := stateX) hz); have hlen2 : (acc ++ (sts.take k2).flatMap stateX).length + (stateX z).length ≤ 1048576 := by
              have h1 := flat_le stateX sts (k2 + 1); rw [flat_snoc hz, List.length_append] at h1; rw [List.length_append]; omega
            obtain ⟨N, hEN, hRN⟩ := hes k2 z hz; obtain ⟨zn, eqs, ways⟩ := z; obtain ⟨ev, wv, rfl, _, hev, hwv⟩ := hRN; obtain ⟨qA, qc, rfl, hqc, hqm, heq⟩ := hev; obtain ⟨yA, yc, rfl, hyc, hym, hey⟩ := hwv; have hql : eqs.length ≤ 9223372036854775807 := (by have h : eqs.length ≤ qc := hqc; unfold maxLen at hqm; omega); have hyl : ways.length ≤ 9223372036854775807 := (by have h : ways.length ≤ yc := hyc; unfold maxLen at hym; omega); simp only [stateX, List.length_append, List.length_map] at hlen2; have HB2 := Lib.hid (HW0.out.trans (HW2.out.mono hsz0)); obtain ⟨b, rfl, hbb, hbbb, e0, e1, e2⟩ := elem3 (hEN.under HB2.out); clear hqc hqm hyc hym hEN hes hz; generalize hacc2 : acc ++ (sts.take k2).flatMap stateX = acc2 at *; have hlen2' : acc2.length + (eqs.length + ways.length) ≤ 1048576 := (by rw [← hacc2]; simp only [List.length_append]; omega); go_wp2_with fail
            go_loopg [3, 39] eqs.length (fun g v i wr3 => ∃ k3 : Nat, k3 + g = eqs.length ∧ i = .int .i64 k3 ∧ OwnE w0 w.heap.size wr3 v (acc2 ++ (eqs.take k3).map QEq.e) ∧ Below w.heap.size w wr3 ∧ wr3.heap[wr2.heap.size]? = some (.cells #[.string (str zn), .slice qA eqs.length qc, .slice yA ways.length yc] 116 (0, 0)))
            case atStart => exact ⟨0, by omega, rfl, by simpa using HO2.out.alloc _, HW2.out.alloc (by omega) _, heap_alloc_new wr2 _⟩
            case round =>
              obtain ⟨wr3, rfl⟩ : ∃ W, W = wr := ⟨_, rfl⟩; obtain ⟨k3, hkg3, rfl, ho3, hbw3, hbx3⟩ := hrel; have HK3 := Lib.hid hkg3; have HW3 := Lib.hid hbw3; have hszw3 := hbw3.size; have hkl3 : k3 ≤ eqs.length := (by omega); have HBX3 := Lib.hid hbx3; have hltb3 := lt_of_heap hbx3; by_cases hlt3 : k3 < eqs.length
              · obtain ⟨q, hq⟩ : ∃ q, eqs[k3]? = some q := ⟨_, List.getElem?_eq_getElem hlt3⟩; have HT3 := Lib.hid (show (eqs.take (k3 + 1)).map QEq.e = (eqs.take k3).map QEq.e ++ [q.e] by rw [take_snoc hq]; simp); obtain ⟨N3, hEN3, nv3, Le3, rfl, hnv3, hxe3⟩ := heq k3 q hq; obtain ⟨nA3, nn3, nk3, rfl⟩ := SliceAt.shape hnv3; obtain ⟨eo1, es2, eo3, eA4, en4, ek4, eA5, en5, ek5, rfl⟩ := hxe3.shape; have HXE := Lib.hid hxe3; have HB3 := Lib.hid (HW0.out.trans (HW3.out.mono hsz0)); obtain ⟨c, rfl, hcb, hcbb, f0, f1, f2, f3, f4, f5⟩ := elem6 (hEN3.under HB3.out); have HO3 := Lib.hid ho3; have hlen3 : (acc2 ++ (eqs.take k3).map QEq.e).length ≤ acc2.length + k3 := (by simp; omega); clear hkg3 hbw3 hbx3 ho3 hnv3 hxe3 hEN3 hq heq hey; go_wp2_with (at_builtin; refine append_expr rfl _ _ rfl rfl rfl (heap_new1 wr3 _ _) ((HO3.out.alloc _).alloc _) HXE.out ?_ ?_ ?_; (first | omega | (simp; omega)); (first | omega | (simp; omega)); (intro v5 w5 h5; obtain ⟨ho5, hb5, hk5⟩ := h5; have HO5 := Lib.hid ho5; have HB5 := Lib.hid (((HW3.out.alloc (by omega) _).alloc (by simp; omega) _).trans hb5); have HBX5 := Lib.hid (hk5 _ _ 116 (by decide) (heap_two HBX3.out _ _)); clear ho5 hb5 hk5))
                go_roundg (eqs.length - (k3 + 1))
                case measure => have := HK3.out; omega
                case rel => exact ⟨k3 + 1, by omega, by go_num, by rw [HT3.out, ← List.append_assoc]; exact HO5.out, HB5.out, HBX5.out⟩
              · have hke3 : k3 = eqs.length := by omega
                obtain ⟨g0, g1, g2⟩ := row3 hbx3; have HO3 := Lib.hid (show OwnE w0 w.heap.size wr3 _ (acc2 ++ eqs.map QEq.e) by rw [hke3, List.take_length] at ho3; exact ho3); have HKE3 := Lib.hid hke3; clear hkg3 hbw3 hbx3 ho3 hke3 heq; go_wp2_with fail
                go_loopg [3, 52] ways.length (fun g v i wr4 => ∃ k4 : Nat, k4 + g = ways.length ∧ i = .int .i64 k4 ∧ OwnE w0 w.heap.size wr4 v (acc2 ++ eqs.map QEq.e ++ (ways.take k4).map QWay.cond) ∧ Below w.heap.size w wr4)
                case atStart => exact ⟨0, by omega, rfl, by simpa using HO3.out, HW3.out⟩
                case round =>
                  obtain ⟨wr4, rfl⟩ : ∃ W, W = wr := ⟨_, rfl⟩; obtain ⟨k4, hkg4, rfl, ho4, hbw4⟩ := hrel; have HK4 := Lib.hid hkg4; have HW4 := Lib.hid hbw4; have hszw4 := hbw4.size; have hkl4 : k4 ≤ ways.length := (by omega); by_cases hlt4 : k4 < ways.length
                  · obtain ⟨q, hq⟩ : ∃ q, ways[k4]? = some q := ⟨_, List.getElem?_eq_getElem hlt4⟩; have HT4 := Lib.hid (show (ways.take (k4 + 1)).map QWay.cond = (ways.take k4).map QWay.cond ++ [q.cond] by rw [take_snoc hq]; simp); obtain ⟨N4, hEN4, Le4, rfl, hxe4, _⟩ := hey k4 q hq; obtain ⟨eo1, es2, eo3, eA4, en4, ek4, eA5, en5, ek5, rfl⟩ := hxe4.shape; simp only [List.cons_append, List.nil_append] at hEN4; have HXE := Lib.hid hxe4; have HB4 := Lib.hid (HW0.out.trans (HW4.out.mono hsz0)); obtain ⟨c, rfl, hcb, hcbb, f0, f1, f2, f3, f4, f5⟩ := elem6 (hEN4.under HB4.out); have HO4 := Lib.hid ho4; have hlen4 : (acc2 ++ eqs.map QEq.e ++ (ways.take k4).map QWay.cond).length ≤ acc2.length + eqs.length + k4 := (by simp; omega); clear hkg4 hbw4 ho4 hxe4 hEN4 hq hey g0 g1 g2; go_wp2_with (at_builtin; refine append_expr rfl _ _ rfl rfl rfl (heap_new1 wr4 _ _) ((HO4.out.alloc _).alloc _) HXE.out ?_ ?_ ?_; (first | omega | (simp; omega)); (first | omega | (simp; omega)); (intro v5 w5 h5; obtain ⟨ho5, hb5, hk5⟩ := h5; have HO5 := Lib.hid ho5; have HB5 := Lib.hid (((HW4.out.alloc (by omega) _).alloc (by simp; omega) _).trans hb5); clear ho5 hb5 hk5))
                    go_roundg (ways.length - (k4 + 1))
                    case measure => have := HK4.out; omega
                    case rel => exact ⟨k4 + 1, by omega, by go_num, by rw [HT4.out, ← List.append_assoc]; exact HO5.out, HB5.out⟩
                  · have hke4 : k4 = ways.length := by omega
                    have HO4 := Lib.hid (show OwnE w0 w.heap.size wr4 _ (acc ++ (sts.take (k2 + 1)).flatMap stateX) by
                      rw [hke4, List.take_length] at ho4; rw [HT2.out, ← List.append_assoc, hacc2, stateX, ← List.append_assoc]; exact ho4)
                    clear hkg4 hbw4 ho4 hke4 hey g0 g1 g2; go_wp2_with fail
                    go_roundg (sts.length - (k2 + 1))
                    case measure => have := HK2.out; omega
                    case rel => exact ⟨k2 + 1, by omega, by go_num, HO4.out, HW4.out⟩
          · have hke2 : k2 = sts.length := by omega
            have HO3 := Lib.hid (show OwnE w0 w.heap.size wr2 _ ((x.items.take (k + 1)).flatMap itemX) by
              have h := HO2.out; rw [hke2, List.take_length] at h; rw [HT.out]; exact h)
            clear hke2; go_wp2_with fail
            go_roundg (x.items.length - (k + 1))
            case measure => have := HK.out; omega
            case rel => exact ⟨k + 1, by omega, by go_num, HO3.out, HW2.out⟩
    · have hke : k = x.items.length := by omega
      have HKE := Lib.hid hke; clear hke; go_wp2_with fail
      go_ret; exact ⟨_, rfl, by have := HO.out; rw [HKE.out, List.take_length] at this; exact this, HW.out⟩
end Go.Proofs.YtlhmdjhfmhkllaaGreatDoor
