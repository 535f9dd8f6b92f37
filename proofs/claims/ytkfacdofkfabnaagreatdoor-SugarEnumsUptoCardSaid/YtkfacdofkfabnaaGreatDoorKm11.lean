import Derived.Laws.AppendOwn
import Derived.Test.YtkfacdofkfabnaaGreatDoorKm08
set_option maxHeartbeats 4000000
set_option maxRecDepth 100000
namespace Go.Proofs.YtkfacdofkfabnaaGreatDoor
open _root_.Go.Proofs.Tryz
open Go.RowKit
theorem lZ : (prog.info? 9).map (λ i => (i.zero, i.size, i.bytes)) = some (some (.string ⟨#[]⟩), 1, 16) := by kernel_rfl
def fw (B : Nat) (w : World) (v : Value) (l : List Tx) : Prop := w.ownsRow B 9 1 v l.length (l.map λ x => .string (str x)) /\ ∀ x ∈ l, x.length <= maxLen
theorem fw.nil (B : Nat) (w : World) : fw B w (.slice none 0 0) [] := ⟨⟨rfl, .inl ⟨rfl, rfl⟩⟩, by simp⟩
theorem fw.alloc {B : Nat} {w : World} {v : Value} {l : List Tx} (h : fw B w v l) (o : Obj) : fw B (w.alloc o) v l := ⟨h.1.alloc o, h.2⟩
theorem vm {w w' : World} {B n m : Nat} {E : TypeId} {v : Value} {xs : List Value} {g : Nat} {cs : Array Value} {T0 : TypeId} (ho : w.ownsRow B E m v n xs) (hg : w.grownBy w' v.ownBlock) (h : w.heap[g]? = some (.cells cs T0 (0, 0))) (hne : T0 ≠ E) : w'.heap[g]? = some (.cells cs T0 (0, 0)) := by
 refine (hg.block g (ak h) λ e => ?_).trans h; rcases ho.2 with ⟨rfl, _⟩ | ⟨g', cap, cur, rfl, _, hh, _⟩
 . simp [Value.ownBlock] at e
 . have : g = g' := by simpa [Value.ownBlock] using e
   subst this; rw [h] at hh; injection hh with hh; injection hh with _ ht; exact hne ht
def KE (B : Nat) (l : List Tx) (W : World) (v' : Value) (w' : World) : Prop :=
 fw B w' v' l /\ Below B W w' /\ ∀ (g : Nat) (cs : Array Value) (T0 : TypeId), T0 ≠ 9 -> W.heap[g]? = some (.cells cs T0 (0, 0)) -> w'.heap[g]? = some (.cells cs T0 (0, 0))
theorem zy {ops : Array Oper} {rest : List Oper} {o : Oper} {a : Act} {Q : Exit -> Act -> World -> Prop} {W : World} {B : Nat} {v : Value} {l : List Tx} {x : Tx} {N : Nat} (hgd : o.guard = none) (s y : Operand)
  (ho : o.op = .call { callee := .builtin .append, args := #[s, y], argTypes := #[33, 33] }) (hs : a.eval s = v) (hy : a.eval y = .slice (some ⟨N, 0, none⟩) 1 1)
  (hN : W.heap[N]? = some (.cells #[.string (str x)] 9 (0, 0))) (hO : fw B W v l) (hx : x.length <= maxLen) (hl : l.length <= 2097152) (hB : B <= W.heap.size)
  (h : ∀ v' w', KE B (l ++ [x]) W v' w' -> wpList prog ops Q rest (a.put o.dst v') w') : wpList prog ops Q (o :: rest) a W := by
 obtain ⟨i0, hi, hz0, hz1, hz2⟩ := info_parts lZ; obtain ⟨hown, hle⟩ := hO; refine wpList_append_own W hgd s y 33 ho B 9 i0 (.string ⟨#[]⟩) 1 16 underlying33 hi hz0 hz1 hz2 rfl zD v l.length _ hs hown ⟨N, 0, none⟩ 1 1 [.string (str x)] hy (by simp) (λ j u hj => ?_) (λ u hu => ?_) (by unfold maxLen; omega) zO hB λ v' w' h1 h2 _ => h v' w' ⟨⟨by simpa using h1, ?_⟩, ?_, λ g cs T0 hne hg => vm hown h2 hg hne⟩
 . have hadd : (⟨N, 0, none⟩ : Addr).add j = ⟨N, j, none⟩ := by unfold Addr.add; split <;> simp_all
   rw [hadd, cell_of_row _ _ _ _ _ _ hN]; simpa using hj
 . simp at hu; subst hu; rfl
 . intro z hz; rcases List.mem_append.1 hz with hz | hz
   . exact hle z hz
   . simp at hz; subst hz; exact hx
 . exact (Below.refl B W).grown h2 hB (λ j hj => (hown.lt j hj).1)
theorem fw.strs {B : Nat} {w : World} {v : Value} {l : List Tx} (h : fw B w v l) : aH w v l := by
 obtain ⟨hown, hle⟩ := h; rcases hown.2 with ⟨rfl, h0⟩ | ⟨g, cap, cur, rfl, _, hh, hc, hm, _⟩
 . have : l = [] := List.eq_nil_of_length_eq_zero h0; subst this; exact ⟨none, 0, rfl, Nat.le_refl _, by unfold maxLen; omega, λ i x h => by simp at h⟩
 . refine ⟨_, cap, rfl, hc, hm, λ i x hx => ⟨[.string (str x)], ⟨_, rfl, λ j u hu => ?_⟩, rfl, hle x (List.mem_of_getElem? hx)⟩⟩; have hj : j = 0 := by
    have := (List.getElem?_eq_some_iff.1 hu).1; simp at this; exact this
   subst hj; simp only [List.getElem?_cons_zero, Option.some.injEq] at hu; subst hu; rw [fU]; refine hown.cells (g := g) rfl _ _ ?_; simp [hx]
def IM (B : Nat) (l : List Tx) (v : Value) (W : World) (v' : Value) (w' : World) : Prop :=
 fw B w' v' l /\ Below B W w' /\ ∀ (g : Nat) (o : Obj), W.heap[g]? = some o -> v.ownBlock ≠ some g -> w'.heap[g]? = some o
theorem jD {w : World} (base : Nat) (t ty e : TypeId) (i : TypeInfo) (size : Nat) (ht : prog.underlying t = some (.slice e)) (hi : prog.info? e = some i)
  (v : Value) (n : Nat) (xs : List Value) (hown : w.ownsRow base e size v n xs) (c : Nat) :
  (Builtin.append_ #[t, t] ty #[v, .slice none 0 c]).run prog w = .ok v w := by
 rcases hown.2 with ⟨rfl, rfl⟩ | ⟨g, cap, cur, rfl, _, _, hnc, _⟩
 . simp [Builtin.append_, run_underlying ht, sizeOf, typeInfo, hi, Builtin.lenOf, Builtin.firstCells]
 . simp [Builtin.append_, run_underlying ht, sizeOf, typeInfo, hi, Builtin.lenOf, Builtin.firstCells, hnc, storeCells]
theorem xz {W : World} {ad : Addr} {n c : Nat} {ys : List Tx} (h : aH W (.slice (some ad) n c) ys) : n = ys.length /\ ∀ (j : Nat) u, (ys.map λ y => Value.string (str y))[j]? = some u -> W.cell? (ad.add j) = some u := by
 obtain ⟨A', c', e, _, _, h3⟩ := h; injection e with e1 e2 e3; subst e1; refine ⟨e2, λ j u hu => ?_⟩; rw [List.getElem?_map] at hu; cases hy : ys[j]? with
 | none => rw [hy] at hu; cases hu
 | some y =>
   rw [hy] at hu; cases hu; obtain ⟨L, hE, rfl, _⟩ := h3 j y hy; obtain ⟨a, ea, _, _, c0⟩ := et hE; cases ea; rw [Nat.mul_one] at c0; exact c0
theorem FL {o : Oper} {a : Act} {W : World} {K : Act -> World -> Prop} {Q : Exit -> Act -> World -> Prop} {B : Nat} {v : Value} {xs ys : List Tx} {A : Option Addr} {n c : Nat} (s x : Operand)
  (hop : o.op = .call { callee := .builtin .append, args := #[s, x], argTypes := #[33, 33] })
  (hs : a.eval s = v) (hx : a.eval x = .slice A n c) (hO : fw B W v xs) (hS : aH W (.slice A n c) ys) (hl : xs.length + ys.length <= 4194304) (hB : B <= W.heap.size)
  (hK : ∀ v' w', IM B (xs ++ ys) v W v' w' -> K (a.put o.dst v') w') : Oper.wp prog o a W K Q := by
 obtain ⟨i0, hi, hz0, hz1, hz2⟩ := info_parts lZ; have hle : ∀ y ∈ ys, y.length <= maxLen := by
  intro y hy; obtain ⟨i, hi⟩ := List.getElem?_of_mem hy; obtain ⟨_, _, _, _, _, h3⟩ := hS; obtain ⟨_, _, _, h⟩ := h3 i y hi; exact h
 obtain ⟨hown, hxl⟩ := hO; cases A with
 | none =>
   have hy : ys = [] := by
    obtain ⟨A', c', e, _, _, h3⟩ := hS; injection e with e1 e2 e3; subst e1; cases ys with
    | nil => rfl
    | cons y r =>
      obtain ⟨L, ⟨a', e, _⟩, _⟩ := h3 0 y rfl; cases e
   have hn : n = 0 := by
    obtain ⟨A', c', e, _⟩ := hS; injection e with _ e2 _; rw [e2, hy]; rfl
   subst hy hn; have hrun := jD (w := W) B 33 o.type 9 i0 1 underlying33 hi _ _ _ hown c; unfold Oper.wp; simp only [execOp, hop, resolve, invoke, builtin, Sem.run_bind, Sem.run_pure, Result.andThen_ok, List.map_toArray, List.map_cons, List.map_nil, hs, hx, hrun]; exact hK v W ⟨by simpa using ⟨hown, hxl⟩, Below.refl _ _, λ g o h _ => h⟩
 | some ad =>
   obtain ⟨hn, hcl⟩ := xz hS; subst hn; refine wp_append_own W s x 33 hop B 9 i0 (.string ⟨#[]⟩) 1 16 underlying33 hi hz0 hz1 hz2 rfl zD v xs.length _ hs hown ad ys.length c (ys.map λ y => .string (str y)) hx (by simp) hcl ?_ (by unfold maxLen; omega) zO hB λ v' w' h1 h2 _ => hK v' w' ⟨⟨by simpa using h1, ?_⟩, ?_, ?_⟩
   . intro u hu; obtain ⟨y, _, rfl⟩ := List.mem_map.1 hu; rfl
   . intro z hz; rcases List.mem_append.1 hz with hz | hz
     . exact hxl z hz
     . exact hle z hz
   . exact (Below.refl B W).grown h2 hB (λ j hj => (hown.lt j hj).1)
   . intro g o hgo hne; exact (h2.block g (ak hgo) (λ e => hne e.symm)).trans hgo
theorem kr {ops : Array Oper} {rest : List Oper} {o : Oper} {a : Act} {W : World} {Q : Exit -> Act -> World -> Prop} {B : Nat} {v : Value} {xs ys : List Tx} {A : Option Addr} {n c : Nat} (hg : o.guard = none) (s x : Operand)
  (hop : o.op = .call { callee := .builtin .append, args := #[s, x], argTypes := #[33, 33] })
  (hs : a.eval s = v) (hx : a.eval x = .slice A n c) (hO : fw B W v xs) (hS : aH W (.slice A n c) ys) (hl : xs.length + ys.length <= 4194304) (hB : B <= W.heap.size)
  (h : ∀ v' w', IM B (xs ++ ys) v W v' w' -> wpList prog ops Q rest (a.put o.dst v') w') : wpList prog ops Q (o :: rest) a W :=
 wpList_plain hg λ _ hK' => FL s x hop hs hx hO hS hl hB λ v' w' ha => hK' _ _ (h v' w' ha)
theorem fw.shape {B : Nat} {w : World} {v : Value} {l : List Tx} (h : fw B w v l) : ∃ A n c, v = .slice A n c /\ n = l.length := by
 rcases h.1.2 with ⟨rfl, h0⟩ | ⟨g, cap, cur, rfl, _⟩
 . exact ⟨_, _, _, rfl, h0.symm⟩
 . exact ⟨_, _, _, rfl, rfl⟩
def CY : Value := .agg #[.int .i64 0, .string ⟨#[]⟩, .int .i64 0, .slice none 0 0, .slice none 0 0]
theorem sB : (prog.info? 39).map (λ i => (i.zero, i.size, i.bytes)) = some (some CY, 5, 80) := by kernel_rfl
def gD (w0 : World) (B : Nat) (w : World) (v : Value) (xs : List Ex) : Prop :=
 ∃ Ls : List (List Value), w.ownsRow B 39 5 v xs.length Ls.flatten /\ Ls.length = xs.length /\ ∀ (i : Nat) L x, Ls[i]? = some L -> xs[i]? = some x -> a7 w0 L x
theorem gD.nil (w0 : World) (B : Nat) (w : World) : gD w0 B w (.slice none 0 0) [] := ⟨[], ⟨rfl, .inl ⟨rfl, rfl⟩⟩, rfl, λ i L x h => by simp at h⟩
theorem gD.snoc {w0 w' : World} {B : Nat} {v' : Value} {xs : List Ex} {x : Ex} {L : List Value} {Ls : List (List Value)} (hlen : Ls.length = xs.length) (hE : ∀ (i : Nat) L x, Ls[i]? = some L -> xs[i]? = some x -> a7 w0 L x) (hx : a7 w0 L x)
  (ho : w'.ownsRow B 39 5 v' (xs.length + 1) (Ls.flatten ++ L)) : gD w0 B w' v' (xs ++ [x]) := by
 refine ⟨Ls ++ [L], by simpa using ho, by simp [hlen], λ i M y hM hy => ?_⟩; by_cases hi : i < Ls.length
 . rw [List.getElem?_append_left hi] at hM; rw [List.getElem?_append_left zO] at hy; exact hE i M y hM hy
 . rw [List.getElem?_append_right zO] at hM hy; rw [hlen] at hM; have h0 : i - xs.length = 0 := by
    rcases Nat.eq_zero_or_pos (i - xs.length) with h | h
    . exact h
    . rw [List.getElem?_eq_none (by simp; omega)] at hM; cases hM
   rw [h0] at hM hy; cases hM; cases hy; exact hx
theorem gD.grown {w0 w w' : World} {B : Nat} {v : Value} {xs : List Ex} (h : gD w0 B w v xs) (hk : ∀ Ls : List Value, w.ownsRow B 39 5 v xs.length Ls -> w'.ownsRow B 39 5 v xs.length Ls) : gD w0 B w' v xs := by
 obtain ⟨Ls, h1, h2, h3⟩ := h; exact ⟨Ls, hk _ h1, h2, h3⟩
theorem gD.alloc {w0 w : World} {B : Nat} {v : Value} {xs : List Ex} (h : gD w0 B w v xs) (o : Obj) : gD w0 B (w.alloc o) v xs := h.grown λ _ h => h.alloc _
theorem xZ {w w' : World} {B n : Nat} {v : Value} {xs : List Value} {g : Nat} {cs : Array Value} {T : TypeId} (ho : w.ownsRow B 39 5 v n xs) (hg : w.grownBy w' v.ownBlock) (h : w.heap[g]? = some (.cells cs T (0, 0))) (hne : T ≠ 39) : w'.heap[g]? = some (.cells cs T (0, 0)) := by
 refine (hg.block g (ak h) λ e => ?_).trans h; rcases ho.2 with ⟨rfl, _⟩ | ⟨g', cap, cur, rfl, _, hh, _⟩
 . simp [Value.ownBlock] at e
 . have : g = g' := by simpa [Value.ownBlock] using e
   subst this; rw [h] at hh; injection hh with hh; injection hh with _ ht; exact hne ht
def KF (w0 : World) (B : Nat) (xs : List Ex) (W : World) (v' : Value) (w' : World) : Prop :=
 gD w0 B w' v' xs /\ Below B W w' /\ ∀ (g : Nat) (cs : Array Value) (T : TypeId), T ≠ 39 -> W.heap[g]? = some (.cells cs T (0, 0)) -> w'.heap[g]? = some (.cells cs T (0, 0))
theorem kt {ops : Array Oper} {rest : List Oper} {o : Oper} {a : Act} {Q : Exit -> Act -> World -> Prop} {W : World} {w0 : World} {B : Nat} {v : Value} {xs : List Ex} {x : Ex} {L : List Value} {N : Nat} (hgd : o.guard = none) (s y : Operand)
  (ho : o.op = .call { callee := .builtin .append, args := #[s, y], argTypes := #[37, 37] }) (hs : a.eval s = v) (hy : a.eval y = .slice (some ⟨N, 0, none⟩) 1 1)
  (hN : W.heap[N]? = some (.cells L.toArray 39 (0, 0))) (hO : gD w0 B W v xs) (hx : a7 w0 L x) (hl : xs.length <= 2097152) (hB : B <= W.heap.size)
  (h : ∀ v' w', KF w0 B (xs ++ [x]) W v' w' -> wpList prog ops Q rest (a.put o.dst v') w') : wpList prog ops Q (o :: rest) a W := by
 obtain ⟨i0, hi, hz0, hz1, hz2⟩ := info_parts sB; obtain ⟨Ls, hown, hlen, hE⟩ := hO; refine wpList_append_own W hgd s y 37 ho B 39 i0 CY 5 80 underlying37 hi hz0 hz1 hz2 rfl zD v xs.length Ls.flatten hs hown ⟨N, 0, none⟩ 1 1 L hy (by rw [hx.len]) (λ j u hj => ?_) (λ u hu => ?_) (by unfold maxLen; omega) zO hB λ v' w' h1 h2 _ => h v' w' ⟨gD.snoc hlen hE hx h1, ?_, λ g cs T hne hg => xZ hown h2 hg hne⟩
 . have hadd : (⟨N, 0, none⟩ : Addr).add j = ⟨N, j, none⟩ := by unfold Addr.add; split <;> simp_all
   rw [hadd, cell_of_row _ _ _ _ _ _ hN]; simpa using hj
 . obtain ⟨o1, s1, n1, A1, m1, k1, A2, m2, k2, rfl⟩ := hx.shape; simp at hu; rcases hu with rfl | rfl | rfl | rfl | rfl <;> rfl
 . exact (Below.refl B W).grown h2 hB (λ j hj => (hown.lt j hj).1)
theorem gI {X Y : Type} {f : X -> List Y} {l : List X} {k : Nat} {x : X} (h : l[k]? = some x) : (l.take (k + 1)).flatMap f = (l.take k).flatMap f ++ f x := by
 rw [bo h]; simp
theorem tS {X Y : Type} (f : X -> List Y) (l : List X) (k : Nat) : ((l.take k).flatMap f).length <= (l.flatMap f).length := by
 have : l.flatMap f = (l.take k).flatMap f ++ (l.drop k).flatMap f := by rw [<- List.flatMap_append, List.take_append_drop]
 rw [this]; simp
theorem nQ (w : World) (A B : Obj) : ((w.alloc A).alloc B).heap[w.heap.size + 1]? = some B := by
 have := heap_alloc_new (w.alloc A) B; simpa using this
theorem Cj (w : World) (A B : Obj) : ((w.alloc A).alloc B).heap[w.heap.size]? = some A := (Below.heap_alloc _ _ _ (by simp)).trans (heap_alloc_new w A)
theorem El {w : World} {g : Nat} {o : Obj} (h : w.heap[g]? = some o) (A B : Obj) : ((w.alloc A).alloc B).heap[g]? = some o :=
 (Below.heap_alloc _ _ _ (by have := ak h; simp; omega)).trans ((Below.heap_alloc _ _ _ (ak h)).trans h)
def CU (w0 : World) (xs : List Ex) (w : World) (e : Ending) (w' : World) : Prop := ∃ v, e = .returned v /\ gD w0 w.heap.size w' v xs /\ Below w.heap.size w w'
theorem oP {w0 : World} {x : aY} {L : List Value} (hL : ch w0 L x) (hq : (fc x).length <= 1048576) : ∀ w, Below w0.heap.size w0 w -> Calls prog 76 #[.agg L.toArray] w (CU w0 (fc x) w) := by
 intro w hw; obtain ⟨fv, iv, ov, xv, rfl, _, hf1, hf2, hf3, hxs⟩ := hL; obtain ⟨_, _, _, rfl⟩ := aw.shape hf1; obtain ⟨_, _, _, rfl⟩ := aw.shape hf2; obtain ⟨_, _, _, rfl⟩ := aw.shape hf3; obtain ⟨A, ca, rfl, hca, hma, hea⟩ := hxs; have hla : x.items.length <= 9223372036854775807 := (by unfold maxLen at hma; omega); have HW0 := zH hw; have hsz0 := hw.size; have HQ := zH hq; clear hw hf1 hf2 hf3 hca hma hq; go_enter func76, ntmps76
 go_wp2_with fail
 go_loopg [3, 15] x.items.length (λ g v i wr => ∃ k : Nat, k + g = x.items.length /\ i = .int .i64 k /\ gD w0 w.heap.size wr v ((x.items.take k).flatMap fZ) /\ Below w.heap.size w wr)
 case atStart => exact ⟨0, by omega, rfl, by simpa using gD.nil _ _ _, (Below.refl _ _).alloc (Nat.le_refl _) _⟩
 case round =>
  obtain ⟨k, hkg, rfl, ho, hbw⟩ := hrel; have HK := zH hkg; have HW := zH hbw; have hszw := hbw.size; have hkl : k <= x.items.length := zO; have HO := zH ho; clear hkg hbw ho; by_cases hlt : k < x.items.length
  . obtain ⟨y, hy⟩ := zG hlt; obtain ⟨wr1, rfl⟩ := zW wr; have HT := zH (gI (f := fZ) hy); have hlenT : ((x.items.take k).flatMap fZ).length + (fZ y).length <= 1048576 := by
     have h1 := tS fZ x.items (k + 1); rw [gI hy, List.length_append] at h1; have h2 : (fc x).length <= 1048576 := HQ.o; unfold fc at h2; omega
    obtain ⟨M, hEM, hRM⟩ := hea k y hy; obtain ⟨⟨nm, e⟩, sts⟩ := y; obtain ⟨L', sv, rfl, hEq, hst⟩ := hRM; obtain ⟨nv, Le, rfl, hnv, hxe⟩ := hEq; obtain ⟨nA, nn, nk, rfl⟩ := aw.shape hnv; obtain ⟨eo1, es2, eo3, eA4, en4, ek4, eA5, en5, ek5, rfl⟩ := hxe.shape; obtain ⟨sA, sc, rfl, hsc, hsm, hes⟩ := hst; simp only [List.cons_append, List.nil_append] at hEM; have hsl : sts.length <= 9223372036854775807 := (by have h : sts.length <= sc := hsc; unfold maxLen at hsm; omega); have HXE := zH hxe; have HB0 := zH (HW0.o.trans (HW.o.mono hsz0)); obtain ⟨a, rfl, hab, haa, d0, d1, d2, d3, d4, d5, d6⟩ := qG (hEM.under HB0.o); clear hnv hxe hsm hsc hEM hea hy; by_cases hst0 : sts = []
    . subst hst0; simp only [fZ, if_true, List.flatMap_nil, List.append_nil, List.length_singleton, List.length_nil] at *; go_wp2_with (at_builtin; refine kt rfl _ _ rfl rfl rfl (nQ wr1 _ _) ((HO.o.alloc _).alloc _) HXE.o ?_ ?_ ?_; (first | omega | (simp; omega)); (first | omega | (simp; omega)); (intro v5 w5 h5; obtain ⟨ho5, hb5, hk5⟩ := h5; have HO5 := zH ho5; have HB5 := zH (((HW.o.alloc zO _).alloc (by simp; omega) _).trans hb5); obtain ⟨z0, z1, z2, z3, z4, z5, z6⟩ := iO (hk5 _ _ 44 zD (Cj wr1 _ _)); clear ho5 hb5 hk5))
      go_loopg [3, 32] 0 (λ g v i wr2 => g = 0 /\ v = v5 /\ i = .int .i64 0 /\ wr2 = w5)
      case atStart => exact ⟨rfl, rfl, rfl, rfl⟩
      case round =>
       obtain ⟨rfl, rfl, rfl, rfl⟩ := hrel; go_wp2_with fail
       go_roundg (x.items.length - (k + 1))
       case measure => have := HK.o; omega
       case rel => exact ⟨k + 1, by omega, by go_num, by rw [HT.o]; exact HO5.o, HB5.o⟩
    . have hd : ((sts.length : Int) == 0) = false := by cases sts with
       | nil => exact absurd rfl hst0
       | cons a b => simp; omega
      have HST := zH hst0; clear hst0; have hX : fZ ⟨⟨nm, e⟩, sts⟩ = sts.flatMap fH := (by simp [fZ, HST.o]); rw [hX] at HT hlenT; clear hX; clear HXE; generalize hacc : (x.items.take k).flatMap fZ = acc at *; go_wp2_with fail
      go_loopg [3, 32] sts.length (λ g v i wr2 => ∃ k2 : Nat, k2 + g = sts.length /\ i = .int .i64 k2 /\ gD w0 w.heap.size wr2 v (acc ++ (sts.take k2).flatMap fH) /\ Below w.heap.size w wr2)
      case atStart => exact ⟨0, by omega, rfl, by simpa using HO.o.alloc _, HW.o.alloc zO _⟩
      case round =>
       obtain ⟨wr2, rfl⟩ := zW wr; obtain ⟨k2, hkg2, rfl, ho2, hbw2⟩ := hrel; have HK2 := zH hkg2; have HW2 := zH hbw2; have hszw2 := hbw2.size; have hkl2 : k2 <= sts.length := zO; have HO2 := zH ho2; clear hkg2 hbw2 ho2; by_cases hlt2 : k2 < sts.length
       . obtain ⟨z, hz⟩ := zG hlt2; have HT2 := zH (gI (f := fH) hz); have hlen2 : (acc ++ (sts.take k2).flatMap fH).length + (fH z).length <= 1048576 := by
          have h1 := tS fH sts (k2 + 1); rw [gI hz, List.length_append] at h1; rw [List.length_append]; omega
         obtain ⟨N, hEN, hRN⟩ := hes k2 z hz; obtain ⟨zn, eqs, ways⟩ := z; obtain ⟨ev, wv, rfl, _, hev, hwv⟩ := hRN; obtain ⟨qA, qc, rfl, hqc, hqm, heq⟩ := hev; obtain ⟨yA, yc, rfl, hyc, hym, hey⟩ := hwv; have hql : eqs.length <= 9223372036854775807 := (by have h : eqs.length <= qc := hqc; unfold maxLen at hqm; omega); have hyl : ways.length <= 9223372036854775807 := (by have h : ways.length <= yc := hyc; unfold maxLen at hym; omega); simp only [fH, List.length_append, List.length_map] at hlen2; have HB2 := zH (HW0.o.trans (HW2.o.mono hsz0)); obtain ⟨b, rfl, hbb, hbbb, e0, e1, e2⟩ := il (hEN.under HB2.o); clear hqc hqm hyc hym hEN hes hz; generalize hacc2 : acc ++ (sts.take k2).flatMap fH = acc2 at *; have hlen2' : acc2.length + (eqs.length + ways.length) <= 1048576 := (by rw [<- hacc2]; simp only [List.length_append]; omega); go_wp2_with fail
         go_loopg [3, 39] eqs.length (λ g v i wr3 => ∃ k3 : Nat, k3 + g = eqs.length /\ i = .int .i64 k3 /\ gD w0 w.heap.size wr3 v (acc2 ++ (eqs.take k3).map QEq.e) /\ Below w.heap.size w wr3 /\ wr3.heap[wr2.heap.size]? = some (.cells #[.string (str zn), .slice qA eqs.length qc, .slice yA ways.length yc] 50 (0, 0)))
         case atStart => exact ⟨0, by omega, rfl, by simpa using HO2.o.alloc _, HW2.o.alloc zO _, heap_alloc_new wr2 _⟩
         case round =>
          obtain ⟨wr3, rfl⟩ := zW wr; obtain ⟨k3, hkg3, rfl, ho3, hbw3, hbx3⟩ := hrel; have HK3 := zH hkg3; have HW3 := zH hbw3; have hszw3 := hbw3.size; have hkl3 : k3 <= eqs.length := zO; have HBX3 := zH hbx3; have hltb3 := ak hbx3; by_cases hlt3 : k3 < eqs.length
          . obtain ⟨q, hq⟩ := zG hlt3; have HT3 := zH (show (eqs.take (k3 + 1)).map QEq.e = (eqs.take k3).map QEq.e ++ [q.e] by rw [bo hq]; simp); obtain ⟨N3, hEN3, nv3, Le3, rfl, hnv3, hxe3⟩ := heq k3 q hq; obtain ⟨nA3, nn3, nk3, rfl⟩ := aw.shape hnv3; obtain ⟨eo1, es2, eo3, eA4, en4, ek4, eA5, en5, ek5, rfl⟩ := hxe3.shape; have HXE := zH hxe3; have HB3 := zH (HW0.o.trans (HW3.o.mono hsz0)); obtain ⟨c, rfl, hcb, hcbb, f0, f1, f2, f3, f4, f5⟩ := iU (hEN3.under HB3.o); have HO3 := zH ho3; have hlen3 : (acc2 ++ (eqs.take k3).map QEq.e).length <= acc2.length + k3 := (by simp; omega); clear hkg3 hbw3 hbx3 ho3 hnv3 hxe3 hEN3 hq heq hey; go_wp2_with (at_builtin; refine kt rfl _ _ rfl rfl rfl (nQ wr3 _ _) ((HO3.o.alloc _).alloc _) HXE.o ?_ ?_ ?_; (first | omega | (simp; omega)); (first | omega | (simp; omega)); (intro v5 w5 h5; obtain ⟨ho5, hb5, hk5⟩ := h5; have HO5 := zH ho5; have HB5 := zH (((HW3.o.alloc zO _).alloc (by simp; omega) _).trans hb5); have HBX5 := zH (hk5 _ _ 50 zD (El HBX3.o _ _)); clear ho5 hb5 hk5))
            go_roundg (eqs.length - (k3 + 1))
            case measure => have := HK3.o; omega
            case rel => exact ⟨k3 + 1, by omega, by go_num, by rw [HT3.o, <- List.append_assoc]; exact HO5.o, HB5.o, HBX5.o⟩
          . have hke3 : k3 = eqs.length := by omega
            obtain ⟨g0, g1, g2⟩ := eG hbx3; have HO3 := zH (show gD w0 w.heap.size wr3 _ (acc2 ++ eqs.map QEq.e) by rw [hke3, List.take_length] at ho3; exact ho3); have HKE3 := zH hke3; clear hkg3 hbw3 hbx3 ho3 hke3 heq; go_wp2_with fail
            go_loopg [3, 52] ways.length (λ g v i wr4 => ∃ k4 : Nat, k4 + g = ways.length /\ i = .int .i64 k4 /\ gD w0 w.heap.size wr4 v (acc2 ++ eqs.map QEq.e ++ (ways.take k4).map eO.cond) /\ Below w.heap.size w wr4)
            case atStart => exact ⟨0, by omega, rfl, by simpa using HO3.o, HW3.o⟩
            case round =>
             obtain ⟨wr4, rfl⟩ := zW wr; obtain ⟨k4, hkg4, rfl, ho4, hbw4⟩ := hrel; have HK4 := zH hkg4; have HW4 := zH hbw4; have hszw4 := hbw4.size; have hkl4 : k4 <= ways.length := zO; by_cases hlt4 : k4 < ways.length
             . obtain ⟨q, hq⟩ := zG hlt4; have HT4 := zH (show (ways.take (k4 + 1)).map eO.cond = (ways.take k4).map eO.cond ++ [q.cond] by rw [bo hq]; simp); obtain ⟨N4, hEN4, Le4, rfl, hxe4, _⟩ := hey k4 q hq; obtain ⟨eo1, es2, eo3, eA4, en4, ek4, eA5, en5, ek5, rfl⟩ := hxe4.shape; simp only [List.cons_append, List.nil_append] at hEN4; have HXE := zH hxe4; have HB4 := zH (HW0.o.trans (HW4.o.mono hsz0)); obtain ⟨c, rfl, hcb, hcbb, f0, f1, f2, f3, f4, f5⟩ := iU (hEN4.under HB4.o); have HO4 := zH ho4; have hlen4 : (acc2 ++ eqs.map QEq.e ++ (ways.take k4).map eO.cond).length <= acc2.length + eqs.length + k4 := (by simp; omega); clear hkg4 hbw4 ho4 hxe4 hEN4 hq hey g0 g1 g2; go_wp2_with (at_builtin; refine kt rfl _ _ rfl rfl rfl (nQ wr4 _ _) ((HO4.o.alloc _).alloc _) HXE.o ?_ ?_ ?_; (first | omega | (simp; omega)); (first | omega | (simp; omega)); (intro v5 w5 h5; obtain ⟨ho5, hb5, hk5⟩ := h5; have HO5 := zH ho5; have HB5 := zH (((HW4.o.alloc zO _).alloc (by simp; omega) _).trans hb5); clear ho5 hb5 hk5))
               go_roundg (ways.length - (k4 + 1))
               case measure => have := HK4.o; omega
               case rel => exact ⟨k4 + 1, by omega, by go_num, by rw [HT4.o, <- List.append_assoc]; exact HO5.o, HB5.o⟩
             . have hke4 : k4 = ways.length := by omega
               have HO4 := zH (show gD w0 w.heap.size wr4 _ (acc ++ (sts.take (k2 + 1)).flatMap fH) by
                rw [hke4, List.take_length] at ho4; rw [HT2.o, <- List.append_assoc, hacc2, fH, <- List.append_assoc]; exact ho4)
               clear hkg4 hbw4 ho4 hke4 hey g0 g1 g2; go_wp2_with fail
               go_roundg (sts.length - (k2 + 1))
               case measure => have := HK2.o; omega
               case rel => exact ⟨k2 + 1, by omega, by go_num, HO4.o, HW4.o⟩
       . have hke2 : k2 = sts.length := by omega
         have HO3 := zH (show gD w0 w.heap.size wr2 _ ((x.items.take (k + 1)).flatMap fZ) by
          have h := HO2.o; rw [hke2, List.take_length] at h; rw [HT.o]; exact h)
         clear hke2; go_wp2_with fail
         go_roundg (x.items.length - (k + 1))
         case measure => have := HK.o; omega
         case rel => exact ⟨k + 1, by omega, by go_num, HO3.o, HW2.o⟩
  . have hke : k = x.items.length := by omega
    have HKE := zH hke; clear hke; go_wp2_with fail
    go_ret; exact ⟨_, rfl, by have := HO.o; rw [HKE.o, List.take_length] at this; exact this, HW.o⟩
end Go.Proofs.YtkfacdofkfabnaaGreatDoor
