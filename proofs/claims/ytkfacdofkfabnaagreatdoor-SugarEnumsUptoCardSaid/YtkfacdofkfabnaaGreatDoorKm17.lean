import Derived.Test.YtkfacdofkfabnaaGreatDoorKm11
import Derived.Test.YtkfacdofkfabnaaGreatDoorKm16
set_option maxHeartbeats 1000000
set_option maxRecDepth 100000
namespace Go.Proofs.YtkfacdofkfabnaaGreatDoor
open _root_.Go.Proofs.Tryz
open Go.RowKit
def cj (B : Nat) (w : World) : World := { w with heap := w.heap.mapIdx λ i o => if i < B then .cells #[] 0 (0, 0) else o }
theorem ic {w : World} {B b : Nat} (h : B <= b) : (cj B w).heap[b]? = w.heap[b]? := by
 unfold cj; rw [Array.getElem?_mapIdx]; cases w.heap[b]? with
 | none => rfl
 | some o => simp; omega
theorem Gz {w : World} {B b : Nat} (h : b < B) (o : Obj) (ho : (cj B w).heap[b]? = some o) : o = .cells #[] 0 (0, 0) := by
 unfold cj at ho; rw [Array.getElem?_mapIdx] at ho; cases hw : w.heap[b]? with
 | none => rw [hw] at ho; cases ho
 | some q => rw [hw] at ho; simp [h] at ho; exact ho.symm
theorem iS {w : World} {B : Nat} {a : Addr} {v : Value} (h : (cj B w).cell? a = some v) : B <= a.block /\ w.cell? a = some v := by
 by_cases hb : B <= a.block
 . refine ⟨hb, ?_⟩; rw [World.cell?_of_block (ic hb)] at h; exact h
 . exfalso; cases ho : (cj B w).heap[a.block]? with
   | none => simp [World.cell?, ho] at h
   | some o =>
     have := Gz zO o ho; subst this; simp [World.cell?, ho] at h
theorem jZ {w : World} {B : Nat} {a : Addr} (h : B <= a.block) : (cj B w).cell? a = w.cell? a := World.cell?_of_block (ic h)
def Sub (w w' : World) : Prop := ∀ a v, w.cell? a = some v -> w'.cell? a = some v
theorem Sub.trans {a b c : World} (h : Sub a b) (g : Sub b c) : Sub a c := λ x v hx => g x v (h x v hx)
theorem fl (B : Nat) (w : World) : Sub (cj B w) w := λ _ _ h => (iS h).2
theorem bj {B B' : Nat} (h : B' <= B) (w : World) : Sub (cj B w) (cj B' w) := λ a v hv => by
 obtain ⟨h1, h2⟩ := iS hv
 rw [jZ zO]; exact h2
def aL (B : Nat) (w w' : World) : Prop := w.heap.size <= w'.heap.size /\ ∀ k, B <= k -> k < w.heap.size -> w'.heap[k]? = w.heap[k]?
theorem aL.refl (B : Nat) (w : World) : aL B w w := ⟨Nat.le_refl _, λ _ _ _ => rfl⟩
theorem aL.trans {B : Nat} {a b c : World} (h : aL B a b) (g : aL B b c) : aL B a c := ⟨Nat.le_trans h.1 g.1, λ k h1 h2 => (g.2 k h1 (Nat.lt_of_lt_of_le h2 h.1)).trans (h.2 k h1 h2)⟩
theorem aL.alloc {B : Nat} {w w' : World} (h : aL B w w') (o : Obj) : aL B w (w'.alloc o) := ⟨Nat.le_trans h.1 (by simp), λ k h1 h2 => (Below.heap_alloc _ _ _ (Nat.lt_of_lt_of_le h2 h.1)).trans (h.2 k h1 h2)⟩
theorem aL.set {B : Nat} {w w' : World} (h : aL B w w') {a : Addr} (ha : a.block < B ∨ w.heap.size <= a.block) (u : Value) : aL B w (w'.setCell a u) := by
 refine ⟨?_, λ k h1 h2 => ?_⟩
 . exact Nat.le_trans h.1 ((Below.refl 0 w').setCell (p := a) (Nat.zero_le _) u).size
 . rw [Below.heap_setCell _ _ _ _ zO]; exact h.2 k h1 h2
theorem aL.below {B : Nat} {w w' : World} (h : Below w.heap.size w w') : aL B w w' := ⟨h.size, λ k _ h2 => h.block k h2⟩
theorem aL.sub {B : Nat} {w w' : World} (h : aL B w w') : Sub (cj B w) (cj B w') := λ a v hv => by
 obtain ⟨h1, h2⟩ := iS hv
 rw [jZ h1, World.cell?_of_block (h.2 _ h1 (World.block_lt_of_cell? w _ h2))]
 exact h2
theorem cr.sub {w w' : World} {a : Addr} {L : List Value} (h : cr w a L) (hs : Sub w w') : cr w' a L := λ j u hu => hs _ _ (h j u hu)
theorem cp.sub {w w' : World} {A : Option Addr} {k : Nat} {L : List Value} (h : cp w A k L) (hs : Sub w w') : cp w' A k L := by
 obtain ⟨a, e, h⟩ := h; exact ⟨a, e, h.sub hs⟩
theorem aw.sub {X : Type} {w w' : World} {R R' : List Value -> X -> Prop} {v : Value} {l : List X} (h : aw w R v l) (hs : Sub w w') (hR : ∀ L x, R L x -> R' L x) : aw w' R' v l := by
 obtain ⟨A, c, rfl, h1, h2, h3⟩ := h; refine ⟨A, c, rfl, h1, h2, λ i x hx => ?_⟩; obtain ⟨L, h4, h5⟩ := h3 i x hx; exact ⟨L, h4.sub hs, hR L x h5⟩
theorem aH.sub {w w' : World} {v : Value} {l : List Tx} (h : aH w v l) (hs : Sub w w') : aH w' v l := aw.sub h hs λ _ _ h => h
theorem a7.sub {w w' : World} {L : List Value} {x : Ex} (h : a7 w L x) (hs : Sub w w') : a7 w' L x := by
 induction h with
 | mk hop hnm hn hcs hl hc hk hx ih => exact .mk hop hnm hn (hcs.sub hs) hl hc (λ i k h => (hk i k h).sub hs) (λ i k h => ih i k h)
theorem iH.sub {w w' : World} {L : List Value} {q : QEq} (h : iH w L q) (hs : Sub w w') : iH w' L q := by
 obtain ⟨nv, L', rfl, h1, h2⟩ := h; exact ⟨nv, L', rfl, h1.sub hs, h2.sub hs⟩
theorem d7.sub {w w' : World} {L : List Value} {y : eO} (h : d7 w L y) (hs : Sub w w') : d7 w' L y := by
 obtain ⟨L', rfl, h1, h2⟩ := h; exact ⟨L', rfl, h1.sub hs, h2⟩
theorem bt.sub {w w' : World} {L : List Value} {s : aM} (h : bt w L s) (hs : Sub w w') : bt w' L s := by
 obtain ⟨ev, wv, rfl, h0, h1, h2⟩ := h; exact ⟨ev, wv, rfl, h0, h1.sub hs λ _ _ h => h.sub hs, h2.sub hs λ _ _ h => h.sub hs⟩
theorem bf.sub {w w' : World} {L : List Value} {i : a8} (h : bf w L i) (hs : Sub w w') : bf w' L i := by
 obtain ⟨L', sv, rfl, h1, h2⟩ := h; exact ⟨L', sv, rfl, h1.sub hs, h2.sub hs λ _ _ h => h.sub hs⟩
theorem bE.sub {w w' : World} {L : List Value} {e : dw} (h : bE w L e) (hs : Sub w w') : bE w' L e := by
 obtain ⟨cv, rfl, h0, h1⟩ := h; exact ⟨cv, rfl, h0, h1.sub hs⟩
theorem ch.sub {w w' : World} {L : List Value} {n : aY} (h : ch w L n) (hs : Sub w w') : ch w' L n := by
 obtain ⟨fv, iv, ov, xv, rfl, h0, h1, h2, h3, h4⟩ := h; exact ⟨fv, iv, ov, xv, rfl, h0, h1.sub hs, h2.sub hs, h3.sub hs, h4.sub hs λ _ _ h => h.sub hs⟩
theorem ew.sub {w w' : World} {L : List Value} {p : cZ} (h : ew w L p) (hs : Sub w w') : ew w' L p := by
 obtain ⟨ev, nv, rfl, h1, h2⟩ := h; exact ⟨ev, nv, rfl, h1.sub hs λ _ _ h => h.sub hs, h2.sub hs λ _ _ h => h.sub hs⟩
section
variable {N : Nat} {w w' : World}
end
theorem sw {n : Nat} (hn : 0 < n) : ∀ (Ls : List (List Value)), (∀ L ∈ Ls, L.length = n) -> ∀ (j : Nat) (u : Value), Ls.flatten[j]? = some u -> ∃ i f L, j = i * n + f /\ Ls[i]? = some L /\ L[f]? = some u
 | [], _, j, u, h => by simp at h
 | M :: r, hL, j, u, h => by
   have h5 := hL M (by simp)
   rw [List.flatten_cons] at h
   by_cases hj : j < n
   . rw [List.getElem?_append_left zO] at h
     exact ⟨0, j, M, by omega, rfl, h⟩
   . rw [List.getElem?_append_right zO] at h
     obtain ⟨i, f, L, h1, h2, h3⟩ := sw hn r (λ L h => hL L (by simp [h])) _ _ h
     refine ⟨i + 1, f, L, ?_, by simpa using h2, h3⟩
     rw [Nat.succ_mul]
     omega
theorem te {X : Type} {R : List Value -> X -> Prop} {W : World} {a : Addr} {n c m : Nat} {xs : List X} (hm : 0 < m) (hR : ∀ L x, R L x -> L.length = m) (h : aw W R (.slice (some a) n c) xs) :
  ∃ Ls : List (List Value), Ls.length = xs.length /\ (∀ L ∈ Ls, L.length = m) /\ (∀ (i : Nat) L x, Ls[i]? = some L -> xs[i]? = some x -> R L x) /\ ∀ (j : Nat) u, Ls.flatten[j]? = some u -> W.cell? (a.add j) = some u := by
 obtain ⟨A, c', e, _, _, h3⟩ := h; cases e; have : ∀ i : Nat, ∃ L, ∀ x, xs[i]? = some x -> cp W (some a) i L /\ R L x := by
  intro i; cases h : xs[i]? with
  | none => exact ⟨[], λ x hx => by cases hx⟩
  | some y =>
    obtain ⟨L, hL⟩ := h3 i y h; exact ⟨L, λ x hx => by cases hx; exact hL⟩
 obtain ⟨C, hC⟩ := Classical.axiomOfChoice this; have hg : ∀ (i : Nat) L, ((List.range xs.length).map C)[i]? = some L -> ∃ x, xs[i]? = some x /\ L = C i := by
  intro i L hL; obtain ⟨h1, h2⟩ := List.getElem?_eq_some_iff.1 hL; simp at h1 h2; exact ⟨_, List.getElem?_eq_getElem h1, h2.symm⟩
 have hlen : ∀ L ∈ (List.range xs.length).map C, L.length = m := by
  intro L hL; obtain ⟨i, hi, rfl⟩ := List.getElem_of_mem hL; obtain ⟨x, hx, e⟩ := hg i _ (List.getElem?_eq_getElem hi); rw [e]; exact hR _ _ (hC i x hx).2
 refine ⟨(List.range xs.length).map C, by simp, hlen, λ i L x hL hx => ?_, λ j u hu => ?_⟩
 . obtain ⟨x', hx', rfl⟩ := hg i L hL; exact (hC i x hx).2
 . obtain ⟨i, f, L, rfl, hL, hf⟩ := sw hm _ hlen j u hu; obtain ⟨x, hx, rfl⟩ := hg i L hL; obtain ⟨⟨a', e, hc⟩, hr⟩ := hC i x hx; cases e; have := hc f u hf; rw [hR _ _ hr, fU] at this; exact this
def ry {X : Type} (R : List Value -> X -> Prop) (B : Nat) (T : TypeId) (n : Nat) (w : World) (v : Value) (xs : List X) : Prop :=
 ∃ Ls : List (List Value), w.ownsRow B T n v xs.length Ls.flatten /\ Ls.length = xs.length /\ (∀ L ∈ Ls, L.length = n) /\ ∀ (i : Nat) L x, Ls[i]? = some L -> xs[i]? = some x -> R L x
section
variable {X : Type} {R : List Value -> X -> Prop} {B : Nat} {T TS : TypeId} {n bytes : Nat} {z : Value}
theorem ry.nil (w : World) : ry R B T n w (.slice none 0 0) [] := ⟨[], ⟨by simp, .inl ⟨rfl, rfl⟩⟩, rfl, by simp, λ i L x h => by simp at h⟩
theorem FN {o : Oper} {a : Act} {W : World} {K : Act -> World -> Prop} {Q : Exit -> Act -> World -> Prop} {v : Value} {xs ys : List X} {A : Option Addr} {m c : Nat} (s x : Operand)
  (hop : o.op = .call { callee := .builtin .append, args := #[s, x], argTypes := #[TS, TS] }) (hT : prog.underlying TS = some (.slice T)) (hI : (prog.info? T).map (λ i => (i.zero, i.size, i.bytes)) = some (some z, n, bytes))
  (hz : z.cells.size = n) (hn : 0 < n) (hby : bytes <= 4096) (hR : ∀ L x, R L x -> L.length = n) (hone : ∀ L x, R L x -> ∀ u ∈ L, u.oneCell' = true)
  (hs : a.eval s = v) (hx : a.eval x = .slice A m c) (hO : ry R B T n W v xs) (hS : aw W R (.slice A m c) ys) (hl : xs.length + ys.length <= 4194304) (hB : B <= W.heap.size)
  (hK : ∀ v' w', ry R B T n w' v' (xs ++ ys) -> W.grownBy w' v.ownBlock -> Below B W w' -> K (a.put o.dst v') w') : Oper.wp prog o a W K Q := by
 obtain ⟨i0, hi, hz0, hz1, hz2⟩ := info_parts hI; obtain ⟨Ls, hown, hll, hln, hlr⟩ := hO; cases A with
 | none =>
   have hy : ys = [] := by
    obtain ⟨A', c', e, _, _, h3⟩ := hS; injection e with e1 e2 e3; subst e1; cases ys with
    | nil => rfl
    | cons y r =>
      obtain ⟨L, ⟨a', e, _⟩, _⟩ := h3 0 y rfl; cases e
   have hm : m = 0 := by
    obtain ⟨A', c', e, _⟩ := hS; injection e with _ e2 _; rw [e2, hy]; rfl
   subst hy hm; have hrun := jD (w := W) B TS o.type T i0 n hT hi _ _ _ hown c; unfold Oper.wp; simp only [execOp, hop, resolve, invoke, builtin, Sem.run_bind, Sem.run_pure, Result.andThen_ok, List.map_toArray, List.map_cons, List.map_nil, hs, hx, hrun]; exact hK v W ⟨Ls, by simpa using hown, by simpa using hll, hln, by simpa using hlr⟩ (World.grownBy.refl _ _) (Below.refl _ _)
 | some ad =>
   have hm : m = ys.length := by
    obtain ⟨A', c', e, _⟩ := hS; injection e
   subst hm; obtain ⟨Ms, hml, hmn, hmr, hcl⟩ := te hn hR hS; have hb2 : (xs.length + ys.length) * bytes <= 140737488355328 := by
    have : (xs.length + ys.length) * bytes <= 4194304 * 4096 := Nat.mul_le_mul hl hby
    omega
   have hfl : Ms.flatten.length = ys.length * n := by
    rw [<- hml]; clear hml hmr hcl; induction Ms with
    | nil => simp
    | cons M r ih =>
      rw [List.flatten_cons, List.length_append, hmn M (by simp), ih (λ L hL => hmn L (by simp [hL])), List.length_cons, Nat.add_mul, Nat.one_mul, Nat.add_comm]
   refine wp_append_own W s x TS hop B T i0 z n bytes hT hi hz0 hz1 hz2 hz hn v xs.length _ hs hown ad ys.length c Ms.flatten hx hfl hcl ?_ (by unfold maxLen; omega) hb2 hB λ v' w' h1 h2 _ => hK v' w' ⟨Ls ++ Ms, by simpa using h1, by simp [hll, hml], ?_, ?_⟩ h2 ?_
   . intro u hu; obtain ⟨M, hM, huM⟩ := List.mem_flatten.1 hu; obtain ⟨i, hi'⟩ := List.getElem?_of_mem hM; have hil : i < ys.length := (by rw [<- hml]; exact (List.getElem?_eq_some_iff.1 hi').1); exact hone M _ (hmr i M _ hi' (List.getElem?_eq_getElem hil)) u huM
   . intro L hL; rcases List.mem_append.1 hL with hL | hL
     . exact hln L hL
     . exact hmn L hL
   . intro i L y hL hy; by_cases hil : i < Ls.length
     . rw [List.getElem?_append_left hil] at hL; rw [List.getElem?_append_left zO] at hy; exact hlr i L y hL hy
     . rw [List.getElem?_append_right zO] at hL hy; rw [hll] at hL; exact hmr _ L y hL hy
   . exact (Below.refl B W).grown h2 hB (λ j hj => (hown.lt j hj).1)
end
def ij (w0 w : World) : World := { w with heap := w0.heap ++ w.heap.extract w0.heap.size w.heap.size }
theorem qp {w0 w : World} {b : Nat} (h : b < w0.heap.size) : (ij w0 w).heap[b]? = w0.heap[b]? := by
 show (w0.heap ++ w.heap.extract w0.heap.size w.heap.size)[b]? = _; rw [Array.getElem?_append_left h]
theorem nO {w0 w : World} {b : Nat} (h : w0.heap.size <= b) : (ij w0 w).heap[b]? = w.heap[b]? := by
 show (w0.heap ++ w.heap.extract w0.heap.size w.heap.size)[b]? = _; rw [Array.getElem?_append_right h]; rw [Array.getElem?_extract]; by_cases hb : b < w.heap.size
 . rw [if_pos zO, show w0.heap.size + (b - w0.heap.size) = b by omega]
 . rw [if_neg zO, Array.getElem?_eq_none zO]
theorem mM {w0 V V' : World} (h : Sub V V') : Sub (ij w0 V) (ij w0 V') := λ a v hv => by
 by_cases hb : a.block < w0.heap.size
 . rw [World.cell?_of_block (qp hb)] at hv ⊢
   exact hv
 . rw [World.cell?_of_block (nO zO)] at hv ⊢
   exact h a v hv
theorem vR (w0 w : World) : Sub w0 (ij w0 w) := λ a v hv => by
 rw [World.cell?_of_block (qp (World.block_lt_of_cell? w0 _ hv))]
 exact hv
theorem GP {w0 w : World} (h : Below w0.heap.size w0 w) : Sub (ij w0 w) w := λ a v hv => by
 by_cases hb : a.block < w0.heap.size
 . rw [World.cell?_of_block (qp hb)] at hv
   rw [h.cell hb]
   exact hv
 . rw [World.cell?_of_block (nO zO)] at hv
   exact hv
theorem D9 {w0 w : World} {B C : Nat} {o : Obj} (h : w.heap[C]? = some o) (hB : B <= C) (h0 : w0.heap.size <= C) : (ij w0 (cj B w)).heap[C]? = some o := by
 rw [nO h0, ic hB]; exact h
end Go.Proofs.YtkfacdofkfabnaaGreatDoor
