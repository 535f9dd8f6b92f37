import Derived.Test.YtdcjlihaldhhjaaGreatDoorKm09
import Derived.Test.YtdcjlihaldhhjaaGreatDoorKm17
set_option maxHeartbeats 1000000
set_option maxRecDepth 100000
namespace Go.Proofs.YtdcjlihaldhhjaaGreatDoor
open _root_.Go.Proofs.Tryz
open Go.RowKit
theorem qz {n : Nat} (hn : 0 < n) : ∀ (Ls : List (List Value)), (∀ L ∈ Ls, L.length = n) -> ∀ (j : Nat) (u : Value), Ls.flatten[j]? = some u -> ∃ i f L, j = i * n + f /\ Ls[i]? = some L /\ L[f]? = some u
 | [], _, j, u, h => by simp at h
 | M :: r, hL, j, u, h => by
   have h5 := hL M (by simp)
   rw [List.flatten_cons] at h
   by_cases hj : j < n
   . rw [List.getElem?_append_left zO] at h
     exact ⟨0, j, M, by omega, rfl, h⟩
   . rw [List.getElem?_append_right zO] at h
     obtain ⟨i, f, L, h1, h2, h3⟩ := qz hn r (λ L h => hL L (by simp [h])) _ _ h
     refine ⟨i + 1, f, L, ?_, by simpa using h2, h3⟩
     rw [Nat.succ_mul]
     omega
theorem rf {X : Type} {R : List Value -> X -> Prop} {W : World} {a : Addr} {n c m : Nat} {xs : List X} (hm : 0 < m) (hR : ∀ L x, R L x -> L.length = m) (h : aw W R (.slice (some a) n c) xs) :
  ∃ Ls : List (List Value), Ls.length = xs.length /\ (∀ L ∈ Ls, L.length = m) /\ (∀ (i : Nat) L x, Ls[i]? = some L -> xs[i]? = some x -> R L x) /\ ∀ (j : Nat) u, Ls.flatten[j]? = some u -> W.cell? (a.add j) = some u := by
 obtain ⟨A, c', e, _, _, h3⟩ := h; cases e; have : ∀ i : Nat, ∃ L, ∀ x, xs[i]? = some x -> cB W (some a) i L /\ R L x := by
  intro i; cases h : xs[i]? with
  | none => exact ⟨[], λ x hx => by cases hx⟩
  | some y =>
    obtain ⟨L, hL⟩ := h3 i y h; exact ⟨L, λ x hx => by cases hx; exact hL⟩
 obtain ⟨C, hC⟩ := Classical.axiomOfChoice this; have hg : ∀ (i : Nat) L, ((List.range xs.length).map C)[i]? = some L -> ∃ x, xs[i]? = some x /\ L = C i := by
  intro i L hL; obtain ⟨h1, h2⟩ := List.getElem?_eq_some_iff.1 hL; simp at h1 h2; exact ⟨_, List.getElem?_eq_getElem h1, h2.symm⟩
 have hlen : ∀ L ∈ (List.range xs.length).map C, L.length = m := by
  intro L hL; obtain ⟨i, hi, rfl⟩ := List.getElem_of_mem hL; obtain ⟨x, hx, e⟩ := hg i _ (List.getElem?_eq_getElem hi); rw [e]; exact hR _ _ (hC i x hx).2
 refine ⟨(List.range xs.length).map C, by simp, hlen, λ i L x hL hx => ?_, λ j u hu => ?_⟩
 . obtain ⟨x', hx', rfl⟩ := hg i L hL; exact (hC i x hx).2
 . obtain ⟨i, f, L, rfl, hL, hf⟩ := qz hm _ hlen j u hu; obtain ⟨x, hx, rfl⟩ := hg i L hL; obtain ⟨⟨a', e, hc⟩, hr⟩ := hC i x hx; cases e; have := hc f u hf; rw [hR _ _ hr, gv] at this; exact this
def pN {X : Type} (R : List Value -> X -> Prop) (B : Nat) (T : TypeId) (n : Nat) (w : World) (v : Value) (xs : List X) : Prop :=
 ∃ Ls : List (List Value), w.ownsRow B T n v xs.length Ls.flatten /\ Ls.length = xs.length /\ (∀ L ∈ Ls, L.length = n) /\ ∀ (i : Nat) L x, Ls[i]? = some L -> xs[i]? = some x -> R L x
section
variable {X : Type} {R : List Value -> X -> Prop} {B : Nat} {T TS : TypeId} {n bytes : Nat} {z : Value}
theorem pN.nil (w : World) : pN R B T n w (.slice none 0 0) [] := ⟨[], ⟨by simp, .inl ⟨rfl, rfl⟩⟩, rfl, by simp, λ i L x h => by simp at h⟩
theorem CB {o : Oper} {a : Act} {W : World} {K : Act -> World -> Prop} {Q : Exit -> Act -> World -> Prop} {v : Value} {xs ys : List X} {A : Option Addr} {m c : Nat} (s x : Operand)
  (hop : o.op = .call { callee := .builtin .append, args := #[s, x], argTypes := #[TS, TS] }) (hT : prog.underlying TS = some (.slice T)) (hI : (prog.info? T).map (λ i => (i.zero, i.size, i.bytes)) = some (some z, n, bytes))
  (hz : z.cells.size = n) (hn : 0 < n) (hby : bytes <= 4096) (hR : ∀ L x, R L x -> L.length = n) (hone : ∀ L x, R L x -> ∀ u ∈ L, u.oneCell' = true)
  (hs : a.eval s = v) (hx : a.eval x = .slice A m c) (hO : pN R B T n W v xs) (hS : aw W R (.slice A m c) ys) (hl : xs.length + ys.length <= 4194304) (hB : B <= W.heap.size)
  (hK : ∀ v' w', pN R B T n w' v' (xs ++ ys) -> W.grownBy w' v.ownBlock -> Below B W w' -> K (a.put o.dst v') w') : Oper.wp prog o a W K Q := by
 obtain ⟨i0, hi, hz0, hz1, hz2⟩ := info_parts hI; obtain ⟨Ls, hown, hll, hln, hlr⟩ := hO; cases A with
 | none =>
   have hy : ys = [] := by
    obtain ⟨A', c', e, _, _, h3⟩ := hS; injection e with e1 e2 e3; subst e1; cases ys with
    | nil => rfl
    | cons y r =>
      obtain ⟨L, ⟨a', e, _⟩, _⟩ := h3 0 y rfl; cases e
   have hm : m = 0 := by
    obtain ⟨A', c', e, _⟩ := hS; injection e with _ e2 _; rw [e2, hy]; rfl
   subst hy hm; have hrun := iF (w := W) B TS o.type T i0 n hT hi _ _ _ hown c; unfold Oper.wp; simp only [execOp, hop, resolve, invoke, builtin, Sem.run_bind, Sem.run_pure, Result.andThen_ok, List.map_toArray, List.map_cons, List.map_nil, hs, hx, hrun]; exact hK v W ⟨Ls, by simpa using hown, by simpa using hll, hln, by simpa using hlr⟩ (World.grownBy.refl _ _) (Below.refl _ _)
 | some ad =>
   have hm : m = ys.length := by
    obtain ⟨A', c', e, _⟩ := hS; injection e
   subst hm; obtain ⟨Ms, hml, hmn, hmr, hcl⟩ := rf hn hR hS; have hb2 : (xs.length + ys.length) * bytes <= 140737488355328 := by
    have : (xs.length + ys.length) * bytes <= 4194304 * 4096 := Nat.mul_le_mul hl hby
    omega
   have hfl : Ms.flatten.length = ys.length * n := by
    rw [<- hml]; clear hml hmr hcl; induction Ms with
    | nil => simp
    | cons M r ih =>
      rw [List.flatten_cons, List.length_append, hmn M (by simp), ih (λ L hL => hmn L (by simp [hL])), List.length_cons, Nat.add_mul, Nat.one_mul, Nat.add_comm]
   refine wp_append_own W s x TS hop B T i0 z n bytes hT hi hz0 hz1 hz2 hz hn v xs.length _ hs hown ad ys.length c Ms.flatten hx hfl hcl ?_ (by unfold maxLen; omega) hb2 hB λ v' w' h1 h2 _ => hK v' w' ⟨Ls ++ Ms, by simpa using h1, by simp [hll, hml], ?_, ?_⟩ h2 ?_
   . intro u hu; obtain ⟨M, hM, huM⟩ := List.mem_flatten.1 hu; obtain ⟨i, hi'⟩ := List.getElem?_of_mem hM; have hil : i < ys.length := (by rw [<- hml]; exact (List.getElem?_eq_some_iff.1 hi').1); exact hone M _ (hmr i M _ hi' (List.getElem?_eq_getElem hil)) u huM
   . intro L hL; rcases List.mem_append.1 hL with hL | hL
     . exact hln L hL
     . exact hmn L hL
   . intro i L y hL hy; by_cases hil : i < Ls.length
     . rw [List.getElem?_append_left hil] at hL; rw [List.getElem?_append_left zO] at hy; exact hlr i L y hL hy
     . rw [List.getElem?_append_right zO] at hL hy; rw [hll] at hL; exact hmr _ L y hL hy
   . exact (Below.refl B W).grown h2 hB (λ j hj => (hown.lt j hj).1)
end
def dB (B : Nat) (w : World) : World := { w with heap := w.heap.mapIdx λ i o => if i < B then .cells #[] 0 (0, 0) else o }
theorem ny {w : World} {B b : Nat} (h : B <= b) : (dB B w).heap[b]? = w.heap[b]? := by
 unfold dB; rw [Array.getElem?_mapIdx]; cases w.heap[b]? with
 | none => rfl
 | some o => simp; omega
theorem Dg {w : World} {B b : Nat} (h : b < B) (o : Obj) (ho : (dB B w).heap[b]? = some o) : o = .cells #[] 0 (0, 0) := by
 unfold dB at ho; rw [Array.getElem?_mapIdx] at ho; cases hw : w.heap[b]? with
 | none => rw [hw] at ho; cases ho
 | some q => rw [hw] at ho; simp [h] at ho; exact ho.symm
theorem kU {w : World} {B : Nat} {a : Addr} {v : Value} (h : (dB B w).cell? a = some v) : B <= a.block /\ w.cell? a = some v := by
 by_cases hb : B <= a.block
 . refine ⟨hb, ?_⟩; rw [World.cell?_of_block (ny hb)] at h; exact h
 . exfalso; cases ho : (dB B w).heap[a.block]? with
   | none => simp [World.cell?, ho] at h
   | some o =>
     have := Dg zO o ho; subst this; simp [World.cell?, ho] at h
theorem lT {w : World} {B : Nat} {a : Addr} (h : B <= a.block) : (dB B w).cell? a = w.cell? a := World.cell?_of_block (ny h)
def Sub (w w' : World) : Prop := ∀ a v, w.cell? a = some v -> w'.cell? a = some v
theorem Sub.trans {a b c : World} (h : Sub a b) (g : Sub b c) : Sub a c := λ x v hx => g x v (h x v hx)
theorem dK (B : Nat) (w : World) : Sub (dB B w) w := λ _ _ h => (kU h).2
theorem bo {B B' : Nat} (h : B' <= B) (w : World) : Sub (dB B w) (dB B' w) := λ a v hv => by
 obtain ⟨h1, h2⟩ := kU hv
 rw [lT zO]; exact h2
def aH (B : Nat) (w w' : World) : Prop := w.heap.size <= w'.heap.size /\ ∀ k, B <= k -> k < w.heap.size -> w'.heap[k]? = w.heap[k]?
theorem aH.refl (B : Nat) (w : World) : aH B w w := ⟨Nat.le_refl _, λ _ _ _ => rfl⟩
theorem aH.trans {B : Nat} {a b c : World} (h : aH B a b) (g : aH B b c) : aH B a c := ⟨Nat.le_trans h.1 g.1, λ k h1 h2 => (g.2 k h1 (Nat.lt_of_lt_of_le h2 h.1)).trans (h.2 k h1 h2)⟩
theorem aH.alloc {B : Nat} {w w' : World} (h : aH B w w') (o : Obj) : aH B w (w'.alloc o) := ⟨Nat.le_trans h.1 (by simp), λ k h1 h2 => (Below.heap_alloc _ _ _ (Nat.lt_of_lt_of_le h2 h.1)).trans (h.2 k h1 h2)⟩
theorem aH.set {B : Nat} {w w' : World} (h : aH B w w') {a : Addr} (ha : a.block < B ∨ w.heap.size <= a.block) (u : Value) : aH B w (w'.setCell a u) := by
 refine ⟨?_, λ k h1 h2 => ?_⟩
 . exact Nat.le_trans h.1 ((Below.refl 0 w').setCell (p := a) (Nat.zero_le _) u).size
 . rw [Below.heap_setCell _ _ _ _ zO]; exact h.2 k h1 h2
theorem aH.below {B : Nat} {w w' : World} (h : Below w.heap.size w w') : aH B w w' := ⟨h.size, λ k _ h2 => h.block k h2⟩
theorem aH.sub {B : Nat} {w w' : World} (h : aH B w w') : Sub (dB B w) (dB B w') := λ a v hv => by
 obtain ⟨h1, h2⟩ := kU hv
 rw [lT h1, World.cell?_of_block (h.2 _ h1 (World.block_lt_of_cell? w _ h2))]
 exact h2
theorem bP.sub {w w' : World} {a : Addr} {L : List Value} (h : bP w a L) (hs : Sub w w') : bP w' a L := λ j u hu => hs _ _ (h j u hu)
theorem cB.sub {w w' : World} {A : Option Addr} {k : Nat} {L : List Value} (h : cB w A k L) (hs : Sub w w') : cB w' A k L := by
 obtain ⟨a, e, h⟩ := h; exact ⟨a, e, h.sub hs⟩
theorem aw.sub {X : Type} {w w' : World} {R R' : List Value -> X -> Prop} {v : Value} {l : List X} (h : aw w R v l) (hs : Sub w w') (hR : ∀ L x, R L x -> R' L x) : aw w' R' v l := by
 obtain ⟨A, c, rfl, h1, h2, h3⟩ := h; refine ⟨A, c, rfl, h1, h2, λ i x hx => ?_⟩; obtain ⟨L, h4, h5⟩ := h3 i x hx; exact ⟨L, h4.sub hs, hR L x h5⟩
theorem aG.sub {w w' : World} {v : Value} {l : List Tx} (h : aG w v l) (hs : Sub w w') : aG w' v l := aw.sub h hs λ _ _ h => h
theorem aT.sub {w w' : World} {L : List Value} {x : Ex} (h : aT w L x) (hs : Sub w w') : aT w' L x := by
 induction h with
 | mk hop hnm hn hcs hl hc hk hx ih => exact .mk hop hnm hn (hcs.sub hs) hl hc (λ i k h => (hk i k h).sub hs) (λ i k h => ih i k h)
theorem lE.sub {w w' : World} {L : List Value} {q : QEq} (h : lE w L q) (hs : Sub w w') : lE w' L q := by
 obtain ⟨nv, L', rfl, h1, h2⟩ := h; exact ⟨nv, L', rfl, h1.sub hs, h2.sub hs⟩
theorem eK.sub {w w' : World} {L : List Value} {y : gW} (h : eK w L y) (hs : Sub w w') : eK w' L y := by
 obtain ⟨L', rfl, h1, h2⟩ := h; exact ⟨L', rfl, h1.sub hs, h2⟩
theorem bX.sub {w w' : World} {L : List Value} {s : ba} (h : bX w L s) (hs : Sub w w') : bX w' L s := by
 obtain ⟨ev, wv, rfl, h0, h1, h2⟩ := h; exact ⟨ev, wv, rfl, h0, h1.sub hs λ _ _ h => h.sub hs, h2.sub hs λ _ _ h => h.sub hs⟩
theorem bO.sub {w w' : World} {L : List Value} {i : cC} (h : bO w L i) (hs : Sub w w') : bO w' L i := by
 obtain ⟨L', sv, rfl, h1, h2⟩ := h; exact ⟨L', sv, rfl, h1.sub hs, h2.sub hs λ _ _ h => h.sub hs⟩
theorem cF.sub {w w' : World} {L : List Value} {e : fp} (h : cF w L e) (hs : Sub w w') : cF w' L e := by
 obtain ⟨cv, rfl, h0, h1⟩ := h; exact ⟨cv, rfl, h0, h1.sub hs⟩
theorem cz.sub {w w' : World} {L : List Value} {n : bc} (h : cz w L n) (hs : Sub w w') : cz w' L n := by
 obtain ⟨fv, iv, ov, xv, rfl, h0, h1, h2, h3, h4⟩ := h; exact ⟨fv, iv, ov, xv, rfl, h0, h1.sub hs, h2.sub hs, h3.sub hs, h4.sub hs λ _ _ h => h.sub hs⟩
theorem ei.sub {w w' : World} {L : List Value} {p : dH} (h : ei w L p) (hs : Sub w w') : ei w' L p := by
 obtain ⟨ev, nv, rfl, h1, h2⟩ := h; exact ⟨ev, nv, rfl, h1.sub hs λ _ _ h => h.sub hs, h2.sub hs λ _ _ h => h.sub hs⟩
section
variable {N : Nat} {w w' : World}
end
end Go.Proofs.YtdcjlihaldhhjaaGreatDoor
