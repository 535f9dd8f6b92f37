import Derived.Below
import Derived.BigGuardPart
import Derived.BigQuiet
import Derived.Deep.LoopGhost
import Derived.Deep.QuietTactic
import Derived.Deep.RegionHeld3
import Derived.Lib.Hide
import Derived.OwnWalk
import Derived.Test.YtiholfmmphcbeaaGreatDoorChecked
import Derived.Test.YtiholfmmphcbeaaGreatDoorKm10
set_option maxHeartbeats 2000000
namespace Go.Proofs.YtiholfmmphcbeaaGreatDoor
open _root_.Go.Proofs.Tryz
open Go.RowKit
theorem ll (a : Addr) (i j : Nat) : (a.add i).add j = a.add (i + j) := by
 unfold Addr.add; by_cases hi : i = 0 <;> by_cases hj : j = 0 <;> simp [hi, hj, Nat.add_assoc]
theorem dP (a : Addr) (i : Nat) : (a.add i).block = a.block := by unfold Addr.add; split <;> rfl
theorem add_zero (a : Addr) : a.add 0 = a := by simp [Addr.add]
theorem bk (a : Addr) (i f : Nat) (hf : 0 < f) : (a.add i).add f = { block := (a.add i).block, off := (a.add i).off + f } := by
 unfold Addr.add; by_cases hi : i = 0 <;> simp [hi, Nat.pos_iff_ne_zero.1 hf]
def dk (w : World) (a : Addr) (L : List Value) : Prop := ∀ (j : Nat) u, L[j]? = some u -> w.cell? (a.add j) = some u
theorem dk.below {w w' : World} {B : Nat} {a : Addr} {L : List Value} (h : dk w a L) (hb : Below B w w') (ha : a.block < B) : dk w' a L :=
 λ j u hu => (hb.cell (p := a.add j) (by rw [dP]; exact ha)).trans (h j u hu)
theorem dk.lt {w : World} {a : Addr} {L : List Value} (h : dk w a L) (hL : 0 < L.length) : a.block < w.heap.size := by
 have := World.block_lt_of_cell? w _ (h 0 _ (List.getElem?_eq_getElem hL)); rwa [dP] at this
theorem dk.under {w w' : World} {a : Addr} {L : List Value} (h : dk w a L) (hb : Below w.heap.size w w') : dk w' a L := by
 rcases Nat.eq_zero_or_pos L.length with h0 | h0
 . intro j u hu; rw [List.eq_nil_of_length_eq_zero h0] at hu; cases hu
 . exact h.below hb (h.lt h0)
def eY (w : World) (A : Option Addr) (k : Nat) (L : List Value) : Prop := ∃ a, A = some a /\ dk w (a.add (k * L.length)) L
theorem eY.under {w w' : World} {A : Option Addr} {k : Nat} {L : List Value} (h : eY w A k L) (hb : Below w.heap.size w w') : eY w' A k L := by
 obtain ⟨a, e, h⟩ := h; exact ⟨a, e, h.under hb⟩
def ak {X : Type} (w : World) (R : List Value -> X -> Prop) (v : Value) (l : List X) : Prop :=
 ∃ A c, v = .slice A l.length c /\ l.length <= c /\ c <= maxLen /\ ∀ (i : Nat) x, l[i]? = some x -> ∃ L, eY w A i L /\ R L x
theorem ak.mono {X : Type} {w w' : World} {R R' : List Value -> X -> Prop} {v : Value} {l : List X} (h : ak w R v l) (hb : Below w.heap.size w w') (hR : ∀ L x, R L x -> R' L x) : ak w' R' v l := by
 obtain ⟨A, c, rfl, h1, h2, h3⟩ := h; refine ⟨A, c, rfl, h1, h2, λ i x hx => ?_⟩; obtain ⟨L, h4, h5⟩ := h3 i x hx; exact ⟨L, h4.under hb, hR L x h5⟩
def pt (L : List Value) (x : Tx) : Prop := L = [.string (str x)] /\ x.length <= maxLen
abbrev aF (w : World) (v : Value) (l : List Tx) : Prop := ak w pt v l
theorem aF.under {w w' : World} {v : Value} {l : List Tx} (h : aF w v l) (hb : Below w.heap.size w w') : aF w' v l := ak.mono h hb λ _ _ h => h
def tU (n : Int) : Prop := -9223372036854775808 <= n /\ n <= 9223372036854775807
inductive bM (w : World) : List Value -> Ex -> Prop
 | mk {op : Int} {nm : Tx} {n : Int} {cs : List Tx} {ks : List Ex} {cv : Value} {A : Option Addr} {c : Nat} {C : Nat -> List Value}
   (hop : tU op) (hnm : nm.length <= maxLen) (hn : tU n) (hcs : aF w cv cs) (hl : ks.length <= c) (hc : c <= maxLen)
   (hk : ∀ (i : Nat) k, ks[i]? = some k -> eY w A i (C i)) (hx : ∀ (i : Nat) k, ks[i]? = some k -> bM w (C i) k) :
   bM w [.int .i64 op, .string (str nm), .int .i64 n, cv, .slice A ks.length c] (.mk op nm n cs ks)
theorem bM.under {w w' : World} {L : List Value} {x : Ex} (h : bM w L x) (hb : Below w.heap.size w w') : bM w' L x := by
 induction h with
 | mk hop hnm hn hcs hl hc hk hx ih => exact .mk hop hnm hn (hcs.under hb) hl hc (λ i k h => (hk i k h).under hb) (λ i k h => ih i k h)
theorem bM.len {w : World} {L : List Value} {x : Ex} (h : bM w L x) : L.length = 5 := by cases h; rfl
theorem bM.shape {w : World} {L : List Value} {x : Ex} (h : bM w L x) : ∃ o s n A1 n1 k1 A2 n2 k2, L = [.int .i64 o, .string s, .int .i64 n, .slice A1 n1 k1, .slice A2 n2 k2] := by
 cases h with
 | mk hop hnm hn hcs hl hc hk hx =>
   obtain ⟨A1, c1, rfl, _⟩ := hcs; exact ⟨_, _, _, _, _, _, _, _, _, rfl⟩
theorem dL {w : World} {A : Option Addr} {k : Nat} {c0 : Value} (h : eY w A k [c0]) :
  ∃ a, A = some a /\ a.block < w.heap.size /\ (a.add (k * 1)).block < w.heap.size /\ w.cell? (a.add (k * 1)) = some c0 := by
 obtain ⟨a, rfl, h⟩ := h; have h : dk w (a.add (k * 1)) [c0] := h; have h0 := h 0 _ rfl; rw [add_zero] at h0; refine ⟨a, rfl, ?_, h.lt (by simp), h0⟩
 . have := h.lt (by simp); rwa [dP] at this
theorem Eb {w : World} {A : Option Addr} {k : Nat} {c0 c1 : Value} (h : eY w A k [c0, c1]) :
  ∃ a, A = some a /\ a.block < w.heap.size /\ (a.add (k * 2)).block < w.heap.size /\ w.cell? (a.add (k * 2)) = some c0 /\ w.cell? { block := (a.add (k * 2)).block, off := (a.add (k * 2)).off + 1 } = some c1 := by
 obtain ⟨a, rfl, h⟩ := h; have h : dk w (a.add (k * 2)) [c0, c1] := h; have h0 := h 0 _ rfl; rw [add_zero] at h0; refine ⟨a, rfl, ?_, h.lt (by simp), h0, ?_⟩
 . have := h.lt (by simp); rwa [dP] at this
 . rw [<- bk _ _ _ zO]; exact h 1 _ rfl
theorem gz {w : World} {A : Option Addr} {k : Nat} {c0 c1 c2 : Value} (h : eY w A k [c0, c1, c2]) :
  ∃ a, A = some a /\ a.block < w.heap.size /\ (a.add (k * 3)).block < w.heap.size /\ w.cell? (a.add (k * 3)) = some c0 /\ w.cell? { block := (a.add (k * 3)).block, off := (a.add (k * 3)).off + 1 } = some c1 /\ w.cell? { block := (a.add (k * 3)).block, off := (a.add (k * 3)).off + 2 } = some c2 := by
 obtain ⟨a, rfl, h⟩ := h; have h : dk w (a.add (k * 3)) [c0, c1, c2] := h; have h0 := h 0 _ rfl; rw [add_zero] at h0; refine ⟨a, rfl, ?_, h.lt (by simp), h0, ?_, ?_⟩
 . have := h.lt (by simp); rwa [dP] at this
 . rw [<- bk _ _ _ zO]; exact h 1 _ rfl
 . rw [<- bk _ _ _ zO]; exact h 2 _ rfl
theorem eh {w : World} {A : Option Addr} {k : Nat} {c0 c1 c2 c3 c4 : Value} (h : eY w A k [c0, c1, c2, c3, c4]) :
  ∃ a, A = some a /\ a.block < w.heap.size /\ (a.add (k * 5)).block < w.heap.size /\ w.cell? (a.add (k * 5)) = some c0 /\ w.cell? { block := (a.add (k * 5)).block, off := (a.add (k * 5)).off + 1 } = some c1 /\ w.cell? { block := (a.add (k * 5)).block, off := (a.add (k * 5)).off + 2 } = some c2 /\ w.cell? { block := (a.add (k * 5)).block, off := (a.add (k * 5)).off + 3 } = some c3 /\ w.cell? { block := (a.add (k * 5)).block, off := (a.add (k * 5)).off + 4 } = some c4 := by
 obtain ⟨a, rfl, h⟩ := h; have h : dk w (a.add (k * 5)) [c0, c1, c2, c3, c4] := h; have h0 := h 0 _ rfl; rw [add_zero] at h0; refine ⟨a, rfl, ?_, h.lt (by simp), h0, ?_, ?_, ?_, ?_⟩
 . have := h.lt (by simp); rwa [dP] at this
 . rw [<- bk _ _ _ zO]; exact h 1 _ rfl
 . rw [<- bk _ _ _ zO]; exact h 2 _ rfl
 . rw [<- bk _ _ _ zO]; exact h 3 _ rfl
 . rw [<- bk _ _ _ zO]; exact h 4 _ rfl
theorem mV {w : World} {A : Option Addr} {k : Nat} {c0 c1 c2 c3 c4 c5 : Value} (h : eY w A k [c0, c1, c2, c3, c4, c5]) :
  ∃ a, A = some a /\ a.block < w.heap.size /\ (a.add (k * 6)).block < w.heap.size /\ w.cell? (a.add (k * 6)) = some c0 /\ w.cell? { block := (a.add (k * 6)).block, off := (a.add (k * 6)).off + 1 } = some c1 /\ w.cell? { block := (a.add (k * 6)).block, off := (a.add (k * 6)).off + 2 } = some c2 /\ w.cell? { block := (a.add (k * 6)).block, off := (a.add (k * 6)).off + 3 } = some c3 /\ w.cell? { block := (a.add (k * 6)).block, off := (a.add (k * 6)).off + 4 } = some c4 /\ w.cell? { block := (a.add (k * 6)).block, off := (a.add (k * 6)).off + 5 } = some c5 := by
 obtain ⟨a, rfl, h⟩ := h; have h : dk w (a.add (k * 6)) [c0, c1, c2, c3, c4, c5] := h; have h0 := h 0 _ rfl; rw [add_zero] at h0; refine ⟨a, rfl, ?_, h.lt (by simp), h0, ?_, ?_, ?_, ?_, ?_⟩
 . have := h.lt (by simp); rwa [dP] at this
 . rw [<- bk _ _ _ zO]; exact h 1 _ rfl
 . rw [<- bk _ _ _ zO]; exact h 2 _ rfl
 . rw [<- bk _ _ _ zO]; exact h 3 _ rfl
 . rw [<- bk _ _ _ zO]; exact h 4 _ rfl
 . rw [<- bk _ _ _ zO]; exact h 5 _ rfl
theorem ox {w : World} {A : Option Addr} {k : Nat} {c0 c1 c2 c3 c4 c5 c6 : Value} (h : eY w A k [c0, c1, c2, c3, c4, c5, c6]) :
  ∃ a, A = some a /\ a.block < w.heap.size /\ (a.add (k * 7)).block < w.heap.size /\ w.cell? (a.add (k * 7)) = some c0 /\ w.cell? { block := (a.add (k * 7)).block, off := (a.add (k * 7)).off + 1 } = some c1 /\ w.cell? { block := (a.add (k * 7)).block, off := (a.add (k * 7)).off + 2 } = some c2 /\ w.cell? { block := (a.add (k * 7)).block, off := (a.add (k * 7)).off + 3 } = some c3 /\ w.cell? { block := (a.add (k * 7)).block, off := (a.add (k * 7)).off + 4 } = some c4 /\ w.cell? { block := (a.add (k * 7)).block, off := (a.add (k * 7)).off + 5 } = some c5 /\ w.cell? { block := (a.add (k * 7)).block, off := (a.add (k * 7)).off + 6 } = some c6 := by
 obtain ⟨a, rfl, h⟩ := h; have h : dk w (a.add (k * 7)) [c0, c1, c2, c3, c4, c5, c6] := h; have h0 := h 0 _ rfl; rw [add_zero] at h0; refine ⟨a, rfl, ?_, h.lt (by simp), h0, ?_, ?_, ?_, ?_, ?_, ?_⟩
 . have := h.lt (by simp); rwa [dP] at this
 . rw [<- bk _ _ _ zO]; exact h 1 _ rfl
 . rw [<- bk _ _ _ zO]; exact h 2 _ rfl
 . rw [<- bk _ _ _ zO]; exact h 3 _ rfl
 . rw [<- bk _ _ _ zO]; exact h 4 _ rfl
 . rw [<- bk _ _ _ zO]; exact h 5 _ rfl
 . rw [<- bk _ _ _ zO]; exact h 6 _ rfl
def l7 (w : World) (L : List Value) (q : QEq) : Prop := ∃ nv L', L = nv :: L' /\ aF w nv q.names /\ bM w L' q.e
def gp (w : World) (L : List Value) (y : iO) : Prop := ∃ L', L = L' ++ [.string (str y.to)] /\ bM w L' y.cond /\ y.to.length <= maxLen
def cj (w : World) (L : List Value) (s : aZ) : Prop := ∃ ev wv, L = [.string (str s.name), ev, wv] /\ s.name.length <= maxLen /\ ak w (l7 w) ev s.eqs /\ ak w (gp w) wv s.ways
def dz (w : World) (L : List Value) (i : bf) : Prop := ∃ L' sv, L = L' ++ [sv] /\ l7 w L' i.eq /\ ak w (cj w) sv i.states
def fW (w : World) (L : List Value) (e : fo) : Prop := ∃ cv, L = [.string (str e.name), cv] /\ e.name.length <= maxLen /\ aF w cv e.cons
def bS (w : World) (L : List Value) (n : aA) : Prop := ∃ fv iv ov xv, L = [.string (str n.name), fv, iv, ov, xv] /\ n.name.length <= maxLen /\ aF w fv n.funs /\ aF w iv n.ins /\ aF w ov n.outs /\ ak w (dz w) xv n.items
def dS (w : World) (L : List Value) (p : cg) : Prop := ∃ ev nv, L = [ev, nv] /\ ak w (fW w) ev p.enums /\ ak w (bS w) nv p.nodes
section
variable {w w' : World} {L : List Value}
theorem l7.under {q : QEq} (h : l7 w L q) (hb : Below w.heap.size w w') : l7 w' L q := by
 obtain ⟨nv, L', rfl, h1, h2⟩ := h; exact ⟨nv, L', rfl, h1.under hb, h2.under hb⟩
theorem gp.under {y : iO} (h : gp w L y) (hb : Below w.heap.size w w') : gp w' L y := by
 obtain ⟨L', rfl, h1, h2⟩ := h; exact ⟨L', rfl, h1.under hb, h2⟩
theorem cj.under {s : aZ} (h : cj w L s) (hb : Below w.heap.size w w') : cj w' L s := by
 obtain ⟨ev, wv, rfl, h0, h1, h2⟩ := h; exact ⟨ev, wv, rfl, h0, h1.mono hb λ _ _ h => h.under hb, h2.mono hb λ _ _ h => h.under hb⟩
theorem dz.under {i : bf} (h : dz w L i) (hb : Below w.heap.size w w') : dz w' L i := by
 obtain ⟨L', sv, rfl, h1, h2⟩ := h; exact ⟨L', sv, rfl, h1.under hb, h2.mono hb λ _ _ h => h.under hb⟩
theorem fW.under {e : fo} (h : fW w L e) (hb : Below w.heap.size w w') : fW w' L e := by
 obtain ⟨cv, rfl, h0, h1⟩ := h; exact ⟨cv, rfl, h0, h1.under hb⟩
theorem bS.under {n : aA} (h : bS w L n) (hb : Below w.heap.size w w') : bS w' L n := by
 obtain ⟨fv, iv, ov, xv, rfl, h0, h1, h2, h3, h4⟩ := h; exact ⟨fv, iv, ov, xv, rfl, h0, h1.under hb, h2.under hb, h3.under hb, h4.mono hb λ _ _ h => h.under hb⟩
theorem dS.under {p : cg} (h : dS w L p) (hb : Below w.heap.size w w') : dS w' L p := by
 obtain ⟨ev, nv, rfl, h1, h2⟩ := h; exact ⟨ev, nv, rfl, h1.mono hb λ _ _ h => h.under hb, h2.mono hb λ _ _ h => h.under hb⟩
theorem ak.shape {X : Type} {R : List Value -> X -> Prop} {v : Value} {l : List X} (h : ak w R v l) : ∃ A n k, v = .slice A n k := by
 obtain ⟨A, c, rfl, _⟩ := h; exact ⟨A, _, c, rfl⟩
theorem l7.shape {q : QEq} (h : l7 w L q) : ∃ A0 n0 k0 o1 s2 o3 A4 n4 k4 A5 n5 k5, L = [.slice A0 n0 k0, .int .i64 o1, .string s2, .int .i64 o3, .slice A4 n4 k4, .slice A5 n5 k5] := by
 obtain ⟨nv, L', rfl, h1, h2⟩ := h; obtain ⟨_, _, _, rfl⟩ := ak.shape h1; obtain ⟨_, _, _, _, _, _, _, _, _, rfl⟩ := h2.shape; exact ⟨_, _, _, _, _, _, _, _, _, _, _, _, rfl⟩
theorem gp.shape {y : iO} (h : gp w L y) : ∃ o0 s1 o2 A3 n3 k3 A4 n4 k4 s5, L = [.int .i64 o0, .string s1, .int .i64 o2, .slice A3 n3 k3, .slice A4 n4 k4, .string s5] := by
 obtain ⟨L', rfl, h2, h1⟩ := h; obtain ⟨_, _, _, _, _, _, _, _, _, rfl⟩ := h2.shape; exact ⟨_, _, _, _, _, _, _, _, _, _, rfl⟩
theorem cj.shape {s : aZ} (h : cj w L s) : ∃ s0 A1 n1 k1 A2 n2 k2, L = [.string s0, .slice A1 n1 k1, .slice A2 n2 k2] := by
 obtain ⟨ev, wv, rfl, _, h1, h2⟩ := h; obtain ⟨_, _, _, rfl⟩ := ak.shape h1; obtain ⟨_, _, _, rfl⟩ := ak.shape h2; exact ⟨_, _, _, _, _, _, _, rfl⟩
theorem dz.shape {i : bf} (h : dz w L i) : ∃ A0 n0 k0 o1 s2 o3 A4 n4 k4 A5 n5 k5 A6 n6 k6, L = [.slice A0 n0 k0, .int .i64 o1, .string s2, .int .i64 o3, .slice A4 n4 k4, .slice A5 n5 k5, .slice A6 n6 k6] := by
 obtain ⟨L', sv, rfl, h1, h2⟩ := h; obtain ⟨_, _, _, _, _, _, _, _, _, _, _, _, rfl⟩ := h1.shape; obtain ⟨_, _, _, rfl⟩ := ak.shape h2; exact ⟨_, _, _, _, _, _, _, _, _, _, _, _, _, _, _, rfl⟩
theorem fW.shape {e : fo} (h : fW w L e) : ∃ s0 A1 n1 k1, L = [.string s0, .slice A1 n1 k1] := by
 obtain ⟨cv, rfl, _, h1⟩ := h; obtain ⟨_, _, _, rfl⟩ := ak.shape h1; exact ⟨_, _, _, _, rfl⟩
theorem bS.shape {n : aA} (h : bS w L n) : ∃ s0 A1 n1 k1 A2 n2 k2 A3 n3 k3 A4 n4 k4, L = [.string s0, .slice A1 n1 k1, .slice A2 n2 k2, .slice A3 n3 k3, .slice A4 n4 k4] := by
 obtain ⟨fv, iv, ov, xv, rfl, _, h1, h2, h3, h4⟩ := h; obtain ⟨_, _, _, rfl⟩ := ak.shape h1; obtain ⟨_, _, _, rfl⟩ := ak.shape h2; obtain ⟨_, _, _, rfl⟩ := ak.shape h3; obtain ⟨_, _, _, rfl⟩ := ak.shape h4; exact ⟨_, _, _, _, _, _, _, _, _, _, _, _, _, rfl⟩
theorem bM.open_ {op : Int} {nm : Tx} {n : Int} {cs : List Tx} {ks : List Ex} (h : bM w L (.mk op nm n cs ks)) :
  ∃ cv kv, L = [.int .i64 op, .string (str nm), .int .i64 n, cv, kv] /\ tU op /\ nm.length <= maxLen /\ tU n /\ aF w cv cs /\ ak w (bM w) kv ks := by
 cases h with
 | mk hop hnm hn hcs hl hc hk hx => exact ⟨_, _, rfl, hop, hnm, hn, hcs, _, _, rfl, hl, hc, λ i k hi => ⟨_, hk i k hi, hx i k hi⟩⟩
end
def gv {X : Type} (f : X -> X -> Bool) (la lb : List X) (k : Nat) : Prop := ∀ (i : Nat) x y, i < k -> la[i]? = some x -> lb[i]? = some y -> f x y = true
theorem gv.zero {X : Type} {f : X -> X -> Bool} {la lb : List X} : gv f la lb 0 := λ _ _ _ h => absurd h zO
theorem gv.succ {X : Type} {f : X -> X -> Bool} {la lb : List X} {k : Nat} (h : gv f la lb k) {x y : X} (hx : la[k]? = some x) (hy : lb[k]? = some y) (hf : f x y = true) : gv f la lb (k + 1) := by
 intro i a b hi ha hb; by_cases e : i = k
 . subst e; rw [ha] at hx; rw [hb] at hy; cases hx; cases hy; exact hf
 . exact h i a b zO ha hb
theorem gv.all {X : Type} {f : X -> X -> Bool} {la lb : List X} {k : Nat} (h : gv f la lb k) (hl : la.length = lb.length) (hk : k = la.length) : dm f la lb = true :=
 xy hl λ i x y hx hy => h i x y (by rw [hk]; exact (List.getElem?_eq_some_iff.1 hx).1) hx hy
theorem oF {B : Nat} {a w : World} (h : Below B a w) (n : Nat) : Below B a (w.drewN n) := ⟨h.os, h.tape, h.output, h.size, h.block⟩
theorem ab {w : World} {b : Nat} {o : Obj} (h : w.heap[b]? = some o) : b < w.heap.size := (Array.getElem?_eq_some_iff.1 h).1
def um (n : Int) (w : World) (e : Ending) (w' : World) : Prop := e = .returned (.int .i64 n) /\ Below w.heap.size w w'
def ar (b : Bool) (w : World) (e : Ending) (w' : World) : Prop := e = .returned (.bool b) /\ Below w.heap.size w w'
theorem cI {X : Type} {l : List X} {k : Nat} {x : X} (h : l[k]? = some x) : l.take (k + 1) = l.take k ++ [x] := by
 obtain ⟨hk, rfl⟩ := List.getElem?_eq_some_iff.1 h; rw [List.take_succ_eq_append_getElem hk]
theorem D5 {w0 : World} {va vb : Value} {la lb : List Ex} (ha : ak w0 (bM w0) va la) (hb : ak w0 (bM w0) vb lb)
  (hf : ∀ x ∈ la, ∀ y ∈ lb, ∀ L M, bM w0 L x -> bM w0 M y -> ∀ w, Below w0.heap.size w0 w -> Calls prog 161 #[.agg L.toArray, .agg M.toArray] w (ar (ml x y) w)) :
  ∀ w, Below w0.heap.size w0 w -> Calls prog 183 #[va, vb, .func (.func 161) #[] #[]] w (ar (dm ml la lb) w) := by
 intro w hw; obtain ⟨A, ca, rfl, hca, hma, hea⟩ := ha; obtain ⟨B, cb, rfl, hcb, hmb, heb⟩ := hb; have hla : la.length <= 9223372036854775807 := (by unfold maxLen at hma; omega); have HW0 := zH hw; have hsz0 := hw.size; clear hw hca hma hcb hmb; by_cases hlen : la.length = lb.length
 . have hd : ((la.length : Int) != (lb.length : Int)) = false := by simp [hlen]
   have HL := zH hlen; clear hlen; go_enter func183, ntmps183
   go_wp2_with fail
   go_loopg [17] la.length (λ g v wr => ∃ k : Nat, k + g = la.length /\ v = .int .i64 k /\ gv ml la lb k /\ Below w.heap.size w wr)
   case atStart => exact ⟨0, by omega, rfl, gv.zero, Below.refl _ _⟩
   case round =>
    obtain ⟨k, hkg, rfl, hto, hbw⟩ := hrel; have HK := zH hkg; have HW := zH hbw; have HT := zH hto; have hszw := hbw.size; have hkl : k <= la.length := zO; clear hkg hbw hto; by_cases hlt : k < la.length
    . obtain ⟨x, hx⟩ := zG hlt; have hltb : k < lb.length := (by rw [<- HL.o]; exact hlt); obtain ⟨y, hy⟩ := zG hltb; obtain ⟨L, hEL, hRL⟩ := hea k x hx; obtain ⟨M, hEM, hRM⟩ := heb k y hy; obtain ⟨po0, ps1, po2, pA3, pn3, pk3, pA4, pn4, pk4, rfl⟩ := bM.shape hRL; obtain ⟨qo0, qs1, qo2, qA3, qn3, qk3, qA4, qn4, qk4, rfl⟩ := bM.shape hRM; have HF := zH (hf x (List.mem_of_getElem? hx) y (List.mem_of_getElem? hy) _ _ hRL hRM); have HB0 := zH (HW0.o.trans (HW.o.mono hsz0)); have HX := zH hx; have HY := zH hy; obtain ⟨a, rfl, hab, haa, d0, d1, d2, d3, d4⟩ := eh (hEL.under HB0.o); obtain ⟨b, rfl, hbb, hbc, e0, e1, e2, e3, e4⟩ := eh (hEM.under HB0.o); clear hRL hRM hEL hEM hea heb hf hx hy; cases hfx : ml x y
      . have HFX := zH hfx; rw [hfx] at HF; clear hfx; go_wp2_with (go_at_call 161; refine (HF.o _ ((HB0.o.alloc zO _).alloc (by simp; omega) _)).mono ?_; rintro e w1 ⟨rfl, hb1⟩)
        go_ret; exact ⟨ah (AM HX.o HY.o HFX.o).symm, ((HW.o.alloc zO _).alloc (by simp; omega) _).trans (hb1.mono (by simp; omega))⟩
      . have HFX := zH hfx; rw [hfx] at HF; clear hfx; go_wp2_with (go_at_call 161; refine (HF.o _ ((HB0.o.alloc zO _).alloc (by simp; omega) _)).mono ?_; rintro e w1 ⟨rfl, hb1⟩)
        go_roundg (la.length - (k + 1))
        case measure => have := HK.o; omega
        case rel => exact ⟨k + 1, by omega, by go_num, HT.o.succ HX.o HY.o HFX.o, ((HW.o.alloc zO _).alloc (by simp; omega) _).trans (hb1.mono (by simp; omega))⟩
    . have hke : k = la.length := by omega
      have HKE := zH hke; clear hke; go_wp2_with fail
      go_ret; exact ⟨ah (HT.o.all HL.o HKE.o).symm, HW.o⟩
 . have hd : ((la.length : Int) != (lb.length : Int)) = true := by simp; omega
   have HL := zH hlen; clear hlen; go_enter func183, ntmps183
   go_wp2_with fail
   go_ret; exact ⟨ah (xw HL.o).symm, Below.refl _ _⟩
theorem Fa {a b : Tx} : str a = str b ↔ a = b := ⟨λ h => by have := congrArg (λ s => s.data.toList) h; simpa [fL] using this, λ h => by rw [h]⟩
theorem ep (a : Tx) : (str a).toList = a := by rw [Lib.toList_data, fL]
theorem iF {w w1 : World} {ca cb : Array Value} {Ta Tb : TypeId} (hb : Below ((w.alloc (.cells ca Ta)).alloc (.cells cb Tb)).heap.size ((w.alloc (.cells ca Ta)).alloc (.cells cb Tb)) w1) : w1.heap[w.heap.size]? = some (.cells ca Ta (0, 0)) := by
 rw [hb.block w.heap.size (by simp; omega), Below.heap_alloc _ _ _ (by simp)]; exact heap_alloc_new w _
theorem iE {w w1 : World} {ca cb : Array Value} {Ta Tb : TypeId} (hb : Below ((w.alloc (.cells ca Ta)).alloc (.cells cb Tb)).heap.size ((w.alloc (.cells ca Ta)).alloc (.cells cb Tb)) w1) : w1.heap[w.heap.size + 1]? = some (.cells cb Tb (0, 0)) := by
 rw [hb.block (w.heap.size + 1) (by simp)]; have := heap_alloc_new (w.alloc (.cells ca Ta)) (.cells cb Tb); simpa using this
theorem ao {w w1 : World} {g : Nat} {o : Obj} (hb : Below w.heap.size w w1) (h : w.heap[g]? = some o) : w1.heap[g]? = some o := (hb.block g (ab h)).trans h
theorem bb {w : World} {N : Nat} {T : TypeId} {v0 v1 : Value} (h : w.heap[N]? = some (.cells #[v0, v1] T (0, 0))) :
  w.cell? ⟨N, 0, none⟩ = some v0 /\ w.cell? ⟨N, 1, none⟩ = some v1 := by
 simp [World.cell?, h]
theorem bo {w : World} {N : Nat} {T : TypeId} {v0 v1 v2 : Value} (h : w.heap[N]? = some (.cells #[v0, v1, v2] T (0, 0))) :
  w.cell? ⟨N, 0, none⟩ = some v0 /\ w.cell? ⟨N, 1, none⟩ = some v1 /\ w.cell? ⟨N, 2, none⟩ = some v2 := by
 simp [World.cell?, h]
theorem aW {w : World} {N : Nat} {T : TypeId} {v0 v1 v2 v3 v4 : Value} (h : w.heap[N]? = some (.cells #[v0, v1, v2, v3, v4] T (0, 0))) :
  w.cell? ⟨N, 0, none⟩ = some v0 /\ w.cell? ⟨N, 1, none⟩ = some v1 /\ w.cell? ⟨N, 2, none⟩ = some v2 /\ w.cell? ⟨N, 3, none⟩ = some v3 /\ w.cell? ⟨N, 4, none⟩ = some v4 := by
 simp [World.cell?, h]
theorem CS {w : World} {N : Nat} {T : TypeId} {v0 v1 v2 v3 v4 v5 : Value} (h : w.heap[N]? = some (.cells #[v0, v1, v2, v3, v4, v5] T (0, 0))) :
  w.cell? ⟨N, 0, none⟩ = some v0 /\ w.cell? ⟨N, 1, none⟩ = some v1 /\ w.cell? ⟨N, 2, none⟩ = some v2 /\ w.cell? ⟨N, 3, none⟩ = some v3 /\ w.cell? ⟨N, 4, none⟩ = some v4 /\ w.cell? ⟨N, 5, none⟩ = some v5 := by
 simp [World.cell?, h]
theorem rm {w : World} {N : Nat} {T : TypeId} {v0 v1 v2 v3 v4 v5 v6 : Value} (h : w.heap[N]? = some (.cells #[v0, v1, v2, v3, v4, v5, v6] T (0, 0))) :
  w.cell? ⟨N, 0, none⟩ = some v0 /\ w.cell? ⟨N, 1, none⟩ = some v1 /\ w.cell? ⟨N, 2, none⟩ = some v2 /\ w.cell? ⟨N, 3, none⟩ = some v3 /\ w.cell? ⟨N, 4, none⟩ = some v4 /\ w.cell? ⟨N, 5, none⟩ = some v5 /\ w.cell? ⟨N, 6, none⟩ = some v6 := by
 simp [World.cell?, h]
theorem F7 {l m : List Tx} {k : Nat} (hl : l.length = m.length) (h : gv (λ a b => a == b) l m k) (hk : k = l.length) : l = m := by
 have := h.all hl hk; exact (xx (f := λ a b : Tx => a == b) (by simp) l m).1 this
theorem qD {w0 : World} {va vb : Value} {la lb : List Tx} (ha : aF w0 va la) (hb : aF w0 vb lb) :
  ∀ w, Below w0.heap.size w0 w -> Calls prog 182 #[va, vb] w (ar (la == lb) w) := by
 intro w hw; obtain ⟨A, ca, rfl, hca, hma, hea⟩ := ha; obtain ⟨B, cb, rfl, hcb, hmb, heb⟩ := hb; have hla : la.length <= 9223372036854775807 := (by unfold maxLen at hma; omega); have HW0 := zH hw; have hsz0 := hw.size; clear hw hca hma hcb hmb; by_cases hlen : la.length = lb.length
 . have hd : ((la.length : Int) != (lb.length : Int)) = false := by simp [hlen]
   have HL := zH hlen; clear hlen; go_enter func182, ntmps182
   go_wp2_with fail
   go_loopg [13] la.length (λ g v wr => ∃ k : Nat, k + g = la.length /\ v = .int .i64 k /\ gv (λ a b => a == b) la lb k /\ Below w.heap.size w wr)
   case atStart => exact ⟨0, by omega, rfl, gv.zero, Below.refl _ _⟩
   case round =>
    obtain ⟨k, hkg, rfl, hto, hbw⟩ := hrel; have HK := zH hkg; have HW := zH hbw; have HT := zH hto; have hszw := hbw.size; have hkl : k <= la.length := zO; clear hkg hbw hto; by_cases hlt : k < la.length
    . obtain ⟨x, hx⟩ := zG hlt; have hltb : k < lb.length := (by rw [<- HL.o]; exact hlt); obtain ⟨y, hy⟩ := zG hltb; obtain ⟨L, hEL, rfl, _⟩ := hea k x hx; obtain ⟨M, hEM, rfl, _⟩ := heb k y hy; have HB0 := zH (HW0.o.trans (HW.o.mono hsz0)); have HX := zH hx; have HY := zH hy; obtain ⟨a, rfl, hab, haa, d0⟩ := dL (hEL.under HB0.o); obtain ⟨b, rfl, hbb, hbc, e0⟩ := dL (hEM.under HB0.o); rw [Nat.mul_one] at d0 e0; clear hEL hEM hea heb hx hy; go_wp2_with fail
      go_quiet (fail)
      go_wp2_with fail
      all_goals first
       | (have hxy : x = y := by
           have h : (!(str x).toList == (str y).toList) = false := (by assumption); simpa [ep] using h
          have HXY := zH hxy; clear hxy; go_roundg (la.length - (k + 1))
          case measure => have := HK.o; omega
          case rel => exact ⟨k + 1, by omega, by go_num, HT.o.succ HX.o HY.o (by simp [HXY.o]), oF HW.o _⟩)
       | (have hxy : x ≠ y := by
           have h : (!(str x).toList == (str y).toList) = true := (by assumption); simpa [ep] using h
          go_ret; exact ⟨ah (by rw [Eq.comm, Bool.eq_false_iff]; intro e; simp at e; subst e; have h1 := HX.o; rw [HY.o] at h1; exact hxy (Option.some.inj h1).symm), oF HW.o _⟩)
    . have hke : k = la.length := by omega
      have HKE := zH hke; clear hke; go_wp2_with fail
      go_ret; exact ⟨ah (by rw [F7 HL.o HT.o HKE.o]; simp), HW.o⟩
 . have hd : ((la.length : Int) != (lb.length : Int)) = true := by simp; omega
   have HL := zH hlen; clear hlen; go_enter func182, ntmps182
   go_wp2_with fail
   go_ret; exact ⟨ah (by rw [Eq.comm, Bool.eq_false_iff]; intro e; simp at e; exact HL.o (by rw [e])), Below.refl _ _⟩
theorem tr {w0 : World} : ∀ (x : Ex) (y : Ex) (L M : List Value), bM w0 L x -> bM w0 M y -> ∀ w, Below w0.heap.size w0 w -> Calls prog 161 #[.agg L.toArray, .agg M.toArray] w (ar (ml x y) w) := by
 intro x; induction x using Ex.ind with
 | h op nm n cs ks ih =>
   rintro ⟨op', nm', n', cs', ks'⟩ L M hL hM w hw; obtain ⟨cv, kv, rfl, _, _, _, hcs, hks⟩ := hL.open_; obtain ⟨cv', kv', rfl, _, _, _, hcs', hks'⟩ := hM.open_; have hE := zH (qD hcs hcs'); have hF := zH (D5 hks hks' (λ x hx y _ L M h1 h2 => ih x hx y L M h1 h2)); obtain ⟨A1, n1, k1, rfl⟩ := ak.shape hcs; obtain ⟨A2, n2, k2, rfl⟩ := ak.shape hks; obtain ⟨B1, m1, j1, rfl⟩ := ak.shape hcs'; obtain ⟨B2, m2, j2, rfl⟩ := ak.shape hks'; have HW := zH hw; have hsz := hw.size; clear hw hcs hks hcs' hks' hL hM ih; go_enter func161, ntmps161
   go_wp2_with (first | (go_at_call 182; (with_reducible refine (hE.o _ ?hB).mono ?_); (case hB => exact (HW.o.alloc zO _).alloc (by simp; omega) _); rintro e w1 ⟨rfl, hb1⟩; have hs1 := hb1.size; simp at hs1; have HB1 := zH (((HW.o.alloc zO _).alloc (by simp; omega) _).trans (hb1.mono (by simp; omega))); have HC1 := zH ((((Below.refl _ _).alloc (Nat.le_refl _) _).alloc (by simp) _).trans (hb1.mono (by simp; omega))); have ba1 := iF hb1; have bb1 := iE hb1; obtain ⟨x1_0, x1_1, x1_2, x1_3, x1_4⟩ := aW ba1; obtain ⟨y1_0, y1_1, y1_2, y1_3, y1_4⟩ := aW bb1; have BA1 := zH ba1; have BB1 := zH bb1; clear ba1 bb1; clear hb1) | (go_at_call 183; (with_reducible refine (hF.o _ ?hB).mono ?_); (case hB => exact HB1.o); rintro e w2 ⟨rfl, hb2⟩; have hs2 := hb2.size; have HB2 := zH ((HB1.o).trans (hb2.mono zO)); have HC2 := zH ((HC1.o).trans (hb2.mono zO)); clear hb2))
   all_goals go_ret
   all_goals refine ⟨ah ?_, ?_⟩
   all_goals first | exact HC2.o | exact HC1.o | exact ((Below.refl _ _).alloc (Nat.le_refl _) _).alloc (by simp) _ | skip
   all_goals simp_all [ml, ep, AL]
theorem CK {w0 : World} {L : List Value} {x : Ex} (h : bM w0 L x) : ∀ w, Below w0.heap.size w0 w -> Calls prog 89 #[.agg L.toArray] w (um (oc x) w) := by
 induction h with
 | @mk op nm n cs ks cv A c C hop hnm hn hcs hl hc hk hx ih =>
   intro w hb; have HB := zH hb; have hlm : ks.length <= 9223372036854775807 := (by unfold maxLen at hc; omega); have hsz0 := hb.size; clear hop hn hcs hb hl hc hnm; go_enter func89, ntmps89
   go_wp2_with fail
   go_loopg [3, 9] ks.length (λ g s v wr => ∃ k : Nat, k + g = ks.length /\ v = .int .i64 k /\ s = .int .i64 (gw 1 (ks.take k)) /\ Below w.heap.size w wr)
   case atStart => exact ⟨0, by omega, rfl, by simp [gw], (Below.refl _ _).alloc (Nat.le_refl _) _⟩
   case round =>
    obtain ⟨k, hkg, rfl, rfl, hbw⟩ := hrel; have HK := zH hkg; have HW := zH hbw; have hszw := hbw.size; have hkl : k <= ks.length := zO; clear hkg hbw; by_cases hlt : k < ks.length
    . obtain ⟨y, hy⟩ := zG hlt; have hC := hk k y hy; have hih := zH (ih k y hy); have hxk := hx k y hy; have HS := zH (show gw 1 (ks.take (k + 1)) = _ by rw [cI hy, xr]); obtain ⟨o1, s1, n1, A1, m1, k1, A2, m2, k2, hL⟩ := hxk.shape; generalize C k = L at hC hih hxk hL; subst hL; clear hy hxk hk hx ih; have hB0 := zH ((HB.o.trans (HW.o.mono hsz0))); obtain ⟨a, rfl, ha, haa, d0, d1, d2, d3, d4⟩ := eh (hC.under hB0.o); clear hC; go_wp2_with (go_at_call 89; refine (hih.o _ (hB0.o.alloc zO _)).mono ?_; rintro e w1 ⟨rfl, hb1⟩)
      go_roundg (ks.length - (k + 1))
      case measure => have := HK.o; omega
      case rel => exact ⟨k + 1, by omega, by go_num, by rw [HS.o], (HW.o.alloc zO _).trans (hb1.mono (by simp; omega))⟩
    . have hke : k = ks.length := by omega
      have HKE := zH hke; clear hke; go_wp2_with fail
      go_ret; exact ⟨iz (by rw [HKE.o, List.take_length, oc]), HW.o⟩
theorem sW {w0 : World} {L : List Value} {x : Ex} (h : bM w0 L x) : ∀ w, Below w0.heap.size w0 w -> Calls prog 88 #[.agg L.toArray] w (um (lV x) w) := by
 induction h with
 | @mk op nm n cs ks cv A c C hop hnm hn hcs hl hc hk hx ih =>
   intro w hb; have HB := zH hb; have hlm : ks.length <= 9223372036854775807 := (by unfold maxLen at hc; omega); have hsz0 := hb.size; clear hop hn hcs hb hl hc hnm; go_enter func88, ntmps88
   go_wp2_with fail
   go_loopg [3, 9] ks.length (λ g s v wr => ∃ k : Nat, k + g = ks.length /\ v = .int .i64 k /\ s = .int .i64 (fR 0 (ks.take k)) /\ Below w.heap.size w wr)
   case atStart => exact ⟨0, by omega, rfl, by simp [fR], (Below.refl _ _).alloc (Nat.le_refl _) _⟩
   case round =>
    obtain ⟨k, hkg, rfl, rfl, hbw⟩ := hrel; have HK := zH hkg; have HW := zH hbw; have hszw := hbw.size; have hkl : k <= ks.length := zO; clear hkg hbw; by_cases hlt : k < ks.length
    . obtain ⟨y, hy⟩ := zG hlt; have hC := hk k y hy; have hih := zH (ih k y hy); have hxk := hx k y hy; have HS := zH (show fR 0 (ks.take (k + 1)) = _ by rw [cI hy, wj]); obtain ⟨o1, s1, n1, A1, m1, k1, A2, m2, k2, hL⟩ := hxk.shape; generalize C k = L at hC hih hxk hL; subst hL; clear hy hxk hk hx ih; have hB0 := zH ((HB.o.trans (HW.o.mono hsz0))); obtain ⟨a, rfl, ha, haa, d0, d1, d2, d3, d4⟩ := eh (hC.under hB0.o); clear hC; go_wp2_with (go_at_call 88; refine (hih.o _ (hB0.o.alloc zO _)).mono ?_; rintro e w1 ⟨rfl, hb1⟩)
      all_goals
       go_roundg (ks.length - (k + 1))
       case measure => have := HK.o; omega
       case rel => exact ⟨k + 1, by omega, by go_num, by rw [HS.o]; congr 1; omega, (HW.o.alloc zO _).trans (hb1.mono (by simp; omega))⟩
    . have hke : k = ks.length := by omega
      have HKE := zH hke; clear hke; go_wp2_with fail
      go_ret; exact ⟨iz (by rw [HKE.o, List.take_length, lV]), HW.o⟩
end Go.Proofs.YtiholfmmphcbeaaGreatDoor
