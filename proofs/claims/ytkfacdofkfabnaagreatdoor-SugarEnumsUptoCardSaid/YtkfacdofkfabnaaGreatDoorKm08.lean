import Derived.Below
import Derived.BigGuardPart
import Derived.BigQuiet
import Derived.Deep.LoopGhost
import Derived.Deep.QuietTactic
import Derived.Deep.RegionHeld3
import Derived.Lib.Hide
import Derived.OwnWalk
import Derived.Test.YtkfacdofkfabnaaGreatDoorChecked
import Derived.Test.YtkfacdofkfabnaaGreatDoorKm07
set_option maxHeartbeats 2000000
namespace Go.Proofs.YtkfacdofkfabnaaGreatDoor
open _root_.Go.Proofs.Tryz
open Go.RowKit
theorem fU (a : Addr) (i j : Nat) : (a.add i).add j = a.add (i + j) := by
 unfold Addr.add; by_cases hi : i = 0 <;> by_cases hj : j = 0 <;> simp [hi, hj, Nat.add_assoc]
theorem bL (a : Addr) (i : Nat) : (a.add i).block = a.block := by unfold Addr.add; split <;> rfl
theorem add_zero (a : Addr) : a.add 0 = a := by simp [Addr.add]
theorem bZ (a : Addr) (i f : Nat) (hf : 0 < f) : (a.add i).add f = { block := (a.add i).block, off := (a.add i).off + f } := by
 unfold Addr.add; by_cases hi : i = 0 <;> simp [hi, Nat.pos_iff_ne_zero.1 hf]
def cr (w : World) (a : Addr) (L : List Value) : Prop := ∀ (j : Nat) u, L[j]? = some u -> w.cell? (a.add j) = some u
theorem cr.below {w w' : World} {B : Nat} {a : Addr} {L : List Value} (h : cr w a L) (hb : Below B w w') (ha : a.block < B) : cr w' a L :=
 λ j u hu => (hb.cell (p := a.add j) (by rw [bL]; exact ha)).trans (h j u hu)
theorem cr.lt {w : World} {a : Addr} {L : List Value} (h : cr w a L) (hL : 0 < L.length) : a.block < w.heap.size := by
 have := World.block_lt_of_cell? w _ (h 0 _ (List.getElem?_eq_getElem hL)); rwa [bL] at this
theorem cr.under {w w' : World} {a : Addr} {L : List Value} (h : cr w a L) (hb : Below w.heap.size w w') : cr w' a L := by
 rcases Nat.eq_zero_or_pos L.length with h0 | h0
 . intro j u hu; rw [List.eq_nil_of_length_eq_zero h0] at hu; cases hu
 . exact h.below hb (h.lt h0)
def cp (w : World) (A : Option Addr) (k : Nat) (L : List Value) : Prop := ∃ a, A = some a /\ cr w (a.add (k * L.length)) L
theorem cp.under {w w' : World} {A : Option Addr} {k : Nat} {L : List Value} (h : cp w A k L) (hb : Below w.heap.size w w') : cp w' A k L := by
 obtain ⟨a, e, h⟩ := h; exact ⟨a, e, h.under hb⟩
def aw {X : Type} (w : World) (R : List Value -> X -> Prop) (v : Value) (l : List X) : Prop :=
 ∃ A c, v = .slice A l.length c /\ l.length <= c /\ c <= maxLen /\ ∀ (i : Nat) x, l[i]? = some x -> ∃ L, cp w A i L /\ R L x
theorem aw.mono {X : Type} {w w' : World} {R R' : List Value -> X -> Prop} {v : Value} {l : List X} (h : aw w R v l) (hb : Below w.heap.size w w') (hR : ∀ L x, R L x -> R' L x) : aw w' R' v l := by
 obtain ⟨A, c, rfl, h1, h2, h3⟩ := h; refine ⟨A, c, rfl, h1, h2, λ i x hx => ?_⟩; obtain ⟨L, h4, h5⟩ := h3 i x hx; exact ⟨L, h4.under hb, hR L x h5⟩
def iw (L : List Value) (x : Tx) : Prop := L = [.string (str x)] /\ x.length <= maxLen
abbrev aH (w : World) (v : Value) (l : List Tx) : Prop := aw w iw v l
theorem aH.under {w w' : World} {v : Value} {l : List Tx} (h : aH w v l) (hb : Below w.heap.size w w') : aH w' v l := aw.mono h hb λ _ _ h => h
def gY (n : Int) : Prop := -9223372036854775808 <= n /\ n <= 9223372036854775807
inductive a7 (w : World) : List Value -> Ex -> Prop
 | mk {op : Int} {nm : Tx} {n : Int} {cs : List Tx} {ks : List Ex} {cv : Value} {A : Option Addr} {c : Nat} {C : Nat -> List Value}
   (hop : gY op) (hnm : nm.length <= maxLen) (hn : gY n) (hcs : aH w cv cs) (hl : ks.length <= c) (hc : c <= maxLen)
   (hk : ∀ (i : Nat) k, ks[i]? = some k -> cp w A i (C i)) (hx : ∀ (i : Nat) k, ks[i]? = some k -> a7 w (C i) k) :
   a7 w [.int .i64 op, .string (str nm), .int .i64 n, cv, .slice A ks.length c] (.mk op nm n cs ks)
theorem a7.under {w w' : World} {L : List Value} {x : Ex} (h : a7 w L x) (hb : Below w.heap.size w w') : a7 w' L x := by
 induction h with
 | mk hop hnm hn hcs hl hc hk hx ih => exact .mk hop hnm hn (hcs.under hb) hl hc (λ i k h => (hk i k h).under hb) (λ i k h => ih i k h)
theorem a7.len {w : World} {L : List Value} {x : Ex} (h : a7 w L x) : L.length = 5 := by cases h; rfl
theorem a7.shape {w : World} {L : List Value} {x : Ex} (h : a7 w L x) : ∃ o s n A1 n1 k1 A2 n2 k2, L = [.int .i64 o, .string s, .int .i64 n, .slice A1 n1 k1, .slice A2 n2 k2] := by
 cases h with
 | mk hop hnm hn hcs hl hc hk hx =>
   obtain ⟨A1, c1, rfl, _⟩ := hcs; exact ⟨_, _, _, _, _, _, _, _, _, rfl⟩
theorem et {w : World} {A : Option Addr} {k : Nat} {c0 : Value} (h : cp w A k [c0]) :
  ∃ a, A = some a /\ a.block < w.heap.size /\ (a.add (k * 1)).block < w.heap.size /\ w.cell? (a.add (k * 1)) = some c0 := by
 obtain ⟨a, rfl, h⟩ := h; have h : cr w (a.add (k * 1)) [c0] := h; have h0 := h 0 _ rfl; rw [add_zero] at h0; refine ⟨a, rfl, ?_, h.lt (by simp), h0⟩
 . have := h.lt (by simp); rwa [bL] at this
theorem mT {w : World} {A : Option Addr} {k : Nat} {c0 c1 : Value} (h : cp w A k [c0, c1]) :
  ∃ a, A = some a /\ a.block < w.heap.size /\ (a.add (k * 2)).block < w.heap.size /\ w.cell? (a.add (k * 2)) = some c0 /\ w.cell? { block := (a.add (k * 2)).block, off := (a.add (k * 2)).off + 1 } = some c1 := by
 obtain ⟨a, rfl, h⟩ := h; have h : cr w (a.add (k * 2)) [c0, c1] := h; have h0 := h 0 _ rfl; rw [add_zero] at h0; refine ⟨a, rfl, ?_, h.lt (by simp), h0, ?_⟩
 . have := h.lt (by simp); rwa [bL] at this
 . rw [<- bZ _ _ _ zO]; exact h 1 _ rfl
theorem il {w : World} {A : Option Addr} {k : Nat} {c0 c1 c2 : Value} (h : cp w A k [c0, c1, c2]) :
  ∃ a, A = some a /\ a.block < w.heap.size /\ (a.add (k * 3)).block < w.heap.size /\ w.cell? (a.add (k * 3)) = some c0 /\ w.cell? { block := (a.add (k * 3)).block, off := (a.add (k * 3)).off + 1 } = some c1 /\ w.cell? { block := (a.add (k * 3)).block, off := (a.add (k * 3)).off + 2 } = some c2 := by
 obtain ⟨a, rfl, h⟩ := h; have h : cr w (a.add (k * 3)) [c0, c1, c2] := h; have h0 := h 0 _ rfl; rw [add_zero] at h0; refine ⟨a, rfl, ?_, h.lt (by simp), h0, ?_, ?_⟩
 . have := h.lt (by simp); rwa [bL] at this
 . rw [<- bZ _ _ _ zO]; exact h 1 _ rfl
 . rw [<- bZ _ _ _ zO]; exact h 2 _ rfl
theorem fB {w : World} {A : Option Addr} {k : Nat} {c0 c1 c2 c3 c4 : Value} (h : cp w A k [c0, c1, c2, c3, c4]) :
  ∃ a, A = some a /\ a.block < w.heap.size /\ (a.add (k * 5)).block < w.heap.size /\ w.cell? (a.add (k * 5)) = some c0 /\ w.cell? { block := (a.add (k * 5)).block, off := (a.add (k * 5)).off + 1 } = some c1 /\ w.cell? { block := (a.add (k * 5)).block, off := (a.add (k * 5)).off + 2 } = some c2 /\ w.cell? { block := (a.add (k * 5)).block, off := (a.add (k * 5)).off + 3 } = some c3 /\ w.cell? { block := (a.add (k * 5)).block, off := (a.add (k * 5)).off + 4 } = some c4 := by
 obtain ⟨a, rfl, h⟩ := h; have h : cr w (a.add (k * 5)) [c0, c1, c2, c3, c4] := h; have h0 := h 0 _ rfl; rw [add_zero] at h0; refine ⟨a, rfl, ?_, h.lt (by simp), h0, ?_, ?_, ?_, ?_⟩
 . have := h.lt (by simp); rwa [bL] at this
 . rw [<- bZ _ _ _ zO]; exact h 1 _ rfl
 . rw [<- bZ _ _ _ zO]; exact h 2 _ rfl
 . rw [<- bZ _ _ _ zO]; exact h 3 _ rfl
 . rw [<- bZ _ _ _ zO]; exact h 4 _ rfl
theorem iU {w : World} {A : Option Addr} {k : Nat} {c0 c1 c2 c3 c4 c5 : Value} (h : cp w A k [c0, c1, c2, c3, c4, c5]) :
  ∃ a, A = some a /\ a.block < w.heap.size /\ (a.add (k * 6)).block < w.heap.size /\ w.cell? (a.add (k * 6)) = some c0 /\ w.cell? { block := (a.add (k * 6)).block, off := (a.add (k * 6)).off + 1 } = some c1 /\ w.cell? { block := (a.add (k * 6)).block, off := (a.add (k * 6)).off + 2 } = some c2 /\ w.cell? { block := (a.add (k * 6)).block, off := (a.add (k * 6)).off + 3 } = some c3 /\ w.cell? { block := (a.add (k * 6)).block, off := (a.add (k * 6)).off + 4 } = some c4 /\ w.cell? { block := (a.add (k * 6)).block, off := (a.add (k * 6)).off + 5 } = some c5 := by
 obtain ⟨a, rfl, h⟩ := h; have h : cr w (a.add (k * 6)) [c0, c1, c2, c3, c4, c5] := h; have h0 := h 0 _ rfl; rw [add_zero] at h0; refine ⟨a, rfl, ?_, h.lt (by simp), h0, ?_, ?_, ?_, ?_, ?_⟩
 . have := h.lt (by simp); rwa [bL] at this
 . rw [<- bZ _ _ _ zO]; exact h 1 _ rfl
 . rw [<- bZ _ _ _ zO]; exact h 2 _ rfl
 . rw [<- bZ _ _ _ zO]; exact h 3 _ rfl
 . rw [<- bZ _ _ _ zO]; exact h 4 _ rfl
 . rw [<- bZ _ _ _ zO]; exact h 5 _ rfl
theorem qG {w : World} {A : Option Addr} {k : Nat} {c0 c1 c2 c3 c4 c5 c6 : Value} (h : cp w A k [c0, c1, c2, c3, c4, c5, c6]) :
  ∃ a, A = some a /\ a.block < w.heap.size /\ (a.add (k * 7)).block < w.heap.size /\ w.cell? (a.add (k * 7)) = some c0 /\ w.cell? { block := (a.add (k * 7)).block, off := (a.add (k * 7)).off + 1 } = some c1 /\ w.cell? { block := (a.add (k * 7)).block, off := (a.add (k * 7)).off + 2 } = some c2 /\ w.cell? { block := (a.add (k * 7)).block, off := (a.add (k * 7)).off + 3 } = some c3 /\ w.cell? { block := (a.add (k * 7)).block, off := (a.add (k * 7)).off + 4 } = some c4 /\ w.cell? { block := (a.add (k * 7)).block, off := (a.add (k * 7)).off + 5 } = some c5 /\ w.cell? { block := (a.add (k * 7)).block, off := (a.add (k * 7)).off + 6 } = some c6 := by
 obtain ⟨a, rfl, h⟩ := h; have h : cr w (a.add (k * 7)) [c0, c1, c2, c3, c4, c5, c6] := h; have h0 := h 0 _ rfl; rw [add_zero] at h0; refine ⟨a, rfl, ?_, h.lt (by simp), h0, ?_, ?_, ?_, ?_, ?_, ?_⟩
 . have := h.lt (by simp); rwa [bL] at this
 . rw [<- bZ _ _ _ zO]; exact h 1 _ rfl
 . rw [<- bZ _ _ _ zO]; exact h 2 _ rfl
 . rw [<- bZ _ _ _ zO]; exact h 3 _ rfl
 . rw [<- bZ _ _ _ zO]; exact h 4 _ rfl
 . rw [<- bZ _ _ _ zO]; exact h 5 _ rfl
 . rw [<- bZ _ _ _ zO]; exact h 6 _ rfl
def iH (w : World) (L : List Value) (q : QEq) : Prop := ∃ nv L', L = nv :: L' /\ aH w nv q.names /\ a7 w L' q.e
def d7 (w : World) (L : List Value) (y : eO) : Prop := ∃ L', L = L' ++ [.string (str y.to)] /\ a7 w L' y.cond /\ y.to.length <= maxLen
def bt (w : World) (L : List Value) (s : aM) : Prop := ∃ ev wv, L = [.string (str s.name), ev, wv] /\ s.name.length <= maxLen /\ aw w (iH w) ev s.eqs /\ aw w (d7 w) wv s.ways
def bf (w : World) (L : List Value) (i : a8) : Prop := ∃ L' sv, L = L' ++ [sv] /\ iH w L' i.eq /\ aw w (bt w) sv i.states
def bE (w : World) (L : List Value) (e : dw) : Prop := ∃ cv, L = [.string (str e.name), cv] /\ e.name.length <= maxLen /\ aH w cv e.cons
def ch (w : World) (L : List Value) (n : aY) : Prop := ∃ fv iv ov xv, L = [.string (str n.name), fv, iv, ov, xv] /\ n.name.length <= maxLen /\ aH w fv n.funs /\ aH w iv n.ins /\ aH w ov n.outs /\ aw w (bf w) xv n.items
def ew (w : World) (L : List Value) (p : cZ) : Prop := ∃ ev nv, L = [ev, nv] /\ aw w (bE w) ev p.enums /\ aw w (ch w) nv p.nodes
section
variable {w w' : World} {L : List Value}
theorem iH.under {q : QEq} (h : iH w L q) (hb : Below w.heap.size w w') : iH w' L q := by
 obtain ⟨nv, L', rfl, h1, h2⟩ := h; exact ⟨nv, L', rfl, h1.under hb, h2.under hb⟩
theorem d7.under {y : eO} (h : d7 w L y) (hb : Below w.heap.size w w') : d7 w' L y := by
 obtain ⟨L', rfl, h1, h2⟩ := h; exact ⟨L', rfl, h1.under hb, h2⟩
theorem bt.under {s : aM} (h : bt w L s) (hb : Below w.heap.size w w') : bt w' L s := by
 obtain ⟨ev, wv, rfl, h0, h1, h2⟩ := h; exact ⟨ev, wv, rfl, h0, h1.mono hb λ _ _ h => h.under hb, h2.mono hb λ _ _ h => h.under hb⟩
theorem bf.under {i : a8} (h : bf w L i) (hb : Below w.heap.size w w') : bf w' L i := by
 obtain ⟨L', sv, rfl, h1, h2⟩ := h; exact ⟨L', sv, rfl, h1.under hb, h2.mono hb λ _ _ h => h.under hb⟩
theorem bE.under {e : dw} (h : bE w L e) (hb : Below w.heap.size w w') : bE w' L e := by
 obtain ⟨cv, rfl, h0, h1⟩ := h; exact ⟨cv, rfl, h0, h1.under hb⟩
theorem ch.under {n : aY} (h : ch w L n) (hb : Below w.heap.size w w') : ch w' L n := by
 obtain ⟨fv, iv, ov, xv, rfl, h0, h1, h2, h3, h4⟩ := h; exact ⟨fv, iv, ov, xv, rfl, h0, h1.under hb, h2.under hb, h3.under hb, h4.mono hb λ _ _ h => h.under hb⟩
theorem ew.under {p : cZ} (h : ew w L p) (hb : Below w.heap.size w w') : ew w' L p := by
 obtain ⟨ev, nv, rfl, h1, h2⟩ := h; exact ⟨ev, nv, rfl, h1.mono hb λ _ _ h => h.under hb, h2.mono hb λ _ _ h => h.under hb⟩
theorem aw.shape {X : Type} {R : List Value -> X -> Prop} {v : Value} {l : List X} (h : aw w R v l) : ∃ A n k, v = .slice A n k := by
 obtain ⟨A, c, rfl, _⟩ := h; exact ⟨A, _, c, rfl⟩
theorem iH.shape {q : QEq} (h : iH w L q) : ∃ A0 n0 k0 o1 s2 o3 A4 n4 k4 A5 n5 k5, L = [.slice A0 n0 k0, .int .i64 o1, .string s2, .int .i64 o3, .slice A4 n4 k4, .slice A5 n5 k5] := by
 obtain ⟨nv, L', rfl, h1, h2⟩ := h; obtain ⟨_, _, _, rfl⟩ := aw.shape h1; obtain ⟨_, _, _, _, _, _, _, _, _, rfl⟩ := h2.shape; exact ⟨_, _, _, _, _, _, _, _, _, _, _, _, rfl⟩
theorem d7.shape {y : eO} (h : d7 w L y) : ∃ o0 s1 o2 A3 n3 k3 A4 n4 k4 s5, L = [.int .i64 o0, .string s1, .int .i64 o2, .slice A3 n3 k3, .slice A4 n4 k4, .string s5] := by
 obtain ⟨L', rfl, h2, h1⟩ := h; obtain ⟨_, _, _, _, _, _, _, _, _, rfl⟩ := h2.shape; exact ⟨_, _, _, _, _, _, _, _, _, _, rfl⟩
theorem bt.shape {s : aM} (h : bt w L s) : ∃ s0 A1 n1 k1 A2 n2 k2, L = [.string s0, .slice A1 n1 k1, .slice A2 n2 k2] := by
 obtain ⟨ev, wv, rfl, _, h1, h2⟩ := h; obtain ⟨_, _, _, rfl⟩ := aw.shape h1; obtain ⟨_, _, _, rfl⟩ := aw.shape h2; exact ⟨_, _, _, _, _, _, _, rfl⟩
theorem bf.shape {i : a8} (h : bf w L i) : ∃ A0 n0 k0 o1 s2 o3 A4 n4 k4 A5 n5 k5 A6 n6 k6, L = [.slice A0 n0 k0, .int .i64 o1, .string s2, .int .i64 o3, .slice A4 n4 k4, .slice A5 n5 k5, .slice A6 n6 k6] := by
 obtain ⟨L', sv, rfl, h1, h2⟩ := h; obtain ⟨_, _, _, _, _, _, _, _, _, _, _, _, rfl⟩ := h1.shape; obtain ⟨_, _, _, rfl⟩ := aw.shape h2; exact ⟨_, _, _, _, _, _, _, _, _, _, _, _, _, _, _, rfl⟩
theorem bE.shape {e : dw} (h : bE w L e) : ∃ s0 A1 n1 k1, L = [.string s0, .slice A1 n1 k1] := by
 obtain ⟨cv, rfl, _, h1⟩ := h; obtain ⟨_, _, _, rfl⟩ := aw.shape h1; exact ⟨_, _, _, _, rfl⟩
theorem ch.shape {n : aY} (h : ch w L n) : ∃ s0 A1 n1 k1 A2 n2 k2 A3 n3 k3 A4 n4 k4, L = [.string s0, .slice A1 n1 k1, .slice A2 n2 k2, .slice A3 n3 k3, .slice A4 n4 k4] := by
 obtain ⟨fv, iv, ov, xv, rfl, _, h1, h2, h3, h4⟩ := h; obtain ⟨_, _, _, rfl⟩ := aw.shape h1; obtain ⟨_, _, _, rfl⟩ := aw.shape h2; obtain ⟨_, _, _, rfl⟩ := aw.shape h3; obtain ⟨_, _, _, rfl⟩ := aw.shape h4; exact ⟨_, _, _, _, _, _, _, _, _, _, _, _, _, rfl⟩
theorem a7.open_ {op : Int} {nm : Tx} {n : Int} {cs : List Tx} {ks : List Ex} (h : a7 w L (.mk op nm n cs ks)) :
  ∃ cv kv, L = [.int .i64 op, .string (str nm), .int .i64 n, cv, kv] /\ gY op /\ nm.length <= maxLen /\ gY n /\ aH w cv cs /\ aw w (a7 w) kv ks := by
 cases h with
 | mk hop hnm hn hcs hl hc hk hx => exact ⟨_, _, rfl, hop, hnm, hn, hcs, _, _, rfl, hl, hc, λ i k hi => ⟨_, hk i k hi, hx i k hi⟩⟩
end
def ft {X : Type} (f : X -> X -> Bool) (la lb : List X) (k : Nat) : Prop := ∀ (i : Nat) x y, i < k -> la[i]? = some x -> lb[i]? = some y -> f x y = true
theorem ft.zero {X : Type} {f : X -> X -> Bool} {la lb : List X} : ft f la lb 0 := λ _ _ _ h => absurd h zO
theorem ft.succ {X : Type} {f : X -> X -> Bool} {la lb : List X} {k : Nat} (h : ft f la lb k) {x y : X} (hx : la[k]? = some x) (hy : lb[k]? = some y) (hf : f x y = true) : ft f la lb (k + 1) := by
 intro i a b hi ha hb; by_cases e : i = k
 . subst e; rw [ha] at hx; rw [hb] at hy; cases hx; cases hy; exact hf
 . exact h i a b zO ha hb
theorem ft.all {X : Type} {f : X -> X -> Bool} {la lb : List X} {k : Nat} (h : ft f la lb k) (hl : la.length = lb.length) (hk : k = la.length) : dB f la lb = true :=
 xN hl λ i x y hx hy => h i x y (by rw [hk]; exact (List.getElem?_eq_some_iff.1 hx).1) hx hy
theorem gi {B : Nat} {a w : World} (h : Below B a w) (n : Nat) : Below B a (w.drewN n) := ⟨h.os, h.tape, h.output, h.size, h.block⟩
theorem ak {w : World} {b : Nat} {o : Obj} (h : w.heap[b]? = some o) : b < w.heap.size := (Array.getElem?_eq_some_iff.1 h).1
def uo (n : Int) (w : World) (e : Ending) (w' : World) : Prop := e = .returned (.int .i64 n) /\ Below w.heap.size w w'
def aA (b : Bool) (w : World) (e : Ending) (w' : World) : Prop := e = .returned (.bool b) /\ Below w.heap.size w w'
theorem bo {X : Type} {l : List X} {k : Nat} {x : X} (h : l[k]? = some x) : l.take (k + 1) = l.take k ++ [x] := by
 obtain ⟨hk, rfl⟩ := List.getElem?_eq_some_iff.1 h; rw [List.take_succ_eq_append_getElem hk]
theorem EC {w0 : World} {va vb : Value} {la lb : List Ex} (ha : aw w0 (a7 w0) va la) (hb : aw w0 (a7 w0) vb lb)
  (hf : ∀ x ∈ la, ∀ y ∈ lb, ∀ L M, a7 w0 L x -> a7 w0 M y -> ∀ w, Below w0.heap.size w0 w -> Calls prog 156 #[.agg L.toArray, .agg M.toArray] w (aA (ma x y) w)) :
  ∀ w, Below w0.heap.size w0 w -> Calls prog 185 #[va, vb, .func (.func 156) #[] #[]] w (aA (dB ma la lb) w) := by
 intro w hw; obtain ⟨A, ca, rfl, hca, hma, hea⟩ := ha; obtain ⟨B, cb, rfl, hcb, hmb, heb⟩ := hb; have hla : la.length <= 9223372036854775807 := (by unfold maxLen at hma; omega); have HW0 := zH hw; have hsz0 := hw.size; clear hw hca hma hcb hmb; by_cases hlen : la.length = lb.length
 . have hd : ((la.length : Int) != (lb.length : Int)) = false := by simp [hlen]
   have HL := zH hlen; clear hlen; go_enter func185, ntmps185
   go_wp2_with fail
   go_loopg [17] la.length (λ g v wr => ∃ k : Nat, k + g = la.length /\ v = .int .i64 k /\ ft ma la lb k /\ Below w.heap.size w wr)
   case atStart => exact ⟨0, by omega, rfl, ft.zero, Below.refl _ _⟩
   case round =>
    obtain ⟨k, hkg, rfl, hto, hbw⟩ := hrel; have HK := zH hkg; have HW := zH hbw; have HT := zH hto; have hszw := hbw.size; have hkl : k <= la.length := zO; clear hkg hbw hto; by_cases hlt : k < la.length
    . obtain ⟨x, hx⟩ := zG hlt; have hltb : k < lb.length := (by rw [<- HL.o]; exact hlt); obtain ⟨y, hy⟩ := zG hltb; obtain ⟨L, hEL, hRL⟩ := hea k x hx; obtain ⟨M, hEM, hRM⟩ := heb k y hy; obtain ⟨po0, ps1, po2, pA3, pn3, pk3, pA4, pn4, pk4, rfl⟩ := a7.shape hRL; obtain ⟨qo0, qs1, qo2, qA3, qn3, qk3, qA4, qn4, qk4, rfl⟩ := a7.shape hRM; have HF := zH (hf x (List.mem_of_getElem? hx) y (List.mem_of_getElem? hy) _ _ hRL hRM); have HB0 := zH (HW0.o.trans (HW.o.mono hsz0)); have HX := zH hx; have HY := zH hy; obtain ⟨a, rfl, hab, haa, d0, d1, d2, d3, d4⟩ := fB (hEL.under HB0.o); obtain ⟨b, rfl, hbb, hbc, e0, e1, e2, e3, e4⟩ := fB (hEM.under HB0.o); clear hRL hRM hEL hEM hea heb hf hx hy; cases hfx : ma x y
      . have HFX := zH hfx; rw [hfx] at HF; clear hfx; go_wp2_with (go_at_call 156; refine (HF.o _ ((HB0.o.alloc zO _).alloc (by simp; omega) _)).mono ?_; rintro e w1 ⟨rfl, hb1⟩)
        go_ret; exact ⟨au (By HX.o HY.o HFX.o).symm, ((HW.o.alloc zO _).alloc (by simp; omega) _).trans (hb1.mono (by simp; omega))⟩
      . have HFX := zH hfx; rw [hfx] at HF; clear hfx; go_wp2_with (go_at_call 156; refine (HF.o _ ((HB0.o.alloc zO _).alloc (by simp; omega) _)).mono ?_; rintro e w1 ⟨rfl, hb1⟩)
        go_roundg (la.length - (k + 1))
        case measure => have := HK.o; omega
        case rel => exact ⟨k + 1, by omega, by go_num, HT.o.succ HX.o HY.o HFX.o, ((HW.o.alloc zO _).alloc (by simp; omega) _).trans (hb1.mono (by simp; omega))⟩
    . have hke : k = la.length := by omega
      have HKE := zH hke; clear hke; go_wp2_with fail
      go_ret; exact ⟨au (HT.o.all HL.o HKE.o).symm, HW.o⟩
 . have hd : ((la.length : Int) != (lb.length : Int)) = true := by simp; omega
   have HL := zH hlen; clear hlen; go_enter func185, ntmps185
   go_wp2_with fail
   go_ret; exact ⟨au (xL HL.o).symm, Below.refl _ _⟩
theorem FZ {a b : Tx} : str a = str b ↔ a = b := ⟨λ h => by have := congrArg (λ s => s.data.toList) h; simpa [aZ] using this, λ h => by rw [h]⟩
theorem ey (a : Tx) : (str a).toList = a := by rw [Lib.toList_data, aZ]
theorem ip {w w1 : World} {ca cb : Array Value} {Ta Tb : TypeId} (hb : Below ((w.alloc (.cells ca Ta)).alloc (.cells cb Tb)).heap.size ((w.alloc (.cells ca Ta)).alloc (.cells cb Tb)) w1) : w1.heap[w.heap.size]? = some (.cells ca Ta (0, 0)) := by
 rw [hb.block w.heap.size (by simp; omega), Below.heap_alloc _ _ _ (by simp)]; exact heap_alloc_new w _
theorem im {w w1 : World} {ca cb : Array Value} {Ta Tb : TypeId} (hb : Below ((w.alloc (.cells ca Ta)).alloc (.cells cb Tb)).heap.size ((w.alloc (.cells ca Ta)).alloc (.cells cb Tb)) w1) : w1.heap[w.heap.size + 1]? = some (.cells cb Tb (0, 0)) := by
 rw [hb.block (w.heap.size + 1) (by simp)]; have := heap_alloc_new (w.alloc (.cells ca Ta)) (.cells cb Tb); simpa using this
theorem ab {w w1 : World} {g : Nat} {o : Obj} (hb : Below w.heap.size w w1) (h : w.heap[g]? = some o) : w1.heap[g]? = some o := (hb.block g (ak h)).trans h
theorem bG {w : World} {N : Nat} {T : TypeId} {v0 v1 : Value} (h : w.heap[N]? = some (.cells #[v0, v1] T (0, 0))) :
  w.cell? ⟨N, 0, none⟩ = some v0 /\ w.cell? ⟨N, 1, none⟩ = some v1 := by
 simp [World.cell?, h]
theorem eG {w : World} {N : Nat} {T : TypeId} {v0 v1 v2 : Value} (h : w.heap[N]? = some (.cells #[v0, v1, v2] T (0, 0))) :
  w.cell? ⟨N, 0, none⟩ = some v0 /\ w.cell? ⟨N, 1, none⟩ = some v1 /\ w.cell? ⟨N, 2, none⟩ = some v2 := by
 simp [World.cell?, h]
theorem aN {w : World} {N : Nat} {T : TypeId} {v0 v1 v2 v3 v4 : Value} (h : w.heap[N]? = some (.cells #[v0, v1, v2, v3, v4] T (0, 0))) :
  w.cell? ⟨N, 0, none⟩ = some v0 /\ w.cell? ⟨N, 1, none⟩ = some v1 /\ w.cell? ⟨N, 2, none⟩ = some v2 /\ w.cell? ⟨N, 3, none⟩ = some v3 /\ w.cell? ⟨N, 4, none⟩ = some v4 := by
 simp [World.cell?, h]
theorem uP {w : World} {N : Nat} {T : TypeId} {v0 v1 v2 v3 v4 v5 : Value} (h : w.heap[N]? = some (.cells #[v0, v1, v2, v3, v4, v5] T (0, 0))) :
  w.cell? ⟨N, 0, none⟩ = some v0 /\ w.cell? ⟨N, 1, none⟩ = some v1 /\ w.cell? ⟨N, 2, none⟩ = some v2 /\ w.cell? ⟨N, 3, none⟩ = some v3 /\ w.cell? ⟨N, 4, none⟩ = some v4 /\ w.cell? ⟨N, 5, none⟩ = some v5 := by
 simp [World.cell?, h]
theorem iO {w : World} {N : Nat} {T : TypeId} {v0 v1 v2 v3 v4 v5 v6 : Value} (h : w.heap[N]? = some (.cells #[v0, v1, v2, v3, v4, v5, v6] T (0, 0))) :
  w.cell? ⟨N, 0, none⟩ = some v0 /\ w.cell? ⟨N, 1, none⟩ = some v1 /\ w.cell? ⟨N, 2, none⟩ = some v2 /\ w.cell? ⟨N, 3, none⟩ = some v3 /\ w.cell? ⟨N, 4, none⟩ = some v4 /\ w.cell? ⟨N, 5, none⟩ = some v5 /\ w.cell? ⟨N, 6, none⟩ = some v6 := by
 simp [World.cell?, h]
theorem AK {l m : List Tx} {k : Nat} (hl : l.length = m.length) (h : ft (λ a b => a == b) l m k) (hk : k = l.length) : l = m := by
 have := h.all hl hk; exact (xM (f := λ a b : Tx => a == b) (by simp) l m).1 this
theorem qD {w0 : World} {va vb : Value} {la lb : List Tx} (ha : aH w0 va la) (hb : aH w0 vb lb) :
  ∀ w, Below w0.heap.size w0 w -> Calls prog 184 #[va, vb] w (aA (la == lb) w) := by
 intro w hw; obtain ⟨A, ca, rfl, hca, hma, hea⟩ := ha; obtain ⟨B, cb, rfl, hcb, hmb, heb⟩ := hb; have hla : la.length <= 9223372036854775807 := (by unfold maxLen at hma; omega); have HW0 := zH hw; have hsz0 := hw.size; clear hw hca hma hcb hmb; by_cases hlen : la.length = lb.length
 . have hd : ((la.length : Int) != (lb.length : Int)) = false := by simp [hlen]
   have HL := zH hlen; clear hlen; go_enter func184, ntmps184
   go_wp2_with fail
   go_loopg [13] la.length (λ g v wr => ∃ k : Nat, k + g = la.length /\ v = .int .i64 k /\ ft (λ a b => a == b) la lb k /\ Below w.heap.size w wr)
   case atStart => exact ⟨0, by omega, rfl, ft.zero, Below.refl _ _⟩
   case round =>
    obtain ⟨k, hkg, rfl, hto, hbw⟩ := hrel; have HK := zH hkg; have HW := zH hbw; have HT := zH hto; have hszw := hbw.size; have hkl : k <= la.length := zO; clear hkg hbw hto; by_cases hlt : k < la.length
    . obtain ⟨x, hx⟩ := zG hlt; have hltb : k < lb.length := (by rw [<- HL.o]; exact hlt); obtain ⟨y, hy⟩ := zG hltb; obtain ⟨L, hEL, rfl, _⟩ := hea k x hx; obtain ⟨M, hEM, rfl, _⟩ := heb k y hy; have HB0 := zH (HW0.o.trans (HW.o.mono hsz0)); have HX := zH hx; have HY := zH hy; obtain ⟨a, rfl, hab, haa, d0⟩ := et (hEL.under HB0.o); obtain ⟨b, rfl, hbb, hbc, e0⟩ := et (hEM.under HB0.o); rw [Nat.mul_one] at d0 e0; clear hEL hEM hea heb hx hy; go_wp2_with fail
      go_quiet (fail)
      go_wp2_with fail
      all_goals first
       | (have hxy : x = y := by
           have h : (!(str x).toList == (str y).toList) = false := (by assumption); simpa [ey] using h
          have HXY := zH hxy; clear hxy; go_roundg (la.length - (k + 1))
          case measure => have := HK.o; omega
          case rel => exact ⟨k + 1, by omega, by go_num, HT.o.succ HX.o HY.o (by simp [HXY.o]), gi HW.o _⟩)
       | (have hxy : x ≠ y := by
           have h : (!(str x).toList == (str y).toList) = true := (by assumption); simpa [ey] using h
          go_ret; exact ⟨au (by rw [Eq.comm, Bool.eq_false_iff]; intro e; simp at e; subst e; have h1 := HX.o; rw [HY.o] at h1; exact hxy (Option.some.inj h1).symm), gi HW.o _⟩)
    . have hke : k = la.length := by omega
      have HKE := zH hke; clear hke; go_wp2_with fail
      go_ret; exact ⟨au (by rw [AK HL.o HT.o HKE.o]; simp), HW.o⟩
 . have hd : ((la.length : Int) != (lb.length : Int)) = true := by simp; omega
   have HL := zH hlen; clear hlen; go_enter func184, ntmps184
   go_wp2_with fail
   go_ret; exact ⟨au (by rw [Eq.comm, Bool.eq_false_iff]; intro e; simp at e; exact HL.o (by rw [e])), Below.refl _ _⟩
theorem tg {w0 : World} : ∀ (x : Ex) (y : Ex) (L M : List Value), a7 w0 L x -> a7 w0 M y -> ∀ w, Below w0.heap.size w0 w -> Calls prog 156 #[.agg L.toArray, .agg M.toArray] w (aA (ma x y) w) := by
 intro x; induction x using Ex.ind with
 | h op nm n cs ks ih =>
   rintro ⟨op', nm', n', cs', ks'⟩ L M hL hM w hw; obtain ⟨cv, kv, rfl, _, _, _, hcs, hks⟩ := hL.open_; obtain ⟨cv', kv', rfl, _, _, _, hcs', hks'⟩ := hM.open_; have hE := zH (qD hcs hcs'); have hF := zH (EC hks hks' (λ x hx y _ L M h1 h2 => ih x hx y L M h1 h2)); obtain ⟨A1, n1, k1, rfl⟩ := aw.shape hcs; obtain ⟨A2, n2, k2, rfl⟩ := aw.shape hks; obtain ⟨B1, m1, j1, rfl⟩ := aw.shape hcs'; obtain ⟨B2, m2, j2, rfl⟩ := aw.shape hks'; have HW := zH hw; have hsz := hw.size; clear hw hcs hks hcs' hks' hL hM ih; go_enter func156, ntmps156
   go_wp2_with (first | (go_at_call 184; (with_reducible refine (hE.o _ ?hB).mono ?_); (case hB => exact (HW.o.alloc zO _).alloc (by simp; omega) _); rintro e w1 ⟨rfl, hb1⟩; have hs1 := hb1.size; simp at hs1; have HB1 := zH (((HW.o.alloc zO _).alloc (by simp; omega) _).trans (hb1.mono (by simp; omega))); have HC1 := zH ((((Below.refl _ _).alloc (Nat.le_refl _) _).alloc (by simp) _).trans (hb1.mono (by simp; omega))); have ba1 := ip hb1; have bb1 := im hb1; obtain ⟨x1_0, x1_1, x1_2, x1_3, x1_4⟩ := aN ba1; obtain ⟨y1_0, y1_1, y1_2, y1_3, y1_4⟩ := aN bb1; have BA1 := zH ba1; have BB1 := zH bb1; clear ba1 bb1; clear hb1) | (go_at_call 185; (with_reducible refine (hF.o _ ?hB).mono ?_); (case hB => exact HB1.o); rintro e w2 ⟨rfl, hb2⟩; have hs2 := hb2.size; have HB2 := zH ((HB1.o).trans (hb2.mono zO)); have HC2 := zH ((HC1.o).trans (hb2.mono zO)); clear hb2))
   all_goals go_ret
   all_goals refine ⟨au ?_, ?_⟩
   all_goals first | exact HC2.o | exact HC1.o | exact ((Below.refl _ _).alloc (Nat.le_refl _) _).alloc (by simp) _ | skip
   all_goals simp_all [ma, ey, Bw]
theorem Dl {w0 : World} {L : List Value} {x : Ex} (h : a7 w0 L x) : ∀ w, Below w0.heap.size w0 w -> Calls prog 78 #[.agg L.toArray] w (uo (rO x) w) := by
 induction h with
 | @mk op nm n cs ks cv A c C hop hnm hn hcs hl hc hk hx ih =>
   intro w hb; have HB := zH hb; have hlm : ks.length <= 9223372036854775807 := (by unfold maxLen at hc; omega); have hsz0 := hb.size; clear hop hn hcs hb hl hc hnm; go_enter func78, ntmps78
   go_wp2_with fail
   go_loopg [3, 9] ks.length (λ g s v wr => ∃ k : Nat, k + g = ks.length /\ v = .int .i64 k /\ s = .int .i64 (iK 1 (ks.take k)) /\ Below w.heap.size w wr)
   case atStart => exact ⟨0, by omega, rfl, by simp [iK], (Below.refl _ _).alloc (Nat.le_refl _) _⟩
   case round =>
    obtain ⟨k, hkg, rfl, rfl, hbw⟩ := hrel; have HK := zH hkg; have HW := zH hbw; have hszw := hbw.size; have hkl : k <= ks.length := zO; clear hkg hbw; by_cases hlt : k < ks.length
    . obtain ⟨y, hy⟩ := zG hlt; have hC := hk k y hy; have hih := zH (ih k y hy); have hxk := hx k y hy; have HS := zH (show iK 1 (ks.take (k + 1)) = _ by rw [bo hy, xE]); obtain ⟨o1, s1, n1, A1, m1, k1, A2, m2, k2, hL⟩ := hxk.shape; generalize C k = L at hC hih hxk hL; subst hL; clear hy hxk hk hx ih; have hB0 := zH ((HB.o.trans (HW.o.mono hsz0))); obtain ⟨a, rfl, ha, haa, d0, d1, d2, d3, d4⟩ := fB (hC.under hB0.o); clear hC; go_wp2_with (go_at_call 78; refine (hih.o _ (hB0.o.alloc zO _)).mono ?_; rintro e w1 ⟨rfl, hb1⟩)
      go_roundg (ks.length - (k + 1))
      case measure => have := HK.o; omega
      case rel => exact ⟨k + 1, by omega, by go_num, by rw [HS.o], (HW.o.alloc zO _).trans (hb1.mono (by simp; omega))⟩
    . have hke : k = ks.length := by omega
      have HKE := zH hke; clear hke; go_wp2_with fail
      go_ret; exact ⟨hG (by rw [HKE.o, List.take_length, rO]), HW.o⟩
theorem sK {w0 : World} {L : List Value} {x : Ex} (h : a7 w0 L x) : ∀ w, Below w0.heap.size w0 w -> Calls prog 77 #[.agg L.toArray] w (uo (lQ x) w) := by
 induction h with
 | @mk op nm n cs ks cv A c C hop hnm hn hcs hl hc hk hx ih =>
   intro w hb; have HB := zH hb; have hlm : ks.length <= 9223372036854775807 := (by unfold maxLen at hc; omega); have hsz0 := hb.size; clear hop hn hcs hb hl hc hnm; go_enter func77, ntmps77
   go_wp2_with fail
   go_loopg [3, 9] ks.length (λ g s v wr => ∃ k : Nat, k + g = ks.length /\ v = .int .i64 k /\ s = .int .i64 (fL 0 (ks.take k)) /\ Below w.heap.size w wr)
   case atStart => exact ⟨0, by omega, rfl, by simp [fL], (Below.refl _ _).alloc (Nat.le_refl _) _⟩
   case round =>
    obtain ⟨k, hkg, rfl, rfl, hbw⟩ := hrel; have HK := zH hkg; have HW := zH hbw; have hszw := hbw.size; have hkl : k <= ks.length := zO; clear hkg hbw; by_cases hlt : k < ks.length
    . obtain ⟨y, hy⟩ := zG hlt; have hC := hk k y hy; have hih := zH (ih k y hy); have hxk := hx k y hy; have HS := zH (show fL 0 (ks.take (k + 1)) = _ by rw [bo hy, wE]); obtain ⟨o1, s1, n1, A1, m1, k1, A2, m2, k2, hL⟩ := hxk.shape; generalize C k = L at hC hih hxk hL; subst hL; clear hy hxk hk hx ih; have hB0 := zH ((HB.o.trans (HW.o.mono hsz0))); obtain ⟨a, rfl, ha, haa, d0, d1, d2, d3, d4⟩ := fB (hC.under hB0.o); clear hC; go_wp2_with (go_at_call 77; refine (hih.o _ (hB0.o.alloc zO _)).mono ?_; rintro e w1 ⟨rfl, hb1⟩)
      all_goals
       go_roundg (ks.length - (k + 1))
       case measure => have := HK.o; omega
       case rel => exact ⟨k + 1, by omega, by go_num, by rw [HS.o]; congr 1; omega, (HW.o.alloc zO _).trans (hb1.mono (by simp; omega))⟩
    . have hke : k = ks.length := by omega
      have HKE := zH hke; clear hke; go_wp2_with fail
      go_ret; exact ⟨hG (by rw [HKE.o, List.take_length, lQ]), HW.o⟩
theorem pQ {w0 : World} {va vb : Value} {la lb : List Tx} (ha : aH w0 va la) (hb : aH w0 vb lb) :
  ∀ w, Below w0.heap.size w0 w -> Calls prog 12 #[va, vb] w (aA (la == lb) w) := by
 intro w hw; obtain ⟨A, ca, rfl, hca, hma, hea⟩ := ha; obtain ⟨B, cb, rfl, hcb, hmb, heb⟩ := hb; have hla : la.length <= 9223372036854775807 := (by unfold maxLen at hma; omega); have hlb : lb.length <= 9223372036854775807 := (by unfold maxLen at hmb; omega); have HW0 := zH hw; have hsz0 := hw.size; clear hw hca hma hcb hmb; by_cases hlen : la.length = lb.length
 . have hd : ((la.length : Int) != (lb.length : Int)) = false := by simp [hlen]
   have HL := zH hlen; clear hlen; go_enter func12, ntmps12
   go_wp2_with fail
   go_loopg [5] la.length (λ g v wr => ∃ k : Nat, k + g = la.length /\ v = .int .i64 k /\ ft (λ a b => a == b) la lb k /\ Below w.heap.size w wr)
   case atStart => exact ⟨0, by omega, rfl, ft.zero, Below.refl _ _⟩
   case round =>
    obtain ⟨k, hkg, rfl, hto, hbw⟩ := hrel; obtain ⟨wq, rfl⟩ := zW wr; have HK := zH hkg; have HW := zH hbw; have HT := zH hto; have hkl : k <= la.length := zO; clear hkg hbw hto; by_cases hlt : k < la.length
    . have hlt2 : k < lb.length := by have := HL.o; omega
      obtain ⟨x, hx⟩ := zG hlt; obtain ⟨y, hy⟩ := zG hlt2; obtain ⟨L, hEL, rfl, _⟩ := hea k x hx; obtain ⟨M, hEM, rfl, _⟩ := heb k y hy; have HB0 := zH (HW0.o.trans (HW.o.mono hsz0)); obtain ⟨a, rfl, hab, haa, d0⟩ := et (hEL.under HB0.o); obtain ⟨b, rfl, hbb, hba, e0⟩ := et (hEM.under HB0.o); rw [Nat.mul_one] at d0 e0; have HX := zH hx; have HY := zH hy; clear hEL hEM hea heb hx hy; by_cases hxy : x = y
      . subst hxy; go_wp2_with fail
        go_quiet (fail)
        go_wp2_with fail
        go_roundg (la.length - (k + 1))
        case measure => have := HK.o; omega
        case rel => exact ⟨k + 1, by omega, by go_num, HT.o.succ HX.o HY.o (by simp), gi HW.o _⟩
      . have HXY := zH hxy; have hne : ((str x).toList == (str y).toList) = false := (by rw [ey, ey]; simpa using hxy); have hne2 : ((str x).toList != (str y).toList) = true := (by rw [ey, ey]; simpa using hxy); clear hxy; go_wp2_with fail
        go_quiet (fail)
        go_wp2_with fail
        go_ret
        exact ⟨au (by
         have : la ≠ lb := λ e => HXY.o (by have h1 := HX.o; rw [e, HY.o] at h1; exact (Option.some.inj h1).symm); simp [this]), gi HW.o _⟩
    . have hke : k = la.length := by omega
      have HKE := zH hke; clear hke; go_wp2_with fail
      go_ret; exact ⟨au (by rw [AK HL.o HT.o HKE.o]; simp), HW.o⟩
 . have hd : ((la.length : Int) != (lb.length : Int)) = true := by simp; omega
   have HL := zH hlen; clear hlen; go_enter func12, ntmps12
   go_wp2_with fail
   go_ret
   exact ⟨au (by
    have : la ≠ lb := λ e => HL.o (by rw [e]); simp [this]), Below.refl _ _⟩
end Go.Proofs.YtkfacdofkfabnaaGreatDoor
