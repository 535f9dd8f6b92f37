import Derived.Carry
import Derived.ChangeSame
import Derived.Deep.Fields
import Derived.Deep.Slices
import Derived.OpenShut
import Derived.Test.YtkfacdofkfabnaaGreatDoorRows
import Derived.Test.YtkfacdofkfabnaaGreatDoorKm08
set_option maxRecDepth 100000
namespace Go.Proofs.YtkfacdofkfabnaaGreatDoor
open _root_.Go.Proofs.Tryz
open Go.ChangeShapes Go.WideShapes Go.Deep Go.RowKit
def wN : List Tx -> Nat
 | [] => 0
 | x :: r => x.length + 1 + wN r
mutual
def wX : Ex -> Nat
 | .mk _ nm _ cs ks => nm.length + wN cs + wXs ks + 6
def wXs : List Ex -> Nat
 | [] => 0
 | k :: r => wX k + wXs r
end
def wL {X : Type} (f : X -> Nat) : List X -> Nat
 | [] => 0
 | x :: r => f x + wL f r
theorem JO (l : List Ex) : wXs l = wL wX l := by
 induction l with
 | nil => simp [wXs, wL]
 | cons x r ih => simp [wXs, wL, ih]
theorem Kt (l : List Tx) : wN l = wL (λ x => x.length + 1) l := by
 induction l with
 | nil => simp [wN, wL]
 | cons x r ih => simp [wN, wL, ih]
theorem CI {H : Type} {d : DataW H} {l : List (DataW H)} (h : d ∈ l) : Rows.uptoBulk d <= Rows.uptoBulkAll l := by
 induction l with
 | nil => cases h
 | cons x r ih =>
   simp only [Rows.uptoBulkAll]; rcases List.mem_cons.1 h with rfl | h
   . omega
   . have := ih h; omega
section
variable {H : Type} {enc : TypeId × Value -> H} {W : World} {base : Nat} {spare : Nat -> Bool} {held : Bool}
theorem GK {α β : Type} {l : List β} {n : Nat} {P : Nat -> α -> β -> Prop} (hl : l.length = n) (h : ∀ i b, l[i]? = some b -> ∃ a, P i a b) : ∃ m : List α, m.length = n /\ ∀ i a b, m[i]? = some a -> l[i]? = some b -> P i a b := by
 induction l generalizing n P with
 | nil => exact ⟨[], by simpa using hl, λ i a b h => by simp at h⟩
 | cons b r ih =>
   obtain ⟨a, ha⟩ := h 0 b rfl; obtain ⟨m, hm, hP⟩ := ih (n := r.length) (P := λ i => P (i + 1)) rfl (λ i b hb => h (i + 1) b (by simpa using hb)); refine ⟨a :: m, by simp at hl ⊢; omega, λ i x y hx hy => ?_⟩; cases i with
   | zero => simp at hx hy; subst hx hy; exact ha
   | succ i => exact hP i x y (by simpa using hx) (by simpa using hy)
theorem dp {X : Type} {R : List Value -> X -> Prop} {wt : X -> Nat} {t e : TypeId} {fuel : Nat} {cs : List Value} {x : DataW H × List MemPlace} (ht : prog.underlying t = some (.slice e))
  (h : DataW.trod enc prog W base spare held fuel t cs = some x)
  (he : ∀ n, n < fuel -> ∀ cs' y, DataW.trod enc prog W base spare held n e cs' = some y -> ∃ z, R cs' z /\ wt z <= Rows.uptoBulk y.1) : ∃ v l, cs = [v] /\ aw W R v l /\ wL wt l + 1 <= Rows.uptoBulk x.1 := by
 rcases DataW.trod_slice ht h with ⟨rfl, rfl⟩ | ⟨a, len, cap, elems, rest, n, rfl, rfl, rfl, _, hl, hm, hlen, hel, _⟩
 . exact ⟨_, [], rfl, ⟨none, 0, rfl, Nat.le_refl _, by unfold maxLen; omega, λ i x h => by simp at h⟩, by simp [wL, Rows.uptoBulk]⟩
 . have hall : ∀ (i : Nat) b, elems[i]? = some b -> ∃ z, (∃ cs', cp W (some a) i cs' /\ R cs' z) /\ wt z <= Rows.uptoBulk b.1 := by
    intro i b hb; have hi : i < len := (by rw [<- hlen]; exact (List.getElem?_eq_some_iff.1 hb).1); have := hel i hi; rw [hb] at this; obtain ⟨cs', hc, ht'⟩ := Option.bind_eq_some_iff.1 this; obtain ⟨_, hlc, hat⟩ := World.cells?_some hc; obtain ⟨z, hz, hw⟩ := he n (Nat.lt_succ_self n) cs' b ht'; refine ⟨z, ⟨cs', ⟨a, rfl, λ j u hu => ?_⟩, hz⟩, hw⟩; rw [hlc]; exact (hat j (by rw [<- hlc]; exact (List.getElem?_eq_some_iff.1 hu).1)).trans hu
   obtain ⟨l, hll, hP⟩ := GK hlen hall; have hsum : ∀ (es : List (DataW H × List MemPlace)) (m : List X), m.length = es.length -> (∀ (i : Nat) z b, m[i]? = some z -> es[i]? = some b -> wt z <= Rows.uptoBulk b.1) -> wL wt m <= Rows.uptoBulkAll (es.map (·.1)) := by
    intro es; induction es with
    | nil => intro m hm _; have : m = [] := List.eq_nil_of_length_eq_zero (by simpa using hm); subst this; simp [wL]
    | cons b r ih =>
      intro m hm hq; cases m with
      | nil => simp at hm
      | cons z m =>
        have h1 := hq 0 z b rfl rfl; have h2 := ih m (by simpa using hm) (λ i z b hz hb => hq (i + 1) z b (by simpa using hz) (by simpa using hb)); simp only [wL, List.map_cons, Rows.uptoBulkAll]; omega
   refine ⟨_, l, rfl, ⟨some a, cap, by rw [hll], by omega, hm, λ i x hx => ?_⟩, ?_⟩
   . have hi : i < elems.length := by rw [hlen, <- hll]; exact (List.getElem?_eq_some_iff.1 hx).1
     obtain ⟨⟨cs', h1, h2⟩, _⟩ := hP i x _ hx (List.getElem?_eq_getElem hi); exact ⟨cs', h1, h2⟩
   . have := hsum elems l zO (λ i z b hz hb => (hP i z b hz hb).2); simp only [Rows.uptoBulk]; omega
theorem e7 {fuel : Nat} {cs : List Value} {x : DataW H × List MemPlace} (h : DataW.trod enc prog W base spare held fuel 33 cs = some x) : ∃ v l, cs = [v] /\ aH W v l /\ wN l + 1 <= Rows.uptoBulk x.1 := by
 obtain ⟨v, l, h1, h2, h3⟩ := dp (R := iw) (wt := λ x => x.length + 1) underlying33 h (λ n _ cs' y hy => by
  obtain ⟨s, rfl, rfl, hs⟩ := DataW.trod_string underlying9 hy; exact ⟨s.data.toList, ⟨by rw [str_eq], by rw [Array.length_toList]; exact hs⟩, by simp [Rows.uptoBulk]⟩)
 exact ⟨v, l, h1, h2, by rw [Kt]; exact h3⟩
theorem GW {α : Type _} {l : List α} (h : l.length = 5) : ∃ a b c d e, l = [a, b, c, d, e] := by
 match l, h with
 | [a, b, c, d, e], _ => exact ⟨a, b, c, d, e, rfl⟩
theorem Ek {n : Int} (h : (Lit.int .i64 n).wf = true) : gY n := bounds_i64 h
theorem Kf {w : World} {op n : Int} {nm : Tx} {cs : List Tx} {ks : List Ex} {cv kv : Value} (hop : gY op) (hn : gY n) (hm : nm.length <= maxLen) (hcs : aH w cv cs) (hk : aw w (a7 w) kv ks) :
  a7 w [.int .i64 op, .string (str nm), .int .i64 n, cv, kv] (.mk op nm n cs ks) := by
 obtain ⟨A, c, rfl, h1, h2, h3⟩ := hk; have : ∀ i, ∃ L, ∀ x, ks[i]? = some x -> cp w A i L /\ a7 w L x := by
  intro i; cases h : ks[i]? with
  | none => exact ⟨[], λ x hx => by cases hx⟩
  | some y =>
    obtain ⟨L, hL⟩ := h3 i y h; exact ⟨L, λ x hx => by cases hx; exact hL⟩
 obtain ⟨C, hC⟩ := Classical.axiomOfChoice this; exact .mk (C := C) hop hm hn hcs h1 h2 (λ i k hi => (hC i k hi).1) (λ i k hi => (hC i k hi).2)
theorem CB : prog.cellsOf 3 = 1 := by kernel_rfl
theorem CC : prog.cellsOf 2 = 1 := by kernel_rfl
theorem CA : prog.cellsOf 9 = 1 := by kernel_rfl
theorem zk : prog.cellsOf 33 = 1 := by kernel_rfl
theorem CD : prog.cellsOf 37 = 1 := by kernel_rfl
theorem EW : prog.cellsOf 39 = 5 := by kernel_rfl
theorem sC : ∀ {fuel : Nat} {cs : List Value} {x : DataW H × List MemPlace}, DataW.trod enc prog W base spare held fuel 39 cs = some x -> ∃ y : Ex, a7 W cs y /\ wX y <= Rows.uptoBulk x.1 := by
 intro fuel; induction fuel using Nat.strongRecOn with
 | _ fuel ih =>
   intro cs x h; obtain ⟨ys, n, rfl, rfl, hl, hy, hf⟩ := DataW.trod_struct underlying39 h; rw [EW] at hl; obtain ⟨c0, c1, c2, c3, c4, rfl⟩ := GW hl; obtain ⟨y0, y1, y2, y3, y4, rfl⟩ := GW hy; have h0 : DataW.trod enc prog W base spare held n 3 (([c0, c1, c2, c3, c4].drop 0).take (prog.cellsOf 3)) = some y0 := hf 0 _ rfl; have h1 : DataW.trod enc prog W base spare held n 9 (([c0, c1, c2, c3, c4].drop 1).take (prog.cellsOf 9)) = some y1 := hf 1 _ rfl; have h2 : DataW.trod enc prog W base spare held n 2 (([c0, c1, c2, c3, c4].drop 2).take (prog.cellsOf 2)) = some y2 := hf 2 _ rfl; have h3 : DataW.trod enc prog W base spare held n 33 (([c0, c1, c2, c3, c4].drop 3).take (prog.cellsOf 33)) = some y3 := hf 3 _ rfl; have h4 : DataW.trod enc prog W base spare held n 37 (([c0, c1, c2, c3, c4].drop 4).take (prog.cellsOf 37)) = some y4 := hf 4 _ rfl; rw [CB] at h0; rw [CA] at h1; rw [CC] at h2; rw [zk] at h3; rw [CD] at h4; obtain ⟨n0, e0, z0, w0⟩ := DataW.trod_int underlying3 h0; obtain ⟨s1, e1, z1, w1⟩ := DataW.trod_string underlying9 h1; obtain ⟨n2, e2, z2, w2⟩ := DataW.trod_int underlying2 h2; obtain ⟨v3, l3, e3, z3, w3⟩ := e7 h3; obtain ⟨v4, l4, e4, z4, w4⟩ := dp (R := a7 W) (wt := wX) underlying37 h4 (λ m hm cs' y hy => ih m zO hy); cases e0; cases e1; cases e2; cases e3; cases e4; subst z0 z1 z2; refine ⟨.mk n0 s1.data.toList n2 l3 l4, ?_, ?_⟩
   . have := Kf (w := W) (op := n0) (n := n2) (nm := s1.data.toList) (Ek w0) (Ek w2) (by rw [Array.length_toList]; exact w1) z3 z4; rwa [str_eq] at this
   . rw [wX, JO]; simp only [List.map_cons, List.map_nil, Rows.uptoBulk, Rows.uptoBulkAll]; omega
end
end Go.Proofs.YtkfacdofkfabnaaGreatDoor
namespace Go.Proofs.YtkfacdofkfabnaaGreatDoor
open _root_.Go.Proofs.Tryz
theorem IQ {X : Type} {f : X -> Nat} {l : List X} {x : X} (h : x ∈ l) : f x <= wL f l := by
 induction l with
 | nil => cases h
 | cons y r ih =>
   rcases List.mem_cons.1 h with rfl | h
   . simp [wL]
   . have := ih h; simp [wL]; omega
def wEq (q : QEq) : Nat := wN q.names + wX q.e + 2
def Bf (y : eO) : Nat := wX y.cond + y.to.length + 2
def nt (s : aM) : Nat := s.name.length + wL wEq s.eqs + wL Bf s.ways + 4
def rB (i : a8) : Nat := wEq i.eq + wL nt i.states + 2
def zF (e : dw) : Nat := e.name.length + wN e.cons + 3
def py (n : aY) : Nat := n.name.length + wN n.funs + wN n.ins + wN n.outs + wL rB n.items + 6
def px (p : cZ) : Nat := wL zF p.enums + wL py p.nodes + 3
theorem vQ {X Y : Type} {f : X -> List Y} {g : X -> Nat} {l : List X} (h : ∀ x ∈ l, (f x).length <= g x) : (l.flatMap f).length <= wL g l := by
 induction l with
 | nil => simp [wL]
 | cons x r ih =>
   have h1 := h x (by simp); have h2 := ih (λ y hy => h y (by simp [hy])); rw [List.flatMap_cons, List.length_append, wL]; omega
theorem D6 {X : Type} {f : X -> Nat} {l : List X} (h : ∀ x ∈ l, 1 <= f x) : l.length <= wL f l := by
 induction l with
 | nil => simp [wL]
 | cons x r ih =>
   have h1 := h x (by simp); have h2 := ih (λ y hy => h y (by simp [hy])); rw [List.length_cons, wL]; omega
theorem DV {n : aY} : (fc n).length <= py n := by
 have h := vQ (f := fZ) (g := rB) (l := n.items) (λ i _ => by
  have h2 := vQ (f := fH) (g := nt) (l := i.states) (λ s _ => by
   have h3 := D6 (f := wEq) (l := s.eqs) (λ q _ => by unfold wEq; omega); have h4 := D6 (f := Bf) (l := s.ways) (λ q _ => by unfold Bf; omega); unfold fH nt; simp only [List.length_append, List.length_map]; omega)
  unfold fZ rB wEq; rw [List.length_append]; split
  . simp only [List.length_cons, List.length_nil]; omega
  . simp only [List.length_nil]; omega)
 unfold fc py; omega
theorem Dy {p : cZ} (hw : px p <= 1048576) : ∀ x ∈ p.nodes, (fc x).length <= 1048576 := λ x hx => by
 have h1 := DV (n := x)
 have h2 := IQ (f := py) hx
 unfold px at hw
 omega
end Go.Proofs.YtkfacdofkfabnaaGreatDoor
namespace Go.Proofs.YtkfacdofkfabnaaGreatDoor
open _root_.Go.Proofs.Tryz
open Go.ChangeShapes Go.WideShapes Go.Deep Go.RowKit
theorem EP : prog.cellsOf 22 = 1 := by kernel_rfl
theorem Jz : prog.cellsOf 47 = 1 := by kernel_rfl
theorem EO : prog.cellsOf 34 = 1 := by kernel_rfl
theorem EN : prog.cellsOf 23 = 1 := by kernel_rfl
theorem Cw : prog.cellsOf 42 = 1 := by kernel_rfl
theorem Hy : prog.cellsOf 48 = 1 := by kernel_rfl
theorem gU : prog.cellsOf 33 = 1 := by kernel_rfl
theorem Ib : prog.cellsOf 46 = 2 := by kernel_rfl
theorem IJ : prog.cellsOf 41 = 6 := by kernel_rfl
theorem AR : prog.cellsOf 39 = 5 := by kernel_rfl
theorem Ia : prog.cellsOf 44 = 7 := by kernel_rfl
theorem Hz : prog.cellsOf 36 = 5 := by kernel_rfl
theorem zf : prog.cellsOf 25 = 2 := by kernel_rfl
theorem ES : prog.cellsOf 50 = 3 := by kernel_rfl
theorem JA : prog.cellsOf 93 = 6 := by kernel_rfl
theorem ld : prog.cellsOf 9 = 1 := by kernel_rfl
theorem qk {α : Type _} {l : List α} (h : l.length = 2) : ∃ x0 x1, l = [x0, x1] := by
 match l, h with
 | [x0, x1], _ => exact ⟨x0, x1, rfl⟩
theorem IE {α : Type _} {l : List α} (h : l.length = 3) : ∃ x0 x1 x2, l = [x0, x1, x2] := by
 match l, h with
 | [x0, x1, x2], _ => exact ⟨x0, x1, x2, rfl⟩
theorem ID {α : Type _} {l : List α} (h : l.length = 6) : ∃ x0 x1 x2 x3 x4 x5, l = [x0, x1, x2, x3, x4, x5] := by
 match l, h with
 | [x0, x1, x2, x3, x4, x5], _ => exact ⟨x0, x1, x2, x3, x4, x5, rfl⟩
theorem Kd {α : Type _} {l : List α} (h : l.length = 7) : ∃ x0 x1 x2 x3 x4 x5 x6, l = [x0, x1, x2, x3, x4, x5, x6] := by
 match l, h with
 | [x0, x1, x2, x3, x4, x5, x6], _ => exact ⟨x0, x1, x2, x3, x4, x5, x6, rfl⟩
section
variable {H : Type} {enc : TypeId × Value -> H} {W : World} {base : Nat} {spare : Nat -> Bool} {held : Bool}
theorem sF {fuel : Nat} {cs : List Value} {x : DataW H × List MemPlace} (h : DataW.trod enc prog W base spare held fuel 41 cs = some x) : ∃ y : QEq, iH W cs y /\ wEq y <= Rows.uptoBulk x.1 := by
 obtain ⟨ys, n, rfl, rfl, hl, hy, hf⟩ := DataW.trod_struct underlying41 h; rw [IJ] at hl; obtain ⟨c0, c1, c2, c3, c4, c5, rfl⟩ := ID hl; obtain ⟨y0, y1, rfl⟩ := qk hy; have h0 : DataW.trod enc prog W base spare held n 33 (([c0, c1, c2, c3, c4, c5].drop 0).take (prog.cellsOf 33)) = some y0 := hf 0 _ rfl; rw [gU] at h0; have h1 : DataW.trod enc prog W base spare held n 39 (([c0, c1, c2, c3, c4, c5].drop 1).take (prog.cellsOf 39)) = some y1 := hf 1 _ rfl; rw [AR] at h1; obtain ⟨v0, l0, e0, a0, b0⟩ := e7 h0; cases e0; obtain ⟨l1, a1, b1⟩ := sC h1; replace a1 : a7 W [c1, c2, c3, c4, c5] l1 := a1; exact ⟨⟨l0, l1⟩, ⟨_, _, rfl, a0, a1⟩, by simp only [wEq, List.map_cons, List.map_nil, Rows.uptoBulk, Rows.uptoBulkAll] ; omega⟩
theorem xp {fuel : Nat} {cs : List Value} {x : DataW H × List MemPlace} (h : DataW.trod enc prog W base spare held fuel 93 cs = some x) : ∃ y : eO, d7 W cs y /\ Bf y <= Rows.uptoBulk x.1 := by
 obtain ⟨ys, n, rfl, rfl, hl, hy, hf⟩ := DataW.trod_struct underlying93 h; rw [JA] at hl; obtain ⟨c0, c1, c2, c3, c4, c5, rfl⟩ := ID hl; obtain ⟨y0, y1, rfl⟩ := qk hy; have h0 : DataW.trod enc prog W base spare held n 39 (([c0, c1, c2, c3, c4, c5].drop 0).take (prog.cellsOf 39)) = some y0 := hf 0 _ rfl; rw [AR] at h0; have h1 : DataW.trod enc prog W base spare held n 9 (([c0, c1, c2, c3, c4, c5].drop 5).take (prog.cellsOf 9)) = some y1 := hf 1 _ rfl; rw [ld] at h1; obtain ⟨l0, a0, b0⟩ := sC h0; replace a0 : a7 W [c0, c1, c2, c3, c4] l0 := a0; obtain ⟨s1, e1, z1, b1⟩ := DataW.trod_string underlying9 h1; cases e1; subst z1; exact ⟨⟨l0, s1.data.toList⟩, ⟨[c0, c1, c2, c3, c4], by rw [str_eq]; rfl, a0, (by rw [Array.length_toList]; exact b1)⟩, by simp only [Bf, List.map_cons, List.map_nil, Rows.uptoBulk, Rows.uptoBulkAll] ; omega⟩
theorem tc {fuel : Nat} {cs : List Value} {x : DataW H × List MemPlace} (h : DataW.trod enc prog W base spare held fuel 50 cs = some x) : ∃ y : aM, bt W cs y /\ nt y <= Rows.uptoBulk x.1 := by
 obtain ⟨ys, n, rfl, rfl, hl, hy, hf⟩ := DataW.trod_struct underlying50 h; rw [ES] at hl; obtain ⟨c0, c1, c2, rfl⟩ := IE hl; obtain ⟨y0, y1, y2, rfl⟩ := IE hy; have h0 : DataW.trod enc prog W base spare held n 9 (([c0, c1, c2].drop 0).take (prog.cellsOf 9)) = some y0 := hf 0 _ rfl; rw [ld] at h0; have h1 : DataW.trod enc prog W base spare held n 47 (([c0, c1, c2].drop 1).take (prog.cellsOf 47)) = some y1 := hf 1 _ rfl; rw [Jz] at h1; have h2 : DataW.trod enc prog W base spare held n 48 (([c0, c1, c2].drop 2).take (prog.cellsOf 48)) = some y2 := hf 2 _ rfl; rw [Hy] at h2; obtain ⟨s0, e0, z0, b0⟩ := DataW.trod_string underlying9 h0; cases e0; subst z0; obtain ⟨v1, l1, e1, a1, b1⟩ := dp (R := iH W) (wt := wEq) underlying47 h1 (λ m _ cs' y hy => sF hy); cases e1; obtain ⟨v2, l2, e2, a2, b2⟩ := dp (R := d7 W) (wt := Bf) underlying48 h2 (λ m _ cs' y hy => xp hy); cases e2; exact ⟨⟨s0.data.toList, l1, l2⟩, ⟨_, _, by rw [str_eq], (by rw [Array.length_toList]; exact b0), a1, a2⟩, by simp only [nt, List.map_cons, List.map_nil, Rows.uptoBulk, Rows.uptoBulkAll] ; omega⟩
theorem vT {fuel : Nat} {cs : List Value} {x : DataW H × List MemPlace} (h : DataW.trod enc prog W base spare held fuel 44 cs = some x) : ∃ y : a8, bf W cs y /\ rB y <= Rows.uptoBulk x.1 := by
 obtain ⟨ys, n, rfl, rfl, hl, hy, hf⟩ := DataW.trod_struct underlying44 h; rw [Ia] at hl; obtain ⟨c0, c1, c2, c3, c4, c5, c6, rfl⟩ := Kd hl; obtain ⟨y0, y1, rfl⟩ := qk hy; have h0 : DataW.trod enc prog W base spare held n 41 (([c0, c1, c2, c3, c4, c5, c6].drop 0).take (prog.cellsOf 41)) = some y0 := hf 0 _ rfl; rw [IJ] at h0; have h1 : DataW.trod enc prog W base spare held n 42 (([c0, c1, c2, c3, c4, c5, c6].drop 6).take (prog.cellsOf 42)) = some y1 := hf 1 _ rfl; rw [Cw] at h1; obtain ⟨l0, a0, b0⟩ := sF h0; replace a0 : iH W [c0, c1, c2, c3, c4, c5] l0 := a0; obtain ⟨v1, l1, e1, a1, b1⟩ := dp (R := bt W) (wt := nt) underlying42 h1 (λ m _ cs' y hy => tc hy); cases e1; exact ⟨⟨l0, l1⟩, ⟨[c0, c1, c2, c3, c4, c5], _, rfl, a0, a1⟩, by simp only [rB, List.map_cons, List.map_nil, Rows.uptoBulk, Rows.uptoBulkAll] ; omega⟩
theorem wD {fuel : Nat} {cs : List Value} {x : DataW H × List MemPlace} (h : DataW.trod enc prog W base spare held fuel 46 cs = some x) : ∃ y : dw, bE W cs y /\ zF y <= Rows.uptoBulk x.1 := by
 obtain ⟨ys, n, rfl, rfl, hl, hy, hf⟩ := DataW.trod_struct underlying46 h; rw [Ib] at hl; obtain ⟨c0, c1, rfl⟩ := qk hl; obtain ⟨y0, y1, rfl⟩ := qk hy; have h0 : DataW.trod enc prog W base spare held n 9 (([c0, c1].drop 0).take (prog.cellsOf 9)) = some y0 := hf 0 _ rfl; rw [ld] at h0; have h1 : DataW.trod enc prog W base spare held n 33 (([c0, c1].drop 1).take (prog.cellsOf 33)) = some y1 := hf 1 _ rfl; rw [gU] at h1; obtain ⟨s0, e0, z0, b0⟩ := DataW.trod_string underlying9 h0; cases e0; subst z0; obtain ⟨v1, l1, e1, a1, b1⟩ := e7 h1; cases e1; exact ⟨⟨s0.data.toList, l1⟩, ⟨_, by rw [str_eq], (by rw [Array.length_toList]; exact b0), a1⟩, by simp only [zF, List.map_cons, List.map_nil, Rows.uptoBulk, Rows.uptoBulkAll] ; omega⟩
theorem vC {fuel : Nat} {cs : List Value} {x : DataW H × List MemPlace} (h : DataW.trod enc prog W base spare held fuel 36 cs = some x) : ∃ y : aY, ch W cs y /\ py y <= Rows.uptoBulk x.1 := by
 obtain ⟨ys, n, rfl, rfl, hl, hy, hf⟩ := DataW.trod_struct underlying36 h; rw [Hz] at hl; obtain ⟨c0, c1, c2, c3, c4, rfl⟩ := GW hl; obtain ⟨y0, y1, y2, y3, y4, rfl⟩ := GW hy; have h0 : DataW.trod enc prog W base spare held n 9 (([c0, c1, c2, c3, c4].drop 0).take (prog.cellsOf 9)) = some y0 := hf 0 _ rfl; rw [ld] at h0; have h1 : DataW.trod enc prog W base spare held n 33 (([c0, c1, c2, c3, c4].drop 1).take (prog.cellsOf 33)) = some y1 := hf 1 _ rfl; rw [gU] at h1; have h2 : DataW.trod enc prog W base spare held n 33 (([c0, c1, c2, c3, c4].drop 2).take (prog.cellsOf 33)) = some y2 := hf 2 _ rfl; rw [gU] at h2; have h3 : DataW.trod enc prog W base spare held n 33 (([c0, c1, c2, c3, c4].drop 3).take (prog.cellsOf 33)) = some y3 := hf 3 _ rfl; rw [gU] at h3; have h4 : DataW.trod enc prog W base spare held n 34 (([c0, c1, c2, c3, c4].drop 4).take (prog.cellsOf 34)) = some y4 := hf 4 _ rfl; rw [EO] at h4; obtain ⟨s0, e0, z0, b0⟩ := DataW.trod_string underlying9 h0; cases e0; subst z0; obtain ⟨v1, l1, e1, a1, b1⟩ := e7 h1; cases e1; obtain ⟨v2, l2, e2, a2, b2⟩ := e7 h2; cases e2; obtain ⟨v3, l3, e3, a3, b3⟩ := e7 h3; cases e3; obtain ⟨v4, l4, e4, a4, b4⟩ := dp (R := bf W) (wt := rB) underlying34 h4 (λ m _ cs' y hy => vT hy); cases e4; exact ⟨⟨s0.data.toList, l1, l2, l3, l4⟩, ⟨_, _, _, _, by rw [str_eq], (by rw [Array.length_toList]; exact b0), a1, a2, a3, a4⟩, by simp only [py, List.map_cons, List.map_nil, Rows.uptoBulk, Rows.uptoBulkAll] ; omega⟩
theorem vh {fuel : Nat} {cs : List Value} {x : DataW H × List MemPlace} (h : DataW.trod enc prog W base spare held fuel 25 cs = some x) : ∃ y : cZ, ew W cs y /\ px y <= Rows.uptoBulk x.1 := by
 obtain ⟨ys, n, rfl, rfl, hl, hy, hf⟩ := DataW.trod_struct underlying25 h; rw [zf] at hl; obtain ⟨c0, c1, rfl⟩ := qk hl; obtain ⟨y0, y1, rfl⟩ := qk hy; have h0 : DataW.trod enc prog W base spare held n 22 (([c0, c1].drop 0).take (prog.cellsOf 22)) = some y0 := hf 0 _ rfl; rw [EP] at h0; have h1 : DataW.trod enc prog W base spare held n 23 (([c0, c1].drop 1).take (prog.cellsOf 23)) = some y1 := hf 1 _ rfl; rw [EN] at h1; obtain ⟨v0, l0, e0, a0, b0⟩ := dp (R := bE W) (wt := zF) underlying22 h0 (λ m _ cs' y hy => wD hy); cases e0; obtain ⟨v1, l1, e1, a1, b1⟩ := dp (R := ch W) (wt := py) underlying23 h1 (λ m _ cs' y hy => vC hy); cases e1; exact ⟨⟨l0, l1⟩, ⟨_, _, rfl, a0, a1⟩, by simp only [px, List.map_cons, List.map_nil, Rows.uptoBulk, Rows.uptoBulkAll] ; omega⟩
end
end Go.Proofs.YtkfacdofkfabnaaGreatDoor
