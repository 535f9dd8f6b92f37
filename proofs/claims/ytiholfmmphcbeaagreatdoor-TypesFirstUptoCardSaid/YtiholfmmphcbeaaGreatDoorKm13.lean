import Derived.Carry
import Derived.ChangeSame
import Derived.Deep.Fields
import Derived.Deep.Slices
import Derived.OpenShut
import Derived.Test.YtiholfmmphcbeaaGreatDoorRows
import Derived.Test.YtiholfmmphcbeaaGreatDoorKm11
set_option maxRecDepth 100000
namespace Go.Proofs.YtiholfmmphcbeaaGreatDoor
open _root_.Go.Proofs.Tryz
open Go.ChangeShapes Go.WideShapes Go.Deep Go.RowKit
def wN : List Tx -> Nat
 | [] => 0
 | x :: r => x.length + 1 + wN r
mutual
def wX : Ex -> Nat
 | .mk _ nm _ cs ks => nm.length + wN cs + wXs ks + 6
def wXs : List Ex -> Nat
 | [] => 0
 | k :: r => wX k + wXs r
end
def wL {X : Type} (f : X -> Nat) : List X -> Nat
 | [] => 0
 | x :: r => f x + wL f r
theorem IT (l : List Ex) : wXs l = wL wX l := by
 induction l with
 | nil => simp [wXs, wL]
 | cons x r ih => simp [wXs, wL, ih]
theorem Ju (l : List Tx) : wN l = wL (λ x => x.length + 1) l := by
 induction l with
 | nil => simp [wN, wL]
 | cons x r ih => simp [wN, wL, ih]
theorem Ce {H : Type} {d : DataW H} {l : List (DataW H)} (h : d ∈ l) : Rows.uptoBulk d <= Rows.uptoBulkAll l := by
 induction l with
 | nil => cases h
 | cons x r ih =>
   simp only [Rows.uptoBulkAll]; rcases List.mem_cons.1 h with rfl | h
   . omega
   . have := ih h; omega
section
variable {H : Type} {enc : TypeId × Value -> H} {W : World} {base : Nat} {spare : Nat -> Bool} {held : Bool}
theorem FM {α β : Type} {l : List β} {n : Nat} {P : Nat -> α -> β -> Prop} (hl : l.length = n) (h : ∀ i b, l[i]? = some b -> ∃ a, P i a b) : ∃ m : List α, m.length = n /\ ∀ i a b, m[i]? = some a -> l[i]? = some b -> P i a b := by
 induction l generalizing n P with
 | nil => exact ⟨[], by simpa using hl, λ i a b h => by simp at h⟩
 | cons b r ih =>
   obtain ⟨a, ha⟩ := h 0 b rfl; obtain ⟨m, hm, hP⟩ := ih (n := r.length) (P := λ i => P (i + 1)) rfl (λ i b hb => h (i + 1) b (by simpa using hb)); refine ⟨a :: m, by simp at hl ⊢; omega, λ i x y hx hy => ?_⟩; cases i with
   | zero => simp at hx hy; subst hx hy; exact ha
   | succ i => exact hP i x y (by simpa using hx) (by simpa using hy)
theorem cY {X : Type} {R : List Value -> X -> Prop} {wt : X -> Nat} {t e : TypeId} {fuel : Nat} {cs : List Value} {x : DataW H × List MemPlace} (ht : prog.underlying t = some (.slice e))
  (h : DataW.trod enc prog W base spare held fuel t cs = some x)
  (he : ∀ n, n < fuel -> ∀ cs' y, DataW.trod enc prog W base spare held n e cs' = some y -> ∃ z, R cs' z /\ wt z <= Rows.uptoBulk y.1) : ∃ v l, cs = [v] /\ ak W R v l /\ wL wt l + 1 <= Rows.uptoBulk x.1 := by
 rcases DataW.trod_slice ht h with ⟨rfl, rfl⟩ | ⟨a, len, cap, elems, rest, n, rfl, rfl, rfl, _, hl, hm, hlen, hel, _⟩
 . exact ⟨_, [], rfl, ⟨none, 0, rfl, Nat.le_refl _, by unfold maxLen; omega, λ i x h => by simp at h⟩, by simp [wL, Rows.uptoBulk]⟩
 . have hall : ∀ (i : Nat) b, elems[i]? = some b -> ∃ z, (∃ cs', eY W (some a) i cs' /\ R cs' z) /\ wt z <= Rows.uptoBulk b.1 := by
    intro i b hb; have hi : i < len := (by rw [<- hlen]; exact (List.getElem?_eq_some_iff.1 hb).1); have := hel i hi; rw [hb] at this; obtain ⟨cs', hc, ht'⟩ := Option.bind_eq_some_iff.1 this; obtain ⟨_, hlc, hat⟩ := World.cells?_some hc; obtain ⟨z, hz, hw⟩ := he n (Nat.lt_succ_self n) cs' b ht'; refine ⟨z, ⟨cs', ⟨a, rfl, λ j u hu => ?_⟩, hz⟩, hw⟩; rw [hlc]; exact (hat j (by rw [<- hlc]; exact (List.getElem?_eq_some_iff.1 hu).1)).trans hu
   obtain ⟨l, hll, hP⟩ := FM hlen hall; have hsum : ∀ (es : List (DataW H × List MemPlace)) (m : List X), m.length = es.length -> (∀ (i : Nat) z b, m[i]? = some z -> es[i]? = some b -> wt z <= Rows.uptoBulk b.1) -> wL wt m <= Rows.uptoBulkAll (es.map (·.1)) := by
    intro es; induction es with
    | nil => intro m hm _; have : m = [] := List.eq_nil_of_length_eq_zero (by simpa using hm); subst this; simp [wL]
    | cons b r ih =>
      intro m hm hq; cases m with
      | nil => simp at hm
      | cons z m =>
        have h1 := hq 0 z b rfl rfl; have h2 := ih m (by simpa using hm) (λ i z b hz hb => hq (i + 1) z b (by simpa using hz) (by simpa using hb)); simp only [wL, List.map_cons, Rows.uptoBulkAll]; omega
   refine ⟨_, l, rfl, ⟨some a, cap, by rw [hll], by omega, hm, λ i x hx => ?_⟩, ?_⟩
   . have hi : i < elems.length := by rw [hlen, <- hll]; exact (List.getElem?_eq_some_iff.1 hx).1
     obtain ⟨⟨cs', h1, h2⟩, _⟩ := hP i x _ hx (List.getElem?_eq_getElem hi); exact ⟨cs', h1, h2⟩
   . have := hsum elems l zO (λ i z b hz hb => (hP i z b hz hb).2); simp only [Rows.uptoBulk]; omega
theorem ff {fuel : Nat} {cs : List Value} {x : DataW H × List MemPlace} (h : DataW.trod enc prog W base spare held fuel 50 cs = some x) : ∃ v l, cs = [v] /\ aF W v l /\ wN l + 1 <= Rows.uptoBulk x.1 := by
 obtain ⟨v, l, h1, h2, h3⟩ := cY (R := pt) (wt := λ x => x.length + 1) underlying50 h (λ n _ cs' y hy => by
  obtain ⟨s, rfl, rfl, hs⟩ := DataW.trod_string underlying9 hy; exact ⟨s.data.toList, ⟨by rw [str_eq], by rw [Array.length_toList]; exact hs⟩, by simp [Rows.uptoBulk]⟩)
 exact ⟨v, l, h1, h2, by rw [Ju]; exact h3⟩
theorem FV {α : Type _} {l : List α} (h : l.length = 5) : ∃ a b c d e, l = [a, b, c, d, e] := by
 match l, h with
 | [a, b, c, d, e], _ => exact ⟨a, b, c, d, e, rfl⟩
theorem DN {n : Int} (h : (Lit.int .i64 n).wf = true) : tU n := bounds_i64 h
theorem Jd {w : World} {op n : Int} {nm : Tx} {cs : List Tx} {ks : List Ex} {cv kv : Value} (hop : tU op) (hn : tU n) (hm : nm.length <= maxLen) (hcs : aF w cv cs) (hk : ak w (bM w) kv ks) :
  bM w [.int .i64 op, .string (str nm), .int .i64 n, cv, kv] (.mk op nm n cs ks) := by
 obtain ⟨A, c, rfl, h1, h2, h3⟩ := hk; have : ∀ i, ∃ L, ∀ x, ks[i]? = some x -> eY w A i L /\ bM w L x := by
  intro i; cases h : ks[i]? with
  | none => exact ⟨[], λ x hx => by cases hx⟩
  | some y =>
    obtain ⟨L, hL⟩ := h3 i y h; exact ⟨L, λ x hx => by cases hx; exact hL⟩
 obtain ⟨C, hC⟩ := Classical.axiomOfChoice this; exact .mk (C := C) hop hm hn hcs h1 h2 (λ i k hi => (hC i k hi).1) (λ i k hi => (hC i k hi).2)
theorem B8 : prog.cellsOf 3 = 1 := by kernel_rfl
theorem B9 : prog.cellsOf 2 = 1 := by kernel_rfl
theorem B7 : prog.cellsOf 9 = 1 := by kernel_rfl
theorem yO : prog.cellsOf 50 = 1 := by kernel_rfl
theorem Ca : prog.cellsOf 79 = 1 := by kernel_rfl
theorem En : prog.cellsOf 81 = 5 := by kernel_rfl
theorem sQ : ∀ {fuel : Nat} {cs : List Value} {x : DataW H × List MemPlace}, DataW.trod enc prog W base spare held fuel 81 cs = some x -> ∃ y : Ex, bM W cs y /\ wX y <= Rows.uptoBulk x.1 := by
 intro fuel; induction fuel using Nat.strongRecOn with
 | _ fuel ih =>
   intro cs x h; obtain ⟨ys, n, rfl, rfl, hl, hy, hf⟩ := DataW.trod_struct underlying81 h; rw [En] at hl; obtain ⟨c0, c1, c2, c3, c4, rfl⟩ := FV hl; obtain ⟨y0, y1, y2, y3, y4, rfl⟩ := FV hy; have h0 : DataW.trod enc prog W base spare held n 3 (([c0, c1, c2, c3, c4].drop 0).take (prog.cellsOf 3)) = some y0 := hf 0 _ rfl; have h1 : DataW.trod enc prog W base spare held n 9 (([c0, c1, c2, c3, c4].drop 1).take (prog.cellsOf 9)) = some y1 := hf 1 _ rfl; have h2 : DataW.trod enc prog W base spare held n 2 (([c0, c1, c2, c3, c4].drop 2).take (prog.cellsOf 2)) = some y2 := hf 2 _ rfl; have h3 : DataW.trod enc prog W base spare held n 50 (([c0, c1, c2, c3, c4].drop 3).take (prog.cellsOf 50)) = some y3 := hf 3 _ rfl; have h4 : DataW.trod enc prog W base spare held n 79 (([c0, c1, c2, c3, c4].drop 4).take (prog.cellsOf 79)) = some y4 := hf 4 _ rfl; rw [B8] at h0; rw [B7] at h1; rw [B9] at h2; rw [yO] at h3; rw [Ca] at h4; obtain ⟨n0, e0, z0, w0⟩ := DataW.trod_int underlying3 h0; obtain ⟨s1, e1, z1, w1⟩ := DataW.trod_string underlying9 h1; obtain ⟨n2, e2, z2, w2⟩ := DataW.trod_int underlying2 h2; obtain ⟨v3, l3, e3, z3, w3⟩ := ff h3; obtain ⟨v4, l4, e4, z4, w4⟩ := cY (R := bM W) (wt := wX) underlying79 h4 (λ m hm cs' y hy => ih m zO hy); cases e0; cases e1; cases e2; cases e3; cases e4; subst z0 z1 z2; refine ⟨.mk n0 s1.data.toList n2 l3 l4, ?_, ?_⟩
   . have := Jd (w := W) (op := n0) (n := n2) (nm := s1.data.toList) (DN w0) (DN w2) (by rw [Array.length_toList]; exact w1) z3 z4; rwa [str_eq] at this
   . rw [wX, IT]; simp only [List.map_cons, List.map_nil, Rows.uptoBulk, Rows.uptoBulkAll]; omega
end
end Go.Proofs.YtiholfmmphcbeaaGreatDoor
namespace Go.Proofs.YtiholfmmphcbeaaGreatDoor
open _root_.Go.Proofs.Tryz
theorem ya (l : List Tx) : l.length <= wN l := by
 induction l with
 | nil => simp [wN]
 | cons x r ih => simp [wN]; omega
theorem wT {X : Type} {f : X -> Nat} {l : List X} {x : X} (h : x ∈ l) : f x <= wL f l := by
 induction l with
 | nil => cases h
 | cons y r ih =>
   rcases List.mem_cons.1 h with rfl | h
   . simp [wL]
   . have := ih h; simp [wL]; omega
def wEq (q : QEq) : Nat := wN q.names + wX q.e + 2
def Aq (y : iO) : Nat := wX y.cond + y.to.length + 2
def lG (s : aZ) : Nat := s.name.length + wL wEq s.eqs + wL Aq s.ways + 4
def iQ (i : bf) : Nat := wEq i.eq + wL lG i.states + 2
def rJ (e : fo) : Nat := e.name.length + wN e.cons + 3
def jz (n : aA) : Nat := n.name.length + wN n.funs + wN n.ins + wN n.outs + wL iQ n.items + 6
def eZ (p : cg) : Nat := wL rJ p.enums + wL jz p.nodes + 3
theorem mM {X Y : Type} {f : X -> List Y} {g : X -> Nat} {l : List X} (h : ∀ x ∈ l, (f x).length <= g x) : (l.flatMap f).length <= wL g l := by
 induction l with
 | nil => simp [wL]
 | cons x r ih =>
   have h1 := h x (by simp); have h2 := ih (λ y hy => h y (by simp [hy])); rw [List.flatMap_cons, List.length_append, wL]; omega
theorem yb {X : Type} {f : X -> Nat} {l : List X} (h : ∀ x ∈ l, 1 <= f x) : l.length <= wL f l := by
 induction l with
 | nil => simp [wL]
 | cons x r ih =>
   have h1 := h x (by simp); have h2 := ih (λ y hy => h y (by simp [hy])); rw [List.length_cons, wL]; omega
theorem Dn {n : aA} : (gb n).length <= jz n := by
 have h := mM (f := gY) (g := iQ) (l := n.items) (λ i _ => by
  have h2 := mM (f := fM) (g := lG) (l := i.states) (λ s _ => by
   have h3 := yb (f := wEq) (l := s.eqs) (λ q _ => by unfold wEq; omega); have h4 := yb (f := Aq) (l := s.ways) (λ q _ => by unfold Aq; omega); unfold fM lG; simp only [List.length_append, List.length_map]; omega)
  unfold gY iQ wEq; rw [List.length_append]; split
  . simp only [List.length_cons, List.length_nil]; omega
  . simp only [List.length_nil]; omega)
 unfold gb jz; omega
theorem CY {p : cg} (hw : eZ p <= 1048576) : ∀ x ∈ p.nodes, (gb x).length <= 1048576 := λ x hx => by
 have h1 := Dn (n := x)
 have h2 := wT (f := jz) hx
 unfold eZ at hw
 omega
end Go.Proofs.YtiholfmmphcbeaaGreatDoor
namespace Go.Proofs.YtiholfmmphcbeaaGreatDoor
open _root_.Go.Proofs.Tryz
open Go.ChangeShapes Go.WideShapes Go.Deep Go.RowKit
theorem Ek : prog.cellsOf 22 = 1 := by kernel_rfl
theorem ID : prog.cellsOf 182 = 1 := by kernel_rfl
theorem Ej : prog.cellsOf 51 = 1 := by kernel_rfl
theorem Ei : prog.cellsOf 23 = 1 := by kernel_rfl
theorem BU : prog.cellsOf 84 = 1 := by kernel_rfl
theorem Gh : prog.cellsOf 183 = 1 := by kernel_rfl
theorem il : prog.cellsOf 50 = 1 := by kernel_rfl
theorem Gk : prog.cellsOf 74 = 2 := by kernel_rfl
theorem G6 : prog.cellsOf 83 = 6 := by kernel_rfl
theorem zX : prog.cellsOf 81 = 5 := by kernel_rfl
theorem Gj : prog.cellsOf 86 = 7 := by kernel_rfl
theorem Gi : prog.cellsOf 53 = 5 := by kernel_rfl
theorem yM : prog.cellsOf 25 = 2 := by kernel_rfl
theorem Em : prog.cellsOf 185 = 3 := by kernel_rfl
theorem IE : prog.cellsOf 187 = 6 := by kernel_rfl
theorem lh : prog.cellsOf 9 = 1 := by kernel_rfl
theorem qi {α : Type _} {l : List α} (h : l.length = 2) : ∃ x0 x1, l = [x0, x1] := by
 match l, h with
 | [x0, x1], _ => exact ⟨x0, x1, rfl⟩
theorem GW {α : Type _} {l : List α} (h : l.length = 3) : ∃ x0 x1 x2, l = [x0, x1, x2] := by
 match l, h with
 | [x0, x1, x2], _ => exact ⟨x0, x1, x2, rfl⟩
theorem GV {α : Type _} {l : List α} (h : l.length = 6) : ∃ x0 x1 x2 x3 x4 x5, l = [x0, x1, x2, x3, x4, x5] := by
 match l, h with
 | [x0, x1, x2, x3, x4, x5], _ => exact ⟨x0, x1, x2, x3, x4, x5, rfl⟩
theorem Jc {α : Type _} {l : List α} (h : l.length = 7) : ∃ x0 x1 x2 x3 x4 x5 x6, l = [x0, x1, x2, x3, x4, x5, x6] := by
 match l, h with
 | [x0, x1, x2, x3, x4, x5, x6], _ => exact ⟨x0, x1, x2, x3, x4, x5, x6, rfl⟩
section
variable {H : Type} {enc : TypeId × Value -> H} {W : World} {base : Nat} {spare : Nat -> Bool} {held : Bool}
theorem sS {fuel : Nat} {cs : List Value} {x : DataW H × List MemPlace} (h : DataW.trod enc prog W base spare held fuel 83 cs = some x) : ∃ y : QEq, l7 W cs y /\ wEq y <= Rows.uptoBulk x.1 := by
 obtain ⟨ys, n, rfl, rfl, hl, hy, hf⟩ := DataW.trod_struct underlying83 h; rw [G6] at hl; obtain ⟨c0, c1, c2, c3, c4, c5, rfl⟩ := GV hl; obtain ⟨y0, y1, rfl⟩ := qi hy; have h0 : DataW.trod enc prog W base spare held n 50 (([c0, c1, c2, c3, c4, c5].drop 0).take (prog.cellsOf 50)) = some y0 := hf 0 _ rfl; rw [il] at h0; have h1 : DataW.trod enc prog W base spare held n 81 (([c0, c1, c2, c3, c4, c5].drop 1).take (prog.cellsOf 81)) = some y1 := hf 1 _ rfl; rw [zX] at h1; obtain ⟨v0, l0, e0, a0, b0⟩ := ff h0; cases e0; obtain ⟨l1, a1, b1⟩ := sQ h1; replace a1 : bM W [c1, c2, c3, c4, c5] l1 := a1; exact ⟨⟨l0, l1⟩, ⟨_, _, rfl, a0, a1⟩, by simp only [wEq, List.map_cons, List.map_nil, Rows.uptoBulk, Rows.uptoBulkAll] ; omega⟩
theorem wR {fuel : Nat} {cs : List Value} {x : DataW H × List MemPlace} (h : DataW.trod enc prog W base spare held fuel 187 cs = some x) : ∃ y : iO, gp W cs y /\ Aq y <= Rows.uptoBulk x.1 := by
 obtain ⟨ys, n, rfl, rfl, hl, hy, hf⟩ := DataW.trod_struct underlying187 h; rw [IE] at hl; obtain ⟨c0, c1, c2, c3, c4, c5, rfl⟩ := GV hl; obtain ⟨y0, y1, rfl⟩ := qi hy; have h0 : DataW.trod enc prog W base spare held n 81 (([c0, c1, c2, c3, c4, c5].drop 0).take (prog.cellsOf 81)) = some y0 := hf 0 _ rfl; rw [zX] at h0; have h1 : DataW.trod enc prog W base spare held n 9 (([c0, c1, c2, c3, c4, c5].drop 5).take (prog.cellsOf 9)) = some y1 := hf 1 _ rfl; rw [lh] at h1; obtain ⟨l0, a0, b0⟩ := sQ h0; replace a0 : bM W [c0, c1, c2, c3, c4] l0 := a0; obtain ⟨s1, e1, z1, b1⟩ := DataW.trod_string underlying9 h1; cases e1; subst z1; exact ⟨⟨l0, s1.data.toList⟩, ⟨[c0, c1, c2, c3, c4], by rw [str_eq]; rfl, a0, (by rw [Array.length_toList]; exact b1)⟩, by simp only [Aq, List.map_cons, List.map_nil, Rows.uptoBulk, Rows.uptoBulkAll] ; omega⟩
theorem tk {fuel : Nat} {cs : List Value} {x : DataW H × List MemPlace} (h : DataW.trod enc prog W base spare held fuel 185 cs = some x) : ∃ y : aZ, cj W cs y /\ lG y <= Rows.uptoBulk x.1 := by
 obtain ⟨ys, n, rfl, rfl, hl, hy, hf⟩ := DataW.trod_struct underlying185 h; rw [Em] at hl; obtain ⟨c0, c1, c2, rfl⟩ := GW hl; obtain ⟨y0, y1, y2, rfl⟩ := GW hy; have h0 : DataW.trod enc prog W base spare held n 9 (([c0, c1, c2].drop 0).take (prog.cellsOf 9)) = some y0 := hf 0 _ rfl; rw [lh] at h0; have h1 : DataW.trod enc prog W base spare held n 182 (([c0, c1, c2].drop 1).take (prog.cellsOf 182)) = some y1 := hf 1 _ rfl; rw [ID] at h1; have h2 : DataW.trod enc prog W base spare held n 183 (([c0, c1, c2].drop 2).take (prog.cellsOf 183)) = some y2 := hf 2 _ rfl; rw [Gh] at h2; obtain ⟨s0, e0, z0, b0⟩ := DataW.trod_string underlying9 h0; cases e0; subst z0; obtain ⟨v1, l1, e1, a1, b1⟩ := cY (R := l7 W) (wt := wEq) underlying182 h1 (λ m _ cs' y hy => sS hy); cases e1; obtain ⟨v2, l2, e2, a2, b2⟩ := cY (R := gp W) (wt := Aq) underlying183 h2 (λ m _ cs' y hy => wR hy); cases e2; exact ⟨⟨s0.data.toList, l1, l2⟩, ⟨_, _, by rw [str_eq], (by rw [Array.length_toList]; exact b0), a1, a2⟩, by simp only [lG, List.map_cons, List.map_nil, Rows.uptoBulk, Rows.uptoBulkAll] ; omega⟩
theorem vN {fuel : Nat} {cs : List Value} {x : DataW H × List MemPlace} (h : DataW.trod enc prog W base spare held fuel 86 cs = some x) : ∃ y : bf, dz W cs y /\ iQ y <= Rows.uptoBulk x.1 := by
 obtain ⟨ys, n, rfl, rfl, hl, hy, hf⟩ := DataW.trod_struct underlying86 h; rw [Gj] at hl; obtain ⟨c0, c1, c2, c3, c4, c5, c6, rfl⟩ := Jc hl; obtain ⟨y0, y1, rfl⟩ := qi hy; have h0 : DataW.trod enc prog W base spare held n 83 (([c0, c1, c2, c3, c4, c5, c6].drop 0).take (prog.cellsOf 83)) = some y0 := hf 0 _ rfl; rw [G6] at h0; have h1 : DataW.trod enc prog W base spare held n 84 (([c0, c1, c2, c3, c4, c5, c6].drop 6).take (prog.cellsOf 84)) = some y1 := hf 1 _ rfl; rw [BU] at h1; obtain ⟨l0, a0, b0⟩ := sS h0; replace a0 : l7 W [c0, c1, c2, c3, c4, c5] l0 := a0; obtain ⟨v1, l1, e1, a1, b1⟩ := cY (R := cj W) (wt := lG) underlying84 h1 (λ m _ cs' y hy => tk hy); cases e1; exact ⟨⟨l0, l1⟩, ⟨[c0, c1, c2, c3, c4, c5], _, rfl, a0, a1⟩, by simp only [iQ, List.map_cons, List.map_nil, Rows.uptoBulk, Rows.uptoBulkAll] ; omega⟩
theorem wi {fuel : Nat} {cs : List Value} {x : DataW H × List MemPlace} (h : DataW.trod enc prog W base spare held fuel 74 cs = some x) : ∃ y : fo, fW W cs y /\ rJ y <= Rows.uptoBulk x.1 := by
 obtain ⟨ys, n, rfl, rfl, hl, hy, hf⟩ := DataW.trod_struct underlying74 h; rw [Gk] at hl; obtain ⟨c0, c1, rfl⟩ := qi hl; obtain ⟨y0, y1, rfl⟩ := qi hy; have h0 : DataW.trod enc prog W base spare held n 9 (([c0, c1].drop 0).take (prog.cellsOf 9)) = some y0 := hf 0 _ rfl; rw [lh] at h0; have h1 : DataW.trod enc prog W base spare held n 50 (([c0, c1].drop 1).take (prog.cellsOf 50)) = some y1 := hf 1 _ rfl; rw [il] at h1; obtain ⟨s0, e0, z0, b0⟩ := DataW.trod_string underlying9 h0; cases e0; subst z0; obtain ⟨v1, l1, e1, a1, b1⟩ := ff h1; cases e1; exact ⟨⟨s0.data.toList, l1⟩, ⟨_, by rw [str_eq], (by rw [Array.length_toList]; exact b0), a1⟩, by simp only [rJ, List.map_cons, List.map_nil, Rows.uptoBulk, Rows.uptoBulkAll] ; omega⟩
theorem vx {fuel : Nat} {cs : List Value} {x : DataW H × List MemPlace} (h : DataW.trod enc prog W base spare held fuel 53 cs = some x) : ∃ y : aA, bS W cs y /\ jz y <= Rows.uptoBulk x.1 := by
 obtain ⟨ys, n, rfl, rfl, hl, hy, hf⟩ := DataW.trod_struct underlying53 h; rw [Gi] at hl; obtain ⟨c0, c1, c2, c3, c4, rfl⟩ := FV hl; obtain ⟨y0, y1, y2, y3, y4, rfl⟩ := FV hy; have h0 : DataW.trod enc prog W base spare held n 9 (([c0, c1, c2, c3, c4].drop 0).take (prog.cellsOf 9)) = some y0 := hf 0 _ rfl; rw [lh] at h0; have h1 : DataW.trod enc prog W base spare held n 50 (([c0, c1, c2, c3, c4].drop 1).take (prog.cellsOf 50)) = some y1 := hf 1 _ rfl; rw [il] at h1; have h2 : DataW.trod enc prog W base spare held n 50 (([c0, c1, c2, c3, c4].drop 2).take (prog.cellsOf 50)) = some y2 := hf 2 _ rfl; rw [il] at h2; have h3 : DataW.trod enc prog W base spare held n 50 (([c0, c1, c2, c3, c4].drop 3).take (prog.cellsOf 50)) = some y3 := hf 3 _ rfl; rw [il] at h3; have h4 : DataW.trod enc prog W base spare held n 51 (([c0, c1, c2, c3, c4].drop 4).take (prog.cellsOf 51)) = some y4 := hf 4 _ rfl; rw [Ej] at h4; obtain ⟨s0, e0, z0, b0⟩ := DataW.trod_string underlying9 h0; cases e0; subst z0; obtain ⟨v1, l1, e1, a1, b1⟩ := ff h1; cases e1; obtain ⟨v2, l2, e2, a2, b2⟩ := ff h2; cases e2; obtain ⟨v3, l3, e3, a3, b3⟩ := ff h3; cases e3; obtain ⟨v4, l4, e4, a4, b4⟩ := cY (R := dz W) (wt := iQ) underlying51 h4 (λ m _ cs' y hy => vN hy); cases e4; exact ⟨⟨s0.data.toList, l1, l2, l3, l4⟩, ⟨_, _, _, _, by rw [str_eq], (by rw [Array.length_toList]; exact b0), a1, a2, a3, a4⟩, by simp only [jz, List.map_cons, List.map_nil, Rows.uptoBulk, Rows.uptoBulkAll] ; omega⟩
theorem uY {fuel : Nat} {cs : List Value} {x : DataW H × List MemPlace} (h : DataW.trod enc prog W base spare held fuel 25 cs = some x) : ∃ y : cg, dS W cs y /\ eZ y <= Rows.uptoBulk x.1 := by
 obtain ⟨ys, n, rfl, rfl, hl, hy, hf⟩ := DataW.trod_struct underlying25 h; rw [yM] at hl; obtain ⟨c0, c1, rfl⟩ := qi hl; obtain ⟨y0, y1, rfl⟩ := qi hy; have h0 : DataW.trod enc prog W base spare held n 22 (([c0, c1].drop 0).take (prog.cellsOf 22)) = some y0 := hf 0 _ rfl; rw [Ek] at h0; have h1 : DataW.trod enc prog W base spare held n 23 (([c0, c1].drop 1).take (prog.cellsOf 23)) = some y1 := hf 1 _ rfl; rw [Ei] at h1; obtain ⟨v0, l0, e0, a0, b0⟩ := cY (R := fW W) (wt := rJ) underlying22 h0 (λ m _ cs' y hy => wi hy); cases e0; obtain ⟨v1, l1, e1, a1, b1⟩ := cY (R := bS W) (wt := jz) underlying23 h1 (λ m _ cs' y hy => vx hy); cases e1; exact ⟨⟨l0, l1⟩, ⟨_, _, rfl, a0, a1⟩, by simp only [eZ, List.map_cons, List.map_nil, Rows.uptoBulk, Rows.uptoBulkAll] ; omega⟩
end
end Go.Proofs.YtiholfmmphcbeaaGreatDoor
