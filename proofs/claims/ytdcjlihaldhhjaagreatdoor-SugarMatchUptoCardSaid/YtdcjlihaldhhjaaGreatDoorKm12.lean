import Derived.Carry
import Derived.ChangeSame
import Derived.Deep.Fields
import Derived.Deep.Slices
import Derived.OpenShut
import Derived.Test.YtdcjlihaldhhjaaGreatDoorRows
import Derived.Test.YtdcjlihaldhhjaaGreatDoorKm07
set_option maxRecDepth 100000
namespace Go.Proofs.YtdcjlihaldhhjaaGreatDoor
open _root_.Go.Proofs.Tryz
open Go.ChangeShapes Go.WideShapes Go.Deep Go.RowKit
def wN : List Tx -> Nat
 | [] => 0
 | x :: r => x.length + 1 + wN r
mutual
def wX : Ex -> Nat
 | .mk _ nm _ cs ks => nm.length + wN cs + wXs ks + 6
def wXs : List Ex -> Nat
 | [] => 0
 | k :: r => wX k + wXs r
end
def wL {X : Type} (f : X -> Nat) : List X -> Nat
 | [] => 0
 | x :: r => f x + wL f r
theorem Fo (l : List Ex) : wXs l = wL wX l := by
 induction l with
 | nil => simp [wXs, wL]
 | cons x r ih => simp [wXs, wL, ih]
theorem F6 (l : List Tx) : wN l = wL (λ x => x.length + 1) l := by
 induction l with
 | nil => simp [wN, wL]
 | cons x r ih => simp [wN, wL, ih]
theorem qO {H : Type} {d : DataW H} {l : List (DataW H)} (h : d ∈ l) : Rows.uptoBulk d <= Rows.uptoBulkAll l := by
 induction l with
 | nil => cases h
 | cons x r ih =>
   simp only [Rows.uptoBulkAll]; rcases List.mem_cons.1 h with rfl | h
   . omega
   . have := ih h; omega
section
variable {H : Type} {enc : TypeId × Value -> H} {W : World} {base : Nat} {spare : Nat -> Bool} {held : Bool}
theorem Dp {α β : Type} {l : List β} {n : Nat} {P : Nat -> α -> β -> Prop} (hl : l.length = n) (h : ∀ i b, l[i]? = some b -> ∃ a, P i a b) : ∃ m : List α, m.length = n /\ ∀ i a b, m[i]? = some a -> l[i]? = some b -> P i a b := by
 induction l generalizing n P with
 | nil => exact ⟨[], by simpa using hl, λ i a b h => by simp at h⟩
 | cons b r ih =>
   obtain ⟨a, ha⟩ := h 0 b rfl; obtain ⟨m, hm, hP⟩ := ih (n := r.length) (P := λ i => P (i + 1)) rfl (λ i b hb => h (i + 1) b (by simpa using hb)); refine ⟨a :: m, by simp at hl ⊢; omega, λ i x y hx hy => ?_⟩; cases i with
   | zero => simp at hx hy; subst hx hy; exact ha
   | succ i => exact hP i x y (by simpa using hx) (by simpa using hy)
theorem kt {X : Type} {R : List Value -> X -> Prop} {wt : X -> Nat} {t e : TypeId} {fuel : Nat} {cs : List Value} {x : DataW H × List MemPlace} (ht : prog.underlying t = some (.slice e))
  (h : DataW.trod enc prog W base spare held fuel t cs = some x)
  (he : ∀ n, n < fuel -> ∀ cs' y, DataW.trod enc prog W base spare held n e cs' = some y -> ∃ z, R cs' z /\ wt z <= Rows.uptoBulk y.1) : ∃ v l, cs = [v] /\ aw W R v l /\ wL wt l + 1 <= Rows.uptoBulk x.1 := by
 rcases DataW.trod_slice ht h with ⟨rfl, rfl⟩ | ⟨a, len, cap, elems, rest, n, rfl, rfl, rfl, _, hl, hm, hlen, hel, _⟩
 . exact ⟨_, [], rfl, ⟨none, 0, rfl, Nat.le_refl _, by unfold maxLen; omega, λ i x h => by simp at h⟩, by simp [wL, Rows.uptoBulk]⟩
 . have hall : ∀ (i : Nat) b, elems[i]? = some b -> ∃ z, (∃ cs', cB W (some a) i cs' /\ R cs' z) /\ wt z <= Rows.uptoBulk b.1 := by
    intro i b hb; have hi : i < len := (by rw [<- hlen]; exact (List.getElem?_eq_some_iff.1 hb).1); have := hel i hi; rw [hb] at this; obtain ⟨cs', hc, ht'⟩ := Option.bind_eq_some_iff.1 this; obtain ⟨_, hlc, hat⟩ := World.cells?_some hc; obtain ⟨z, hz, hw⟩ := he n (Nat.lt_succ_self n) cs' b ht'; refine ⟨z, ⟨cs', ⟨a, rfl, λ j u hu => ?_⟩, hz⟩, hw⟩; rw [hlc]; exact (hat j (by rw [<- hlc]; exact (List.getElem?_eq_some_iff.1 hu).1)).trans hu
   obtain ⟨l, hll, hP⟩ := Dp hlen hall; have hsum : ∀ (es : List (DataW H × List MemPlace)) (m : List X), m.length = es.length -> (∀ (i : Nat) z b, m[i]? = some z -> es[i]? = some b -> wt z <= Rows.uptoBulk b.1) -> wL wt m <= Rows.uptoBulkAll (es.map (·.1)) := by
    intro es; induction es with
    | nil => intro m hm _; have : m = [] := List.eq_nil_of_length_eq_zero (by simpa using hm); subst this; simp [wL]
    | cons b r ih =>
      intro m hm hq; cases m with
      | nil => simp at hm
      | cons z m =>
        have h1 := hq 0 z b rfl rfl; have h2 := ih m (by simpa using hm) (λ i z b hz hb => hq (i + 1) z b (by simpa using hz) (by simpa using hb)); simp only [wL, List.map_cons, Rows.uptoBulkAll]; omega
   refine ⟨_, l, rfl, ⟨some a, cap, by rw [hll], by omega, hm, λ i x hx => ?_⟩, ?_⟩
   . have hi : i < elems.length := by rw [hlen, <- hll]; exact (List.getElem?_eq_some_iff.1 hx).1
     obtain ⟨⟨cs', h1, h2⟩, _⟩ := hP i x _ hx (List.getElem?_eq_getElem hi); exact ⟨cs', h1, h2⟩
   . have := hsum elems l zO (λ i z b hz hb => (hP i z b hz hb).2); simp only [Rows.uptoBulk]; omega
theorem sB {fuel : Nat} {cs : List Value} {x : DataW H × List MemPlace} (h : DataW.trod enc prog W base spare held fuel 22 cs = some x) : ∃ v l, cs = [v] /\ aG W v l /\ wN l + 1 <= Rows.uptoBulk x.1 := by
 obtain ⟨v, l, h1, h2, h3⟩ := kt (R := nF) (wt := λ x => x.length + 1) underlying22 h (λ n _ cs' y hy => by
  obtain ⟨s, rfl, rfl, hs⟩ := DataW.trod_string underlying9 hy; exact ⟨s.data.toList, ⟨by rw [str_eq], by rw [Array.length_toList]; exact hs⟩, by simp [Rows.uptoBulk]⟩)
 exact ⟨v, l, h1, h2, by rw [F6]; exact h3⟩
theorem FJ {α : Type _} {l : List α} (h : l.length = 5) : ∃ a b c d e, l = [a, b, c, d, e] := by
 match l, h with
 | [a, b, c, d, e], _ => exact ⟨a, b, c, d, e, rfl⟩
theorem Bg {n : Int} (h : (Lit.int .i64 n).wf = true) : gQ n := bounds_i64 h
theorem FL {w : World} {op n : Int} {nm : Tx} {cs : List Tx} {ks : List Ex} {cv kv : Value} (hop : gQ op) (hn : gQ n) (hm : nm.length <= maxLen) (hcs : aG w cv cs) (hk : aw w (aT w) kv ks) :
  aT w [.int .i64 op, .string (str nm), .int .i64 n, cv, kv] (.mk op nm n cs ks) := by
 obtain ⟨A, c, rfl, h1, h2, h3⟩ := hk; have : ∀ i, ∃ L, ∀ x, ks[i]? = some x -> cB w A i L /\ aT w L x := by
  intro i; cases h : ks[i]? with
  | none => exact ⟨[], λ x hx => by cases hx⟩
  | some y =>
    obtain ⟨L, hL⟩ := h3 i y h; exact ⟨L, λ x hx => by cases hx; exact hL⟩
 obtain ⟨C, hC⟩ := Classical.axiomOfChoice this; exact .mk (C := C) hop hm hn hcs h1 h2 (λ i k hi => (hC i k hi).1) (λ i k hi => (hC i k hi).2)
theorem za : prog.cellsOf 3 = 1 := by kernel_rfl
theorem zb : prog.cellsOf 2 = 1 := by kernel_rfl
theorem y9 : prog.cellsOf 9 = 1 := by kernel_rfl
theorem wd : prog.cellsOf 22 = 1 := by kernel_rfl
theorem ze : prog.cellsOf 23 = 1 := by kernel_rfl
theorem BL : prog.cellsOf 25 = 5 := by kernel_rfl
theorem qG : ∀ {fuel : Nat} {cs : List Value} {x : DataW H × List MemPlace}, DataW.trod enc prog W base spare held fuel 25 cs = some x -> ∃ y : Ex, aT W cs y /\ wX y <= Rows.uptoBulk x.1 := by
 intro fuel; induction fuel using Nat.strongRecOn with
 | _ fuel ih =>
   intro cs x h; obtain ⟨ys, n, rfl, rfl, hl, hy, hf⟩ := DataW.trod_struct underlying25 h; rw [BL] at hl; obtain ⟨c0, c1, c2, c3, c4, rfl⟩ := FJ hl; obtain ⟨y0, y1, y2, y3, y4, rfl⟩ := FJ hy; have h0 : DataW.trod enc prog W base spare held n 3 (([c0, c1, c2, c3, c4].drop 0).take (prog.cellsOf 3)) = some y0 := hf 0 _ rfl; have h1 : DataW.trod enc prog W base spare held n 9 (([c0, c1, c2, c3, c4].drop 1).take (prog.cellsOf 9)) = some y1 := hf 1 _ rfl; have h2 : DataW.trod enc prog W base spare held n 2 (([c0, c1, c2, c3, c4].drop 2).take (prog.cellsOf 2)) = some y2 := hf 2 _ rfl; have h3 : DataW.trod enc prog W base spare held n 22 (([c0, c1, c2, c3, c4].drop 3).take (prog.cellsOf 22)) = some y3 := hf 3 _ rfl; have h4 : DataW.trod enc prog W base spare held n 23 (([c0, c1, c2, c3, c4].drop 4).take (prog.cellsOf 23)) = some y4 := hf 4 _ rfl; rw [za] at h0; rw [y9] at h1; rw [zb] at h2; rw [wd] at h3; rw [ze] at h4; obtain ⟨n0, e0, z0, w0⟩ := DataW.trod_int underlying3 h0; obtain ⟨s1, e1, z1, w1⟩ := DataW.trod_string underlying9 h1; obtain ⟨n2, e2, z2, w2⟩ := DataW.trod_int underlying2 h2; obtain ⟨v3, l3, e3, z3, w3⟩ := sB h3; obtain ⟨v4, l4, e4, z4, w4⟩ := kt (R := aT W) (wt := wX) underlying23 h4 (λ m hm cs' y hy => ih m zO hy); cases e0; cases e1; cases e2; cases e3; cases e4; subst z0 z1 z2; refine ⟨.mk n0 s1.data.toList n2 l3 l4, ?_, ?_⟩
   . have := FL (w := W) (op := n0) (n := n2) (nm := s1.data.toList) (Bg w0) (Bg w2) (by rw [Array.length_toList]; exact w1) z3 z4; rwa [str_eq] at this
   . rw [wX, Fo]; simp only [List.map_cons, List.map_nil, Rows.uptoBulk, Rows.uptoBulkAll]; omega
end
end Go.Proofs.YtdcjlihaldhhjaaGreatDoor
namespace Go.Proofs.YtdcjlihaldhhjaaGreatDoor
open _root_.Go.Proofs.Tryz
end Go.Proofs.YtdcjlihaldhhjaaGreatDoor
namespace Go.Proofs.YtdcjlihaldhhjaaGreatDoor
open _root_.Go.Proofs.Tryz
open Go.ChangeShapes Go.WideShapes Go.Deep Go.RowKit
section
variable {H : Type} {enc : TypeId × Value -> H} {W : World} {base : Nat} {spare : Nat -> Bool} {held : Bool}
end
end Go.Proofs.YtdcjlihaldhhjaaGreatDoor
