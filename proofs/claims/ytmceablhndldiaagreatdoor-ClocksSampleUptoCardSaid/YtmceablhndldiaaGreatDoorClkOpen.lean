/-
  Expressions and variables with their clocks that came in, read as data: their cells, and what their bulk bounds.
-/
import Derived.Test.YtmceablhndldiaaGreatDoorRows
import Derived.Test.YtmceablhndldiaaGreatDoorClkMem
import Derived.Deep.Slices
import Derived.Deep.Fields
import Derived.ChangeSame
import Derived.Carry
import Derived.OpenShut
namespace Go.Proofs.YtmceablhndldiaaGreatDoor
open Go.ChangeShapes Go.WideShapes Go.Deep Go.RowKit

/-- the letters of a list of names, and one more for each -/
def wN : List Tx → Nat
  | [] => 0
  | x :: r => x.length + 1 + wN r
/- weights of trees: never above their data's bulk -/
mutual
def wX : Ex → Nat
  | .mk _ nm _ cs ks => nm.length + wN cs + wXs ks + 6
def wXs : List Ex → Nat
  | [] => 0
  | k :: r => wX k + wXs r
end
def wL {X : Type} (f : X → Nat) : List X → Nat
  | [] => 0
  | x :: r => f x + wL f r
theorem wXs_L (l : List Ex) : wXs l = wL wX l := by
  induction l with
  | nil => simp [wXs, wL]
  | cons x r ih => simp [wXs, wL, ih]
theorem wN_L (l : List Tx) : wN l = wL (fun x => x.length + 1) l := by
  induction l with
  | nil => simp [wN, wL]
  | cons x r ih => simp [wN, wL, ih]
theorem bulk_one {H : Type} (d : DataW H) : 1 ≤ Rows.uptoBulk d := by
  cases d with
  | lit l => cases l <;> simp [Rows.uptoBulk]
  | _ => simp [Rows.uptoBulk]
theorem bulk_part {H : Type} {d : DataW H} {l : List (DataW H)} (h : d ∈ l) : Rows.uptoBulk d ≤ Rows.uptoBulkAll l := by
  induction l with
  | nil => cases h
  | cons x r ih =>
    simp only [Rows.uptoBulkAll]
    rcases List.mem_cons.1 h with rfl | h
    · omega
    · have := ih h; omega
section
variable {H : Type} {enc : TypeId × Value → H} {W : World} {base : Nat} {spare : Nat → Bool} {held : Bool}
theorem list_of {α β : Type} {l : List β} {n : Nat} {P : Nat → α → β → Prop} (hl : l.length = n) (h : ∀ i b, l[i]? = some b → ∃ a, P i a b) : ∃ m : List α, m.length = n ∧ ∀ i a b, m[i]? = some a → l[i]? = some b → P i a b := by
  induction l generalizing n P with
  | nil => exact ⟨[], by simpa using hl, fun i a b h => by simp at h⟩
  | cons b r ih =>
    obtain ⟨a, ha⟩ := h 0 b rfl
    obtain ⟨m, hm, hP⟩ := ih (n := r.length) (P := fun i => P (i + 1)) rfl (fun i b hb => h (i + 1) b (by simpa using hb))
    refine ⟨a :: m, by simp at hl ⊢; omega, fun i x y hx hy => ?_⟩
    cases i with
    | zero => simp at hx hy; subst hx hy; exact ha
    | succ i => exact hP i x y (by simpa using hx) (by simpa using hy)
theorem slice_opened {X : Type} {R : List Value → X → Prop} {wt : X → Nat} {t e : TypeId} {fuel : Nat} {cs : List Value} {x : DataW H × List MemPlace} (ht : Tryz.prog.underlying t = some (.slice e))
    (h : DataW.trod enc Tryz.prog W base spare held fuel t cs = some x)
    (he : ∀ n, n < fuel → ∀ cs' y, DataW.trod enc Tryz.prog W base spare held n e cs' = some y → ∃ z, R cs' z ∧ wt z ≤ Rows.uptoBulk y.1) : ∃ v l, cs = [v] ∧ SliceAt W R v l ∧ wL wt l + 1 ≤ Rows.uptoBulk x.1 := by
  rcases DataW.trod_slice ht h with ⟨rfl, rfl⟩ | ⟨a, len, cap, elems, rest, n, rfl, rfl, rfl, _, hl, hm, hlen, hel, _⟩
  · exact ⟨_, [], rfl, ⟨none, 0, rfl, Nat.le_refl _, by unfold maxLen; omega, fun i x h => by simp at h⟩, by simp [wL, Rows.uptoBulk]⟩
  · have hall : ∀ (i : Nat) b, elems[i]? = some b → ∃ z, (∃ cs', ElemAt W (some a) i cs' ∧ R cs' z) ∧ wt z ≤ Rows.uptoBulk b.1 := by
      intro i b hb
      have hi : i < len := by rw [← hlen]; exact (List.getElem?_eq_some_iff.1 hb).1
      have := hel i hi
      rw [hb] at this
      obtain ⟨cs', hc, ht'⟩ := Option.bind_eq_some_iff.1 this
      obtain ⟨_, hlc, hat⟩ := World.cells?_some hc
      obtain ⟨z, hz, hw⟩ := he n (Nat.lt_succ_self n) cs' b ht'
      refine ⟨z, ⟨cs', ⟨a, rfl, fun j u hu => ?_⟩, hz⟩, hw⟩
      rw [hlc]
      exact (hat j (by rw [← hlc]; exact (List.getElem?_eq_some_iff.1 hu).1)).trans hu
    obtain ⟨l, hll, hP⟩ := list_of hlen hall
    have hsum : ∀ (es : List (DataW H × List MemPlace)) (m : List X), m.length = es.length → (∀ (i : Nat) z b, m[i]? = some z → es[i]? = some b → wt z ≤ Rows.uptoBulk b.1) → wL wt m ≤ Rows.uptoBulkAll (es.map (·.1)) := by
      intro es
      induction es with
      | nil => intro m hm _; have : m = [] := List.eq_nil_of_length_eq_zero (by simpa using hm); subst this; simp [wL]
      | cons b r ih =>
        intro m hm hq
        cases m with
        | nil => simp at hm
        | cons z m =>
          have h1 := hq 0 z b rfl rfl
          have h2 := ih m (by simpa using hm) (fun i z b hz hb => hq (i + 1) z b (by simpa using hz) (by simpa using hb))
          simp only [wL, List.map_cons, Rows.uptoBulkAll]
          omega
    refine ⟨_, l, rfl, ⟨some a, cap, by rw [hll], by omega, hm, fun i x hx => ?_⟩, ?_⟩
    · have hi : i < elems.length := by rw [hlen, ← hll]; exact (List.getElem?_eq_some_iff.1 hx).1
      obtain ⟨⟨cs', h1, h2⟩, _⟩ := hP i x _ hx (List.getElem?_eq_getElem hi)
      exact ⟨cs', h1, h2⟩
    · have := hsum elems l (by omega) (fun i z b hz hb => (hP i z b hz hb).2)
      simp only [Rows.uptoBulk]
      omega
theorem strs_opened {fuel : Nat} {cs : List Value} {x : DataW H × List MemPlace} (h : DataW.trod enc Tryz.prog W base spare held fuel 28 cs = some x) : ∃ v l, cs = [v] ∧ StrsAt W v l ∧ wN l + 1 ≤ Rows.uptoBulk x.1 := by
  obtain ⟨v, l, h1, h2, h3⟩ := slice_opened (R := StrCell) (wt := fun x => x.length + 1) Tryz.underlying28 h (fun n _ cs' y hy => by
    obtain ⟨s, rfl, rfl, hs⟩ := DataW.trod_string Tryz.underlying9 hy
    exact ⟨s.data.toList, ⟨by rw [str_eq], by rw [Array.length_toList]; exact hs⟩, by simp [Rows.uptoBulk]⟩)
  exact ⟨v, l, h1, h2, by rw [wN_L]; exact h3⟩
theorem five {α : Type _} {l : List α} (h : l.length = 5) : ∃ a b c d e, l = [a, b, c, d, e] := by
  match l, h with
  | [a, b, c, d, e], _ => exact ⟨a, b, c, d, e, rfl⟩
theorem i64_wf {n : Int} (h : (Lit.int .i64 n).wf = true) : i64B n := bounds_i64 h
theorem ex_mk {w : World} {op n : Int} {nm : Tx} {cs : List Tx} {ks : List Ex} {cv kv : Value} (hop : i64B op) (hn : i64B n) (hm : nm.length ≤ maxLen) (hcs : StrsAt w cv cs) (hk : SliceAt w (ExAt w) kv ks) :
    ExAt w [.int .i64 op, .string (str nm), .int .i64 n, cv, kv] (.mk op nm n cs ks) := by
  obtain ⟨A, c, rfl, h1, h2, h3⟩ := hk
  have : ∀ i, ∃ L, ∀ x, ks[i]? = some x → ElemAt w A i L ∧ ExAt w L x := by
    intro i
    cases h : ks[i]? with
    | none => exact ⟨[], fun x hx => by cases hx⟩
    | some y =>
      obtain ⟨L, hL⟩ := h3 i y h
      exact ⟨L, fun x hx => by cases hx; exact hL⟩
  obtain ⟨C, hC⟩ := Classical.axiomOfChoice this
  exact .mk (C := C) hop hm hn hcs h1 h2 (fun i k hi => (hC i k hi).1) (fun i k hi => (hC i k hi).2)
theorem cells_int : Tryz.prog.cellsOf 3 = 1 := by kernel_rfl
theorem cells_i64 : Tryz.prog.cellsOf 2 = 1 := by kernel_rfl
theorem cells_str : Tryz.prog.cellsOf 9 = 1 := by kernel_rfl
theorem cells_strs : Tryz.prog.cellsOf 28 = 1 := by kernel_rfl
theorem cells_exs : Tryz.prog.cellsOf 29 = 1 := by kernel_rfl
theorem cells_ex : Tryz.prog.cellsOf 31 = 5 := by kernel_rfl
set_option maxRecDepth 100000 in
theorem ex_opened : ∀ {fuel : Nat} {cs : List Value} {x : DataW H × List MemPlace}, DataW.trod enc Tryz.prog W base spare held fuel 31 cs = some x → ∃ y : Ex, ExAt W cs y ∧ wX y ≤ Rows.uptoBulk x.1 := by
  intro fuel
  induction fuel using Nat.strongRecOn with
  | _ fuel ih =>
    intro cs x h
    obtain ⟨ys, n, rfl, rfl, hl, hy, hf⟩ := DataW.trod_struct Tryz.underlying31 h
    rw [cells_ex] at hl
    obtain ⟨c0, c1, c2, c3, c4, rfl⟩ := five hl
    obtain ⟨y0, y1, y2, y3, y4, rfl⟩ := five hy
    have h0 : DataW.trod enc Tryz.prog W base spare held n 3 (([c0, c1, c2, c3, c4].drop 0).take (Tryz.prog.cellsOf 3)) = some y0 := hf 0 _ rfl
    have h1 : DataW.trod enc Tryz.prog W base spare held n 9 (([c0, c1, c2, c3, c4].drop 1).take (Tryz.prog.cellsOf 9)) = some y1 := hf 1 _ rfl
    have h2 : DataW.trod enc Tryz.prog W base spare held n 2 (([c0, c1, c2, c3, c4].drop 2).take (Tryz.prog.cellsOf 2)) = some y2 := hf 2 _ rfl
    have h3 : DataW.trod enc Tryz.prog W base spare held n 28 (([c0, c1, c2, c3, c4].drop 3).take (Tryz.prog.cellsOf 28)) = some y3 := hf 3 _ rfl
    have h4 : DataW.trod enc Tryz.prog W base spare held n 29 (([c0, c1, c2, c3, c4].drop 4).take (Tryz.prog.cellsOf 29)) = some y4 := hf 4 _ rfl
    rw [cells_int] at h0
    rw [cells_str] at h1
    rw [cells_i64] at h2
    rw [cells_strs] at h3
    rw [cells_exs] at h4
    obtain ⟨n0, e0, z0, w0⟩ := DataW.trod_int Tryz.underlying3 h0
    obtain ⟨s1, e1, z1, w1⟩ := DataW.trod_string Tryz.underlying9 h1
    obtain ⟨n2, e2, z2, w2⟩ := DataW.trod_int Tryz.underlying2 h2
    obtain ⟨v3, l3, e3, z3, w3⟩ := strs_opened h3
    obtain ⟨v4, l4, e4, z4, w4⟩ := slice_opened (R := ExAt W) (wt := wX) Tryz.underlying29 h4 (fun m hm cs' y hy => ih m (by omega) hy)
    cases e0; cases e1; cases e2; cases e3; cases e4
    subst z0 z1 z2
    refine ⟨.mk n0 s1.data.toList n2 l3 l4, ?_, ?_⟩
    · have := ex_mk (w := W) (op := n0) (n := n2) (nm := s1.data.toList) (i64_wf w0) (i64_wf w2) (by rw [Array.length_toList]; exact w1) z3 z4
      rwa [str_eq] at this
    · rw [wX, wXs_L]
      simp only [List.map_cons, List.map_nil, Rows.uptoBulk, Rows.uptoBulkAll]
      omega
theorem two2 {α : Type _} {l : List α} (h : l.length = 2) : ∃ a b, l = [a, b] := by
  match l, h with
  | [a, b], _ => exact ⟨a, b, rfl⟩
theorem three3 {α : Type _} {l : List α} (h : l.length = 3) : ∃ a b c, l = [a, b, c] := by
  match l, h with
  | [a, b, c], _ => exact ⟨a, b, c, rfl⟩
theorem cells_smp : Tryz.prog.cellsOf 40 = 2 := by kernel_rfl
theorem cells_nam : Tryz.prog.cellsOf 64 = 3 := by kernel_rfl
theorem cells_typ : Tryz.prog.cellsOf 22 = 1 := by kernel_rfl
theorem cells_clk : Tryz.prog.cellsOf 33 = 1 := by kernel_rfl
theorem wL_one {X : Type} : ∀ l : List X, wL (fun _ => 1) l = l.length
  | [] => rfl
  | x :: l => by rw [wL, wL_one l, List.length_cons]; omega
theorem wL_mem {X : Type} {f : X → Nat} : ∀ {l : List X}, ∀ x ∈ l, f x ≤ wL f l
  | [], x, h => by cases h
  | y :: l, x, h => by
    rw [wL]
    rcases List.mem_cons.1 h with rfl | h
    · omega
    · have := wL_mem (f := f) x h
      omega
theorem smp_opened {fuel : Nat} {cs : List Value} {x : DataW H × List MemPlace} (h : DataW.trod enc Tryz.prog W base spare held fuel 40 cs = some x) : ∃ s : Tx × Tx, SmpC cs s ∧ 1 ≤ Rows.uptoBulk x.1 := by
  obtain ⟨ys, n, rfl, rfl, hl, hy, hf⟩ := DataW.trod_struct Tryz.underlying40 h
  rw [cells_smp] at hl
  obtain ⟨c0, c1, rfl⟩ := two2 hl
  obtain ⟨y0, y1, rfl⟩ := two2 hy
  have h0 : DataW.trod enc Tryz.prog W base spare held n 9 (([c0, c1].drop 0).take (Tryz.prog.cellsOf 9)) = some y0 := hf 0 _ rfl
  have h1 : DataW.trod enc Tryz.prog W base spare held n 9 (([c0, c1].drop 1).take (Tryz.prog.cellsOf 9)) = some y1 := hf 1 _ rfl
  rw [cells_str] at h0 h1
  obtain ⟨s0, e0, z0, w0⟩ := DataW.trod_string Tryz.underlying9 h0
  obtain ⟨s1, e1, z1, w1⟩ := DataW.trod_string Tryz.underlying9 h1
  cases e0; cases e1
  exact ⟨(s0.data.toList, s1.data.toList), ⟨by rw [str_eq, str_eq], by rw [Array.length_toList]; exact w0, by rw [Array.length_toList]; exact w1⟩, by simp [Rows.uptoBulk]⟩
theorem nam_opened {fuel : Nat} {cs : List Value} {x : DataW H × List MemPlace} (h : DataW.trod enc Tryz.prog W base spare held fuel 64 cs = some x) : ∃ v : Vr, NamC W cs v ∧ v.2.length ≤ Rows.uptoBulk x.1 := by
  obtain ⟨ys, n, rfl, rfl, hl, hy, hf⟩ := DataW.trod_struct Tryz.underlying64 h
  rw [cells_nam] at hl
  obtain ⟨c0, c1, c2, rfl⟩ := three3 hl
  obtain ⟨y0, y1, y2, rfl⟩ := three3 hy
  have h0 : DataW.trod enc Tryz.prog W base spare held n 9 (([c0, c1, c2].drop 0).take (Tryz.prog.cellsOf 9)) = some y0 := hf 0 _ rfl
  have h1 : DataW.trod enc Tryz.prog W base spare held n 22 (([c0, c1, c2].drop 1).take (Tryz.prog.cellsOf 22)) = some y1 := hf 1 _ rfl
  have h2 : DataW.trod enc Tryz.prog W base spare held n 33 (([c0, c1, c2].drop 2).take (Tryz.prog.cellsOf 33)) = some y2 := hf 2 _ rfl
  rw [cells_str] at h0
  rw [cells_typ] at h1
  rw [cells_clk] at h2
  obtain ⟨s0, e0, z0, w0⟩ := DataW.trod_string Tryz.underlying9 h0
  obtain ⟨n1, e1, z1, w1⟩ := DataW.trod_int Tryz.underlying22 h1
  obtain ⟨v2, l2, e2, z2, w2⟩ := slice_opened (R := SmpC) (wt := fun _ => 1) Tryz.underlying33 h2 (fun m _ cs' y hy => smp_opened hy)
  cases e0; cases e1; cases e2
  subst z0 z1
  rw [wL_one] at w2
  obtain ⟨A, c, rfl, z⟩ := z2
  refine ⟨(s0.data.toList, l2), ⟨n1, A, l2.length, c, by rw [str_eq], by rw [Array.length_toList]; exact w0, A, c, rfl, z⟩, ?_⟩
  simp only [List.map_cons, List.map_nil, Rows.uptoBulk, Rows.uptoBulkAll]
  show l2.length ≤ _
  omega
/-- variables with their clocks that came in -/
theorem vars_opened {fuel : Nat} {cs : List Value} {x : DataW H × List MemPlace} (h : DataW.trod enc Tryz.prog W base spare held fuel 27 cs = some x) : ∃ v l, cs = [v] ∧ VarsAt W v l ∧ ∀ u ∈ l, u.2.length ≤ Rows.uptoBulk x.1 := by
  obtain ⟨v, l, h1, h2, h3⟩ := slice_opened (R := NamC W) (wt := fun u => u.2.length) Tryz.underlying27 h (fun m _ cs' y hy => nam_opened hy)
  exact ⟨v, l, h1, h2, fun u hu => by have := wL_mem (f := fun u : Vr => u.2.length) u hu; omega⟩
theorem slim_of : ∀ x : Ex, wX x ≤ 1048576 → Slim x := by
  intro x
  induction x using Ex.rec (motive_2 := fun l => wXs l ≤ 1048576 → SlimL l) with
  | mk op nm n cs ks ih =>
    intro h
    rw [wX] at h
    have h1 : cs.length ≤ wN cs := by
      clear h ih
      induction cs with
      | nil => simp
      | cons a r ih => rw [wN, List.length_cons]; omega
    have h2 : ks.length ≤ wXs ks := by
      clear h ih h1
      induction ks with
      | nil => simp
      | cons a r ih =>
        rw [wXs, List.length_cons]
        have : 1 ≤ wX a := by cases a; rw [wX]; omega
        omega
    rw [Slim]
    exact ⟨by omega, by omega, ih (by omega)⟩
  | nil h => rw [SlimL]; trivial
  | cons k l h1 h2 h =>
    rw [wXs] at h
    rw [SlimL]
    exact ⟨h1 (by omega), h2 (by omega)⟩
end
theorem cells_slice {P : Program} {W : World} {r : Reach} {b : Nat} {t e : TypeId} {v : Value} (ht : P.underlying t = some (.slice e)) (h : Value.okWide P W r b t v) : v.cells = #[v] := by
  obtain ⟨a, len, cap, rfl⟩ := okWide_slice ht h
  rfl
end Go.Proofs.YtmceablhndldiaaGreatDoor
