/-
  Texts joined.
-/
import Derived.Carry
import Derived.ChangeSame
import Derived.Deep.Fields
import Derived.Deep.Slices
import Derived.OpenShut
import Derived.Test.YtlhmdjhfmhkllaaGreatDoorRows
import Derived.Test.YtlhmdjhfmhkllaaGreatDoorKb07
namespace Go.Proofs.YtlhmdjhfmhkllaaGreatDoor
open Go.ChangeShapes Go.WideShapes Go.Deep Go.RowKit
/-- the letters of a list of names, and one more for each -/
def wN : List Tx → Nat
  | [] => 0
  | x :: r => x.length + 1 + wN r
/- weights of trees: never above their data's bulk -/
mutual
def wX : Ex → Nat
  | .mk _ nm _ cs ks => nm.length + wN cs + wXs ks + 6
def wXs : List Ex → Nat
  | [] => 0
  | k :: r => wX k + wXs r
end
def wL {X : Type} (f : X → Nat) : List X → Nat
  | [] => 0
  | x :: r => f x + wL f r
theorem wXs_L (l : List Ex) : wXs l = wL wX l := by
  induction l with
  | nil => simp [wXs, wL]
  | cons x r ih => simp [wXs, wL, ih]
theorem wN_L (l : List Tx) : wN l = wL (fun x => x.length + 1) l := by
  induction l with
  | nil => simp [wN, wL]
  | cons x r ih => simp [wN, wL, ih]
theorem bulk_part {H : Type} {d : DataW H} {l : List (DataW H)} (h : d ∈ l) : Rows.uptoBulk d ≤ Rows.uptoBulkAll l := by
  induction l with
  | nil => cases h
  | cons x r ih =>
    simp only [Rows.uptoBulkAll]; rcases List.mem_cons.1 h with rfl | h
    · omega
    · have := ih h; omega
section
variable {H : Type} {enc : TypeId × Value → H} {W : World} {base : Nat} {spare : Nat → Bool} {held : Bool}
theorem list_of {α β : Type} {l : List β} {n : Nat} {P : Nat → α → β → Prop} (hl : l.length = n) (h : ∀ i b, l[i]? = some b → ∃ a, P i a b) : ∃ m : List α, m.length = n ∧ ∀ i a b, m[i]? = some a → l[i]? = some b → P i a b := by
  induction l generalizing n P with
  | nil => exact ⟨[], by simpa using hl, fun i a b h => by simp at h⟩
  | cons b r ih =>
    obtain ⟨a, ha⟩ := h 0 b rfl; obtain ⟨m, hm, hP⟩ := ih (n := r.length) (P := fun i => P (i + 1)) rfl (fun i b hb => h (i + 1) b (by simpa using hb)); refine ⟨a :: m, by simp at hl ⊢; omega, fun i x y hx hy => ?_⟩; cases i with
    | zero => simp at hx hy; subst hx hy; exact ha
    | succ i => exact hP i x y (by simpa using hx) (by simpa using hy)
theorem slice_opened {X : Type} {R : List Value → X → Prop} {wt : X → Nat} {t e : TypeId} {fuel : Nat} {cs : List Value} {x : DataW H × List MemPlace} (ht : Tryz.prog.underlying t = some (.slice e))
    (h : DataW.trod enc Tryz.prog W base spare held fuel t cs = some x)
    (he : ∀ n, n < fuel → ∀ cs' y, DataW.trod enc Tryz.prog W base spare held n e cs' = some y → ∃ z, R cs' z ∧ wt z ≤ Rows.uptoBulk y.1) : ∃ v l, cs = [v] ∧ SliceAt W R v l ∧ wL wt l + 1 ≤ Rows.uptoBulk x.1 := by
  rcases DataW.trod_slice ht h with ⟨rfl, rfl⟩ | ⟨a, len, cap, elems, rest, n, rfl, rfl, rfl, _, hl, hm, hlen, hel, _⟩
  · exact ⟨_, [], rfl, ⟨none, 0, rfl, Nat.le_refl _, by unfold maxLen; omega, fun i x h => by simp at h⟩, by simp [wL, Rows.uptoBulk]⟩
  · have hall : ∀ (i : Nat) b, elems[i]? = some b → ∃ z, (∃ cs', ElemAt W (some a) i cs' ∧ R cs' z) ∧ wt z ≤ Rows.uptoBulk b.1 := by
      intro i b hb; have hi : i < len := (by rw [← hlen]; exact (List.getElem?_eq_some_iff.1 hb).1); have := hel i hi; rw [hb] at this; obtain ⟨cs', hc, ht'⟩ := Option.bind_eq_some_iff.1 this; obtain ⟨_, hlc, hat⟩ := World.cells?_some hc; obtain ⟨z, hz, hw⟩ := he n (Nat.lt_succ_self n) cs' b ht'; refine ⟨z, ⟨cs', ⟨a, rfl, fun j u hu => ?_⟩, hz⟩, hw⟩; rw [hlc]; exact (hat j (by rw [← hlc]; exact (List.getElem?_eq_some_iff.1 hu).1)).trans hu
    obtain ⟨l, hll, hP⟩ := list_of hlen hall; have hsum : ∀ (es : List (DataW H × List MemPlace)) (m : List X), m.length = es.length → (∀ (i : Nat) z b, m[i]? = some z → es[i]? = some b → wt z ≤ Rows.uptoBulk b.1) → wL wt m ≤ Rows.uptoBulkAll (es.map (·.1)) := by
      intro es; induction es with
      | nil => intro m hm _; have : m = [] := List.eq_nil_of_length_eq_zero (by simpa using hm); subst this; simp [wL]
      | cons b r ih =>
        intro m hm hq; cases m with
        | nil => simp at hm
        | cons z m =>
          have h1 := hq 0 z b rfl rfl; have h2 := ih m (by simpa using hm) (fun i z b hz hb => hq (i + 1) z b (by simpa using hz) (by simpa using hb)); simp only [wL, List.map_cons, Rows.uptoBulkAll]; omega
    refine ⟨_, l, rfl, ⟨some a, cap, by rw [hll], by omega, hm, fun i x hx => ?_⟩, ?_⟩
    · have hi : i < elems.length := by rw [hlen, ← hll]; exact (List.getElem?_eq_some_iff.1 hx).1
      obtain ⟨⟨cs', h1, h2⟩, _⟩ := hP i x _ hx (List.getElem?_eq_getElem hi); exact ⟨cs', h1, h2⟩
    · have := hsum elems l (by omega) (fun i z b hz hb => (hP i z b hz hb).2); simp only [Rows.uptoBulk]; omega
theorem strs_opened {fuel : Nat} {cs : List Value} {x : DataW H × List MemPlace} (h : DataW.trod enc Tryz.prog W base spare held fuel 34 cs = some x) : ∃ v l, cs = [v] ∧ StrsAt W v l ∧ wN l + 1 ≤ Rows.uptoBulk x.1 := by
  obtain ⟨v, l, h1, h2, h3⟩ := slice_opened (R := StrCell) (wt := fun x => x.length + 1) Tryz.underlying34 h (fun n _ cs' y hy => by
    obtain ⟨s, rfl, rfl, hs⟩ := DataW.trod_string Tryz.underlying9 hy; exact ⟨s.data.toList, ⟨by rw [str_eq], by rw [Array.length_toList]; exact hs⟩, by simp [Rows.uptoBulk]⟩)
  exact ⟨v, l, h1, h2, by rw [wN_L]; exact h3⟩
theorem five {α : Type _} {l : List α} (h : l.length = 5) : ∃ a b c d e, l = [a, b, c, d, e] := by
  match l, h with
  | [a, b, c, d, e], _ => exact ⟨a, b, c, d, e, rfl⟩
theorem i64_wf {n : Int} (h : (Lit.int .i64 n).wf = true) : i64B n := bounds_i64 h
theorem ex_mk {w : World} {op n : Int} {nm : Tx} {cs : List Tx} {ks : List Ex} {cv kv : Value} (hop : i64B op) (hn : i64B n) (hm : nm.length ≤ maxLen) (hcs : StrsAt w cv cs) (hk : SliceAt w (ExAt w) kv ks) :
    ExAt w [.int .i64 op, .string (str nm), .int .i64 n, cv, kv] (.mk op nm n cs ks) := by
  obtain ⟨A, c, rfl, h1, h2, h3⟩ := hk; have : ∀ i, ∃ L, ∀ x, ks[i]? = some x → ElemAt w A i L ∧ ExAt w L x := by
    intro i; cases h : ks[i]? with
    | none => exact ⟨[], fun x hx => by cases hx⟩
    | some y =>
      obtain ⟨L, hL⟩ := h3 i y h; exact ⟨L, fun x hx => by cases hx; exact hL⟩
  obtain ⟨C, hC⟩ := Classical.axiomOfChoice this; exact .mk (C := C) hop hm hn hcs h1 h2 (fun i k hi => (hC i k hi).1) (fun i k hi => (hC i k hi).2)
theorem cells_int : Tryz.prog.cellsOf 3 = 1 := by kernel_rfl
theorem cells_i64 : Tryz.prog.cellsOf 2 = 1 := by kernel_rfl
theorem cells_str : Tryz.prog.cellsOf 9 = 1 := by kernel_rfl
theorem cells_strs : Tryz.prog.cellsOf 34 = 1 := by kernel_rfl
theorem cells_exs : Tryz.prog.cellsOf 35 = 1 := by kernel_rfl
theorem cells_ex : Tryz.prog.cellsOf 37 = 5 := by kernel_rfl
set_option maxRecDepth 100000 in
theorem ex_opened : ∀ {fuel : Nat} {cs : List Value} {x : DataW H × List MemPlace}, DataW.trod enc Tryz.prog W base spare held fuel 37 cs = some x → ∃ y : Ex, ExAt W cs y ∧ wX y ≤ Rows.uptoBulk x.1 := by
  intro fuel; induction fuel using Nat.strongRecOn with
  | _ fuel ih =>
    intro cs x h; obtain ⟨ys, n, rfl, rfl, hl, hy, hf⟩ := DataW.trod_struct Tryz.underlying37 h; rw [cells_ex] at hl; obtain ⟨c0, c1, c2, c3, c4, rfl⟩ := five hl; obtain ⟨y0, y1, y2, y3, y4, rfl⟩ := five hy; have h0 : DataW.trod enc Tryz.prog W base spare held n 3 (([c0, c1, c2, c3, c4].drop 0).take (Tryz.prog.cellsOf 3)) = some y0 := hf 0 _ rfl; have h1 : DataW.trod enc Tryz.prog W base spare held n 9 (([c0, c1, c2, c3, c4].drop 1).take (Tryz.prog.cellsOf 9)) = some y1 := hf 1 _ rfl; have h2 : DataW.trod enc Tryz.prog W base spare held n 2 (([c0, c1, c2, c3, c4].drop 2).take (Tryz.prog.cellsOf 2)) = some y2 := hf 2 _ rfl; have h3 : DataW.trod enc Tryz.prog W base spare held n 34 (([c0, c1, c2, c3, c4].drop 3).take (Tryz.prog.cellsOf 34)) = some y3 := hf 3 _ rfl; have h4 : DataW.trod enc Tryz.prog W base spare held n 35 (([c0, c1, c2, c3, c4].drop 4).take (Tryz.prog.cellsOf 35)) = some y4 := hf 4 _ rfl; rw [cells_int] at h0; rw [cells_str] at h1; rw [cells_i64] at h2; rw [cells_strs] at h3; rw [cells_exs] at h4; obtain ⟨n0, e0, z0, w0⟩ := DataW.trod_int Tryz.underlying3 h0; obtain ⟨s1, e1, z1, w1⟩ := DataW.trod_string Tryz.underlying9 h1; obtain ⟨n2, e2, z2, w2⟩ := DataW.trod_int Tryz.underlying2 h2; obtain ⟨v3, l3, e3, z3, w3⟩ := strs_opened h3; obtain ⟨v4, l4, e4, z4, w4⟩ := slice_opened (R := ExAt W) (wt := wX) Tryz.underlying35 h4 (fun m hm cs' y hy => ih m (by omega) hy); cases e0; cases e1; cases e2; cases e3; cases e4; subst z0 z1 z2; refine ⟨.mk n0 s1.data.toList n2 l3 l4, ?_, ?_⟩
    · have := ex_mk (w := W) (op := n0) (n := n2) (nm := s1.data.toList) (i64_wf w0) (i64_wf w2) (by rw [Array.length_toList]; exact w1) z3 z4; rwa [str_eq] at this
    · rw [wX, wXs_L]; simp only [List.map_cons, List.map_nil, Rows.uptoBulk, Rows.uptoBulkAll]; omega
end
end Go.Proofs.YtlhmdjhfmhkllaaGreatDoor
namespace Go.Proofs.YtlhmdjhfmhkllaaGreatDoor
end Go.Proofs.YtlhmdjhfmhkllaaGreatDoor
namespace Go.Proofs.YtlhmdjhfmhkllaaGreatDoor
open Go.ChangeShapes Go.WideShapes Go.Deep Go.RowKit
section
variable {H : Type} {enc : TypeId × Value → H} {W : World} {base : Nat} {spare : Nat → Bool} {held : Bool}
end
end Go.Proofs.YtlhmdjhfmhkllaaGreatDoor

namespace Go.Proofs.YtlhmdjhfmhkllaaGreatDoor
open Go.ChangeShapes Go.WideShapes Go.Deep Go.RowKit
theorem okWide_arr0 {P : Program} {w : World} {r : Reach} {base : Nat} {t e : TypeId} {n : Nat} {v : Value} (ht : P.underlying t = some (.array n e)) (h : Value.okWide P w r base t v) : ∃ cs, v = .agg cs ∧ cs.size = P.cellsOf t := by
  simp only [Value.okWide, ht] at h; obtain ⟨cs, h1, h2, _⟩ := h; exact ⟨cs, h1, h2⟩
section
variable {H : Type} {enc : TypeId × Value → H} {W : World} {base : Nat} {spare : Nat → Bool} {held : Bool}
theorem trod_arr {t e : TypeId} {k : Nat} {fuel : Nat} {cs : List Value} {x : DataW H × List MemPlace} (ht : Tryz.prog.underlying t = some (.array k e)) (h : DataW.trod enc Tryz.prog W base spare held fuel t cs = some x) :
    ∃ (ys : List (DataW H × List MemPlace)) (n : Nat), cs.length = Tryz.prog.cellsOf t ∧ x = (.agg (ys.map (·.1)), ys.flatMap (·.2)) ∧ ((List.range k).mapM fun i => DataW.trod enc Tryz.prog W base spare held n e ((cs.drop (i * Tryz.prog.cellsOf e)).take (Tryz.prog.cellsOf e))) = some ys := by
  cases fuel with
  | zero => simp [DataW.trod] at h
  | succ m =>
    rw [DataW.trod_step] at h; unfold DataW.trodStep at h; simp only [ht] at h; by_cases hl : cs.length = Tryz.prog.cellsOf t
    · rw [if_pos hl] at h; simp only [Option.map_eq_some_iff] at h; obtain ⟨ys, hy, rfl⟩ := h; exact ⟨ys, m, hl, rfl, hy⟩
    · rw [if_neg hl] at h; cases h
theorem cells_ex3 : Tryz.prog.cellsOf 41 = 15 := by kernel_rfl
theorem cells_in2 : Tryz.prog.cellsOf 42 = 2 := by kernel_rfl
theorem fifteen {α : Type _} {l : List α} (h : l.length = 15) : ∃ a b c : List α, l = a ++ b ++ c ∧ a.length = 5 ∧ b.length = 5 ∧ c.length = 5 := by
  refine ⟨l.take 5, (l.drop 5).take 5, l.drop 10, ?_, by simp; omega, by simp; omega, by simp; omega⟩; have h2 : (l.drop 5).take 5 ++ l.drop 10 = l.drop 5 := (by have := List.take_append_drop 5 (l.drop 5); rwa [List.drop_drop] at this); rw [List.append_assoc, h2, List.take_append_drop]
theorem two_of {α : Type _} {l : List α} (h : l.length = 2) : ∃ a b, l = [a, b] := by
  match l, h with
  | [a, b], _ => exact ⟨a, b, rfl⟩
theorem ex3_opened {fuel : Nat} {cs : List Value} {x : DataW H × List MemPlace} (h : DataW.trod enc Tryz.prog W base spare held fuel 41 cs = some x) :
    ∃ (L0 L1 L2 : List Value) (y0 y1 y2 : Ex), cs = L0 ++ L1 ++ L2 ∧ ExAt W L0 y0 ∧ ExAt W L1 y1 ∧ ExAt W L2 y2 ∧ wX y0 ≤ Rows.uptoBulk x.1 ∧ wX y1 ≤ Rows.uptoBulk x.1 ∧ wX y2 ≤ Rows.uptoBulk x.1 := by
  obtain ⟨ys, n, hl, rfl, hy⟩ := trod_arr Tryz.underlying41 h; rw [cells_ex3] at hl; obtain ⟨L0, L1, L2, rfl, l0, l1, l2⟩ := fifteen hl; rw [show List.range 3 = [0, 1, 2] from rfl, cells_ex] at hy; simp only [List.mapM_cons, List.mapM_nil, bind, Option.bind_eq_some_iff, pure, Option.some.injEq] at hy; obtain ⟨z0, h0, r1, ⟨z1, h1, r2, ⟨z2, h2, r3, rfl, rfl⟩, rfl⟩, rfl⟩ := hy; have e0 : ((L0 ++ L1 ++ L2).drop (0 * 5)).take 5 = L0 := (by rw [Nat.zero_mul, List.drop_zero, List.append_assoc, List.take_left' l0]); have e1 : ((L0 ++ L1 ++ L2).drop (1 * 5)).take 5 = L1 := (by rw [Nat.one_mul, List.append_assoc, List.drop_left' l0, List.take_left' l1]); have e2 : ((L0 ++ L1 ++ L2).drop (2 * 5)).take 5 = L2 := (by rw [List.drop_left' (by simp [l0, l1]), List.take_of_length_le (by omega)]); rw [e0] at h0; rw [e1] at h1; rw [e2] at h2; obtain ⟨y0, a0, w0⟩ := ex_opened h0; obtain ⟨y1, a1, w1⟩ := ex_opened h1; obtain ⟨y2, a2, w2⟩ := ex_opened h2; refine ⟨L0, L1, L2, y0, y1, y2, rfl, a0, a1, a2, ?_, ?_, ?_⟩ <;> simp only [List.map_cons, List.map_nil, Rows.uptoBulk, Rows.uptoBulkAll] <;> omega
theorem in2_opened {fuel : Nat} {cs : List Value} {x : DataW H × List MemPlace} (h : DataW.trod enc Tryz.prog W base spare held fuel 42 cs = some x) : ∃ a b : Int, cs = [.int .i64 a, .int .i64 b] := by
  obtain ⟨ys, n, hl, rfl, hy⟩ := trod_arr Tryz.underlying42 h; rw [cells_in2] at hl; obtain ⟨c0, c1, rfl⟩ := two_of hl; rw [show List.range 2 = [0, 1] from rfl, cells_int] at hy; simp only [List.mapM_cons, List.mapM_nil, bind, Option.bind_eq_some_iff, pure, Option.some.injEq] at hy; obtain ⟨z0, h0, r1, ⟨z1, h1, r2, rfl, rfl⟩, rfl⟩ := hy; obtain ⟨n0, e0, _, _⟩ := DataW.trod_int Tryz.underlying3 h0; obtain ⟨n1, e1, _, _⟩ := DataW.trod_int Tryz.underlying3 h1; simp at e0 e1; exact ⟨n0, n1, by rw [e0, e1]⟩
end
end Go.Proofs.YtlhmdjhfmhkllaaGreatDoor
