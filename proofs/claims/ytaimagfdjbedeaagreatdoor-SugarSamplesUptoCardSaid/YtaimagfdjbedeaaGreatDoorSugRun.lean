/-
  Two runs for the look of the laws of layer 6, of Parse and of Plain; what they leave is told as a tree.
-/
import Derived.Test.YtaimagfdjbedeaaGreatDoorSxEx
import Derived.Test.YtaimagfdjbedeaaGreatDoorSxIdle
import Derived.Test.YtaimagfdjbedeaaGreatDoorTreeNms
import Derived.Test.YtaimagfdjbedeaaGreatDoorTreeMade
namespace Go.Proofs.YtaimagfdjbedeaaGreatDoor
open Go.RowKit

def src6 : List Nat := [110, 111, 100, 101, 32, 102, 40, 120, 44, 32, 121, 41, 32, 61, 32, 40, 122, 41, 32, 119, 104, 101, 114, 101, 32, 122, 32, 61, 32, 109, 97, 116, 99, 104, 32, 120, 32, 40, 70, 97, 108, 115, 101, 32, 45, 62, 32, 121, 32, 43, 32, 49, 32, 124, 32, 84, 114, 117, 101, 32, 45, 62, 32, 50, 41, 59, 32, 101, 110, 100]
def txt6 : Tx := [109, 101, 114, 103, 101, 32, 120, 32, 40, 32, 70, 97, 108, 115, 101, 32, 45, 62, 32, 40, 32, 40, 32, 121, 32, 119, 104, 101, 110, 32, 70, 97, 108, 115, 101, 32, 40, 32, 120, 32, 41, 32, 41, 32, 43, 32, 49, 32, 41, 32, 124, 32, 84, 114, 117, 101, 32, 45, 62, 32, 50, 32, 41]
noncomputable abbrev ev6 : Sx.Ctx := Sx.evCall Tryz.prog [28] [55] 300
/-- the node's item's expression, of a list of one node with one item -/
noncomputable def look6 (h : Sx.H) (v : Sx.AV) : Option Ex := match sliceOf h 5 v with
  | some (1, [_, _, _, _, x]) => (match sliceOf h 7 x with
    | some (1, [_, a, b, c, d, e, _]) => exOf h 30 [a, b, c, d, e]
    | _ => none)
  | _ => none
def says6 (x : Ex) : Bool := (putL false (toksX x)).length ≤ 140737488355328 && spellL (toksX x) == txt6
noncomputable def isSl (a : Sx.AV) : Bool := Sx.onSlice false (fun _ _ _ _ => true) a
noncomputable def check6 : Bool := match ev6 10 [.str src6] 1000 .leaf with
  | .ok (.tuple [.agg [en, nd], .agg [.int .i64 a, .int .i64 b, .int .i64 d]]) c h _ => (match ev6 11 [.agg [en, nd]] c h with
    | .ok (.tuple [.agg [eq, nq], .agg [.int .i64 a', .int .i64 b', .int .i64 d']]) _ h' _ => (match look6 h' nq with
      | some x => a == 0 && b == 0 && d == 0 && a' == 0 && b' == 0 && d' == 0 && says6 x && isSl en && isSl nd && isSl eq
      | none => false)
    | _ => false)
  | _ => false
set_option maxRecDepth 1000000 in
theorem check6_run : check6 = true := by decide +kernel
theorem check6_parts : ∃ en nd c h l nq eq c' h' l' x, ev6 10 [.str src6] 1000 .leaf = .ok (.tuple [.agg [en, nd], .agg [.int .i64 0, .int .i64 0, .int .i64 0]]) c h l ∧
    ev6 11 [.agg [en, nd]] c h = .ok (.tuple [.agg [eq, nq], .agg [.int .i64 0, .int .i64 0, .int .i64 0]]) c' h' l' ∧ look6 h' nq = some x ∧ (SizeOk (toksX x) ∧ spellL (toksX x) = txt6) ∧ isSl en = true ∧ isSl nd = true ∧ isSl eq = true := by
  have e := check6_run
  unfold check6 at e
  split at e
  · rename_i en nd a b d c h l h1
    split at e
    · rename_i eq nq a' b' d' c' h' l' h2
      split at e
      · rename_i x hx
        simp only [Bool.and_eq_true, beq_iff_eq, says6, decide_eq_true_eq] at e
        obtain ⟨⟨⟨⟨⟨⟨⟨⟨⟨rfl, rfl⟩, rfl⟩, rfl⟩, rfl⟩, rfl⟩, h3⟩, h5⟩, h6⟩, h7⟩ := e
        exact ⟨en, nd, c, h, l, nq, eq, c', h', l', x, h1, h2, hx, h3, h5, h6, h7⟩
      · cases e
    · cases e
  · cases e
theorem look6_ok {ρ : Sx.Ren} {h : Sx.H} {w : World} (r : Sx.Rel ρ h w) {a : Sx.AV} {v : Value} {x : Ex} (hv : Sx.VR ρ a v) (e : look6 h a = some x) :
    ∃ b o k b2 o2 k2 L, v = .slice (some ⟨b, o, none⟩) 1 k ∧ w.cell? ⟨b, o + 4, none⟩ = some (.slice (some ⟨b2, o2, none⟩) 1 k2) ∧ CellsAt w ⟨b2, o2 + 1, none⟩ L ∧ ExAt w L x := by
  unfold look6 at e
  split at e
  · rename_i c0 c1 c2 c3 c4 h1
    split at e
    · rename_i d0 d1 d2 d3 d4 d5 d6 h2
      obtain ⟨A, k, rfl, _, _, _, ⟨vs, g1, g2⟩, g3⟩ := sliceOf_ok r hv h1
      simp only [Sx.VRs] at g1
      obtain ⟨v0, _, rfl, _, v1, _, rfl, _, v2, _, rfl, _, v3, _, rfl, _, v4, _, rfl, q4, rfl⟩ := g1
      obtain ⟨a1, rfl, g4⟩ := g2 0 (by omega)
      rcases g3 with g3 | ⟨b, o, g3⟩
      · cases g3
      cases g3
      obtain ⟨A2, k2, rfl, _, _, _, ⟨us, f1, f2⟩, f3⟩ := sliceOf_ok r q4 h2
      simp only [Sx.VRs] at f1
      obtain ⟨u0, _, rfl, _, u1, _, rfl, p1, u2, _, rfl, p2, u3, _, rfl, p3, u4, _, rfl, p4, u5, _, rfl, p5, u6, _, rfl, _, rfl⟩ := f1
      obtain ⟨a2, rfl, f4⟩ := f2 0 (by omega)
      rcases f3 with f3 | ⟨b2, o2, f3⟩
      · cases f3
      cases f3
      refine ⟨b, o, k, b2, o2, k2, [u1, u2, u3, u4, u5], rfl, ?_, fun j u hu => ?_, exOf_ok r 30 e (Sx.VRs.cons p1 (Sx.VRs.cons p2 (Sx.VRs.cons p3 (Sx.VRs.cons p4 (Sx.VRs.cons p5 (Sx.VRs.nil ρ))))))⟩
      · have := g4 4 (.slice (some ⟨b2, o2, none⟩) 1 k2) (by simp)
        rw [Nat.zero_mul, add_zero, Sx.addr_add] at this
        exact this
      · have hj : j < 5 := by simpa using (List.getElem?_eq_some_iff.1 hu).1
        have := f4 (j + 1) u (by
          match j, hj with
          | 0, _ | 1, _ | 2, _ | 3, _ | 4, _ => simpa using hu)
        rw [Nat.zero_mul, add_zero, Sx.addr_add] at this
        rwa [Sx.addr_add, show o2 + 1 + j = o2 + (j + 1) by omega]
    · cases e
  · cases e
/-- what a run leaves of the memory ahead of it: all but the blocks from lo to hi -/
structure KeptR (lo hi : Nat) (w w' : World) : Prop where
  os : w'.os = w.os
  tape : w'.tape = w.tape
  output : w'.output = w.output
  size : w.heap.size ≤ w'.heap.size
  old : ∀ b, b < w.heap.size → (b < lo ∨ hi ≤ b) → w'.heap[b]? = w.heap[b]?
def NamesIn (ρ : Sx.Ren) (h : Sx.H) (lo hi : Nat) : Prop := ∀ n o b s, h.get n = some o → ρ n = some (b, s) → lo ≤ b ∧ b < hi
def RunPost (v : Sx.AV) (h : Sx.H) (c : Nat) (w : World) (e : Ending) (w' : World) : Prop :=
  ∃ v' ρ, e = .returned v' ∧ Sx.VR ρ v v' ∧ Sx.Rel ρ h w' ∧ (∀ n, c ≤ n → ρ n = none) ∧ NamesIn ρ h w.heap.size w'.heap.size ∧ Below w.heap.size w w'
theorem run_first {f : FuncId} {args : List Sx.AV} {xs : Array Value} {v : Sx.AV} {c : Nat} {h : Sx.H} {l : Sx.Log} (e : ev6 f args 1000 .leaf = .ok v c h l) (hx : Sx.VRs (fun _ => none) args xs.toList) (w : World) : Calls Tryz.prog f xs w (RunPost v h c w) := by
  have hr : Sx.Rel (fun _ => none) (.leaf : Sx.H) w := ⟨fun n o h => (by rw [Sx.T.get_leaf] at h; cases h), fun n m o p b s t h => (by rw [Sx.T.get_leaf] at h; cases h)⟩
  refine Calls.mono (((Sx.call_ok Sx.draw_ok idle_all same_all 300).1 f args 1000 .leaf v c h l e).2 (fun _ => none) w xs hr hx fun _ _ _ => rfl) fun e w' hR => ?_
  obtain ⟨v', ρ, rfl, hV, hp⟩ := hR
  refine ⟨v', ρ, rfl, hV, hp.rel, fun n hn => hp.ext n (by omega), fun n o b s h1 h2 => ?_, ⟨hp.os, hp.tape, hp.output, hp.size, fun k hk => hp.old k hk fun n o s h => ?_⟩⟩
  · refine ⟨Nat.le_of_not_lt fun hb => ?_, ?_⟩
    · obtain ⟨m, p, t, h3, _⟩ := hp.new n o b s h1 h2 hb
      rw [Sx.T.get_leaf] at h3
      cases h3
    · obtain ⟨b', s', h3, h4⟩ := hp.rel.lies n o h1
      rw [h2] at h3
      cases h3
      exact h4.lt
  · rw [Sx.T.get_leaf] at h
    cases h
theorem run_next {f : FuncId} {args : List Sx.AV} {xs : Array Value} {v : Sx.AV} {c c' lo hi : Nat} {h h' : Sx.H} {l : Sx.Log} (e : ev6 f args c h = .ok v c' h' l) {ρ : Sx.Ren} {w : World} (r : Sx.Rel ρ h w) (hx : Sx.VRs ρ args xs.toList) (hf : ∀ n, c ≤ n → ρ n = none) (hN : NamesIn ρ h lo hi) :
    Calls Tryz.prog f xs w fun e w' => ∃ v' ρ', e = .returned v' ∧ Sx.VR ρ' v v' ∧ Sx.Rel ρ' h' w' ∧ KeptR lo hi w w' := by
  refine Calls.mono (((Sx.call_ok Sx.draw_ok idle_all same_all 300).1 f args c h v c' h' l e).2 ρ w xs r hx fun n hn _ => hf n hn) fun e w' hR => ?_
  obtain ⟨v', ρ', rfl, hV, hp⟩ := hR
  exact ⟨v', ρ', rfl, hV, hp.rel, hp.os, hp.tape, hp.output, hp.size, fun b hb ho => hp.old b hb fun n o s h1 h2 => by have := hN n o b s h1 h2; omega⟩
theorem vr_slice {ρ : Sx.Ren} {a : Sx.AV} {v : Value} (h : isSl a = true) (hv : Sx.VR ρ a v) : ∃ A n k, v = .slice A n k := by
  cases a with
  | slice a n c z =>
    cases a with
    | none => simp only [Sx.VR] at hv; exact ⟨_, _, _, hv⟩
    | some a => simp only [Sx.VR] at hv; obtain ⟨_, _, _, _, _, rfl, _⟩ := hv; exact ⟨_, _, _, rfl⟩
  | _ => cases h
theorem vr_pair {ρ : Sx.Ren} {a b : Sx.AV} {v : Value} (h : Sx.VR ρ (.tuple [.agg [a, b], .agg [.int .i64 0, .int .i64 0, .int .i64 0]]) v) :
    ∃ u1 u2, v = .tuple #[.agg #[u1, u2], .agg #[.int .i64 0, .int .i64 0, .int .i64 0]] ∧ Sx.VR ρ a u1 ∧ Sx.VR ρ b u2 := by
  simp only [Sx.VR, Sx.VRs] at h
  obtain ⟨⟨x⟩, rfl, v1, _, hx, ⟨⟨y⟩, rfl, u1, _, hy, k1, u2, _, rfl, k2, rfl⟩, v2, _, rfl, ⟨⟨z⟩, rfl, n1, _, hz, rfl, n2, _, rfl, rfl, n3, _, rfl, rfl, rfl⟩, rfl⟩ := h
  simp only at hx hy hz
  subst hx hy hz
  exact ⟨u1, u2, rfl, k1, k2⟩
end Go.Proofs.YtaimagfdjbedeaaGreatDoor
