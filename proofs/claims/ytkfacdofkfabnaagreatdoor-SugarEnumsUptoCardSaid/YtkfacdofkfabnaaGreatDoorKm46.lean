import Derived.Test.YtkfacdofkfabnaaGreatDoorKm12
import Derived.Test.YtkfacdofkfabnaaGreatDoorKm14
import Derived.Test.YtkfacdofkfabnaaGreatDoorKm16
import Derived.Test.YtkfacdofkfabnaaGreatDoorKm45
set_option maxRecDepth 1000000
noncomputable section
namespace Go.Proofs.YtkfacdofkfabnaaGreatDoor
open _root_.Go.Proofs.Tryz
open Go.RowKit
def IT : List Nat := [110, 111, 100, 101, 32, 102, 40, 120, 44, 32, 121, 41, 32, 61, 32, 40, 122, 41, 32, 119, 104, 101, 114, 101, 32, 122, 32, 61, 32, 109, 97, 116, 99, 104, 32, 120, 32, 40, 70, 97, 108, 115, 101, 32, 45, 62, 32, 121, 32, 43, 32, 49, 32, 124, 32, 84, 114, 117, 101, 32, 45, 62, 32, 50, 41, 59, 32, 101, 110, 100]
def JP : Tx := [109, 101, 114, 103, 101, 32, 120, 32, 40, 32, 70, 97, 108, 115, 101, 32, 45, 62, 32, 40, 32, 40, 32, 121, 32, 119, 104, 101, 110, 32, 70, 97, 108, 115, 101, 32, 40, 32, 120, 32, 41, 32, 41, 32, 43, 32, 49, 32, 41, 32, 124, 32, 84, 114, 117, 101, 32, 45, 62, 32, 50, 32, 41]
abbrev ev6 : Sx.Ctx := Sx.evCall prog [35] [79] 300
def Ay (h : Sx.H) (v : Sx.AV) : Option Ex := match l9 h 5 v with
 | some (1, [_, _, _, _, x]) => (match l9 h 7 x with
   | some (1, [_, a, b, c, d, e, _]) => Ez h 30 [a, b, c, d, e]
   | _ => none)
 | _ => none
def Iw (x : Ex) : Bool := (putL false (aE x)).length <= 140737488355328 && jO (aE x) == JP
def yG (a : Sx.AV) : Bool := Sx.onSlice false (λ _ _ _ _ => true) a
def EV : Bool := match ev6 7 [.str IT] 1000 .leaf with
 | .ok (.tuple [.agg [en, nd], .agg [.int .i64 a, .int .i64 b, .int .i64 d]]) c h _ => (match ev6 5 [.agg [en, nd]] c h with
   | .ok (.tuple [.agg [eq, nq], .agg [.int .i64 a', .int .i64 b', .int .i64 d']]) _ h' _ => (match Ay h' nq with
     | some x => a == 0 && b == 0 && d == 0 && a' == 0 && b' == 0 && d' == 0 && Iw x && yG en && yG nd && yG eq
     | none => false)
   | _ => false)
 | _ => false
theorem zj : EV = true := by decide +kernel
theorem t7 : ∃ en nd c h l nq eq c' h' l' x, ev6 7 [.str IT] 1000 .leaf = .ok (.tuple [.agg [en, nd], .agg [.int .i64 0, .int .i64 0, .int .i64 0]]) c h l /\
  ev6 5 [.agg [en, nd]] c h = .ok (.tuple [.agg [eq, nq], .agg [.int .i64 0, .int .i64 0, .int .i64 0]]) c' h' l' /\ Ay h' nq = some x /\ (aQ (aE x) /\ jO (aE x) = JP) /\ yG en = true /\ yG nd = true /\ yG eq = true := by
 have e := zj; unfold EV at e; split at e
 . rename_i en nd a b d c h l h1; split at e
   . rename_i eq nq a' b' d' c' h' l' h2; split at e
     . rename_i x hx; simp only [Bool.and_eq_true, beq_iff_eq, Iw, decide_eq_true_eq] at e; obtain ⟨⟨⟨⟨⟨⟨⟨⟨⟨rfl, rfl⟩, rfl⟩, rfl⟩, rfl⟩, rfl⟩, h3⟩, h5⟩, h6⟩, h7⟩ := e; exact ⟨en, nd, c, h, l, nq, eq, c', h', l', x, h1, h2, hx, h3, h5, h6, h7⟩
     . cases e
   . cases e
 . cases e
theorem D4 {ρ : Sx.Ren} {h : Sx.H} {w : World} (r : Sx.Rel ρ h w) {a : Sx.AV} {v : Value} {x : Ex} (hv : Sx.VR ρ a v) (e : Ay h a = some x) :
  ∃ b o k b2 o2 k2 L, v = .slice (some ⟨b, o, none⟩) 1 k /\ w.cell? ⟨b, o + 4, none⟩ = some (.slice (some ⟨b2, o2, none⟩) 1 k2) /\ cr w ⟨b2, o2 + 1, none⟩ L /\ a7 w L x := by
 unfold Ay at e; split at e
 . rename_i c0 c1 c2 c3 c4 h1; split at e
   . rename_i d0 d1 d2 d3 d4 d5 d6 h2; obtain ⟨A, k, rfl, _, _, _, ⟨vs, g1, g2⟩, g3⟩ := ly r hv h1; simp only [Sx.VRs] at g1; obtain ⟨v0, _, rfl, _, v1, _, rfl, _, v2, _, rfl, _, v3, _, rfl, _, v4, _, rfl, q4, rfl⟩ := g1; obtain ⟨a1, rfl, g4⟩ := g2 0 zO; rcases g3 with g3 | ⟨b, o, g3⟩
     . cases g3
     cases g3; obtain ⟨A2, k2, rfl, _, _, _, ⟨us, f1, f2⟩, f3⟩ := ly r q4 h2; simp only [Sx.VRs] at f1; obtain ⟨u0, _, rfl, _, u1, _, rfl, p1, u2, _, rfl, p2, u3, _, rfl, p3, u4, _, rfl, p4, u5, _, rfl, p5, u6, _, rfl, _, rfl⟩ := f1; obtain ⟨a2, rfl, f4⟩ := f2 0 zO; rcases f3 with f3 | ⟨b2, o2, f3⟩
     . cases f3
     cases f3; refine ⟨b, o, k, b2, o2, k2, [u1, u2, u3, u4, u5], rfl, ?_, λ j u hu => ?_, AJ r 30 e (Sx.VRs.cons p1 (Sx.VRs.cons p2 (Sx.VRs.cons p3 (Sx.VRs.cons p4 (Sx.VRs.cons p5 (Sx.VRs.nil ρ))))))⟩
     . have := g4 4 (.slice (some ⟨b2, o2, none⟩) 1 k2) (by simp); rw [Nat.zero_mul, add_zero, Sx.addr_add] at this; exact this
     . have hj : j < 5 := by simpa using (List.getElem?_eq_some_iff.1 hu).1
       have := f4 (j + 1) u (by
        match j, hj with
        | 0, _ | 1, _ | 2, _ | 3, _ | 4, _ => simpa using hu)
       rw [Nat.zero_mul, add_zero, Sx.addr_add] at this; rwa [Sx.addr_add, show o2 + 1 + j = o2 + (j + 1) by omega]
   . cases e
 . cases e
structure Fz (lo hi : Nat) (w w' : World) : Prop where
 os : w'.os = w.os
 tape : w'.tape = w.tape
 output : w'.output = w.output
 size : w.heap.size <= w'.heap.size
 old : ∀ b, b < w.heap.size -> (b < lo ∨ hi <= b) -> w'.heap[b]? = w.heap[b]?
def Bd (ρ : Sx.Ren) (h : Sx.H) (lo hi : Nat) : Prop := ∀ n o b s, h.get n = some o -> ρ n = some (b, s) -> lo <= b /\ b < hi
def Im (v : Sx.AV) (h : Sx.H) (c : Nat) (w : World) (e : Ending) (w' : World) : Prop :=
 ∃ v' ρ, e = .returned v' /\ Sx.VR ρ v v' /\ Sx.Rel ρ h w' /\ (∀ n, c <= n -> ρ n = none) /\ Bd ρ h w.heap.size w'.heap.size /\ Below w.heap.size w w'
theorem BC {f : FuncId} {args : List Sx.AV} {xs : Array Value} {v : Sx.AV} {c : Nat} {h : Sx.H} {l : Sx.Log} (e : ev6 f args 1000 .leaf = .ok v c h l) (hx : Sx.VRs (λ _ => none) args xs.toList) (w : World) : Calls prog f xs w (Im v h c w) := by
 have hr : Sx.Rel (λ _ => none) (.leaf : Sx.H) w := ⟨λ n o h => (by rw [Sx.T.get_leaf] at h; cases h), λ n m o p b s t h => (by rw [Sx.T.get_leaf] at h; cases h)⟩; refine Calls.mono (((Sx.call_ok Sx.draw_ok vY uL 300).1 f args 1000 .leaf v c h l e).2 (λ _ => none) w xs hr hx λ _ _ _ => rfl) λ e w' hR => ?_; obtain ⟨v', ρ, rfl, hV, hp⟩ := hR; refine ⟨v', ρ, rfl, hV, hp.rel, λ n hn => hp.ext n zO, λ n o b s h1 h2 => ?_, ⟨hp.os, hp.tape, hp.output, hp.size, λ k hk => hp.old k hk λ n o s h => ?_⟩⟩
 . refine ⟨Nat.le_of_not_lt λ hb => ?_, ?_⟩
   . obtain ⟨m, p, t, h3, _⟩ := hp.new n o b s h1 h2 hb; rw [Sx.T.get_leaf] at h3; cases h3
   . obtain ⟨b', s', h3, h4⟩ := hp.rel.lies n o h1; rw [h2] at h3; cases h3; exact h4.lt
 . rw [Sx.T.get_leaf] at h; cases h
theorem Ds {f : FuncId} {args : List Sx.AV} {xs : Array Value} {v : Sx.AV} {c c' lo hi : Nat} {h h' : Sx.H} {l : Sx.Log} (e : ev6 f args c h = .ok v c' h' l) {ρ : Sx.Ren} {w : World} (r : Sx.Rel ρ h w) (hx : Sx.VRs ρ args xs.toList) (hf : ∀ n, c <= n -> ρ n = none) (hN : Bd ρ h lo hi) :
  Calls prog f xs w λ e w' => ∃ v' ρ', e = .returned v' /\ Sx.VR ρ' v v' /\ Sx.Rel ρ' h' w' /\ Fz lo hi w w' := by
 refine Calls.mono (((Sx.call_ok Sx.draw_ok vY uL 300).1 f args c h v c' h' l e).2 ρ w xs r hx λ n hn _ => hf n hn) λ e w' hR => ?_; obtain ⟨v', ρ', rfl, hV, hp⟩ := hR; exact ⟨v', ρ', rfl, hV, hp.rel, hp.os, hp.tape, hp.output, hp.size, λ b hb ho => hp.old b hb λ n o s h1 h2 => by have := hN n o b s h1 h2; omega⟩
theorem pz {ρ : Sx.Ren} {a : Sx.AV} {v : Value} (h : yG a = true) (hv : Sx.VR ρ a v) : ∃ A n k, v = .slice A n k := by
 cases a with
 | slice a n c z =>
   cases a with
   | none => simp only [Sx.VR] at hv; exact ⟨_, _, _, hv⟩
   | some a => simp only [Sx.VR] at hv; obtain ⟨_, _, _, _, _, rfl, _⟩ := hv; exact ⟨_, _, _, rfl⟩
 | _ => cases h
theorem zJ {ρ : Sx.Ren} {a b : Sx.AV} {v : Value} (h : Sx.VR ρ (.tuple [.agg [a, b], .agg [.int .i64 0, .int .i64 0, .int .i64 0]]) v) :
  ∃ u1 u2, v = .tuple #[.agg #[u1, u2], .agg #[.int .i64 0, .int .i64 0, .int .i64 0]] /\ Sx.VR ρ a u1 /\ Sx.VR ρ b u2 := by
 simp only [Sx.VR, Sx.VRs] at h; obtain ⟨⟨x⟩, rfl, v1, _, hx, ⟨⟨y⟩, rfl, u1, _, hy, k1, u2, _, rfl, k2, rfl⟩, v2, _, rfl, ⟨⟨z⟩, rfl, n1, _, hz, rfl, n2, _, rfl, rfl, n3, _, rfl, rfl, rfl⟩, rfl⟩ := h; simp only at hx hy hz; subst hx hy hz; exact ⟨u1, u2, rfl, k1, k2⟩
end Go.Proofs.YtkfacdofkfabnaaGreatDoor
