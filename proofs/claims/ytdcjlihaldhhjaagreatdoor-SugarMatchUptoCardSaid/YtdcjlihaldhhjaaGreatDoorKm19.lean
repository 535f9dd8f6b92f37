import Derived.Maps.AppendAt
import Derived.Test.YtdcjlihaldhhjaaGreatDoorKm18
set_option maxHeartbeats 1000000
set_option maxRecDepth 100000
namespace Go.Proofs.YtdcjlihaldhhjaaGreatDoor
open _root_.Go.Proofs.Tryz
open Go.RowKit
def fC (B : Nat) (ob : Option Nat) (w : World) : World := { w with heap := w.heap.mapIdx λ i o => if i < B ∨ ob = some i then .cells #[] 0 (0, 0) else o }
theorem wW {w : World} {B b : Nat} {ob : Option Nat} (h : B <= b) (hb : ob ≠ some b) : (fC B ob w).heap[b]? = w.heap[b]? := by
 unfold fC; rw [Array.getElem?_mapIdx]; cases w.heap[b]? with
 | none => rfl
 | some o =>
   have h2 : ¬ (b < B ∨ ob = some b) := λ h3 => h3.elim (λ h4 => by omega) hb; simp [h2]
theorem gO {w : World} {B : Nat} {ob : Option Nat} {a : Addr} {v : Value} (h : (fC B ob w).cell? a = some v) : B <= a.block /\ ob ≠ some a.block /\ w.cell? a = some v := by
 by_cases hb : a.block < B ∨ ob = some a.block
 . exfalso; have ho : ∀ o, (fC B ob w).heap[a.block]? = some o -> o = .cells #[] 0 (0, 0) := by
    intro o ho; unfold fC at ho; rw [Array.getElem?_mapIdx] at ho; cases hw : w.heap[a.block]? with
    | none => rw [hw] at ho; cases ho
    | some q => rw [hw] at ho; simp [hb] at ho; exact ho.symm
   cases hq : (fC B ob w).heap[a.block]? with
   | none => simp [World.cell?, hq] at h
   | some o =>
     have := ho o hq; subst this; simp [World.cell?, hq] at h
 . have h1 : B <= a.block := by omega
   have h2 : ob ≠ some a.block := λ e => hb (.inr e); rw [World.cell?_of_block (wW h1 h2)] at h; exact ⟨h1, h2, h⟩
theorem lR {w : World} {B : Nat} {ob : Option Nat} {a : Addr} (h : B <= a.block) (hb : ob ≠ some a.block) : (fC B ob w).cell? a = w.cell? a := World.cell?_of_block (wW h hb)
theorem C7 (B : Nat) (ob : Option Nat) (w : World) : Sub (fC B ob w) (dB B w) := λ a v h => by
 obtain ⟨h1, _, h3⟩ := gO h
 rw [lT h1]; exact h3
theorem cg {B B' : Nat} {ob : Option Nat} {w w' : World} (hs : aH B' w w') (hB : B <= B') (ho : ∀ g, ob = some g -> g < B' ∨ w.heap.size <= g) : Sub (dB B' w) (fC B ob w') := λ a v h => by
 obtain ⟨h1, h2⟩ := kU h
 have h3 := World.block_lt_of_cell? w _ h2
 rw [lR zO (λ e => by have := ho _ e; omega), World.cell?_of_block (hs.2 _ h1 h3)]
 exact h2
def cE {X : Type} (R : World -> List Value -> X -> Prop) (B : Nat) (T : TypeId) (n : Nat) (w : World) (v : Value) (xs : List X) : Prop :=
 ∃ Ls : List (List Value), w.ownsRow B T n v xs.length Ls.flatten /\ Ls.length = xs.length /\ (∀ L ∈ Ls, L.length = n) /\ ∀ (i : Nat) L x, Ls[i]? = some L -> xs[i]? = some x -> R (fC B v.ownBlock w) L x
section
variable {X : Type} {R : World -> List Value -> X -> Prop} {B : Nat} {T TS : TypeId} {n bytes : Nat} {z : Value} (hsub : ∀ w w' L x, Sub w w' -> R w L x -> R w' L x)
theorem cE.nil (w : World) : cE R B T n w (.slice none 0 0) [] := ⟨[], ⟨by simp, .inl ⟨rfl, rfl⟩⟩, rfl, by simp, λ i L x h => by simp at h⟩
include hsub in
theorem cE.same {w w' : World} {v : Value} {xs : List X} (h : cE R B T n w v xs) (hs : aH B w w') : cE R B T n w' v xs := by
 obtain ⟨Ls, h1, h2, h3, h4⟩ := h; refine ⟨Ls, ⟨h1.1, ?_⟩, h2, h3, λ i L x hL hx => hsub _ _ _ _ (λ a u hu => ?_) (h4 i L x hL hx)⟩
 . rcases h1.2 with h5 | ⟨g, cap, cur, rfl, hg, hh, hr⟩
   . exact .inl h5
   . exact .inr ⟨g, cap, cur, rfl, hg, (hs.2 g hg (ar hh)).trans hh, hr⟩
 . obtain ⟨g1, g2, g3⟩ := gO hu; rw [lR g1 g2, World.cell?_of_block (hs.2 _ g1 (World.block_lt_of_cell? w _ g3))]; exact g3
theorem cE.shape {w : World} {v : Value} {xs : List X} (h : cE R B T n w v xs) : ∃ A m c, v = .slice A m c /\ m = xs.length := by
 obtain ⟨Ls, h1, _⟩ := h; rcases h1.2 with ⟨rfl, h0⟩ | ⟨g, cap, cur, rfl, _⟩
 . exact ⟨_, _, _, rfl, h0.symm⟩
 . exact ⟨_, _, _, rfl, rfl⟩
include hsub in
include hsub in
theorem cE.at_ {w : World} {v : Value} {xs : List X} (h : cE R B T n w v xs) : aw (dB B w) (R (dB B w)) v xs := by
 obtain ⟨Ls, hown, hl, hn, hr⟩ := h; rcases hown.2 with ⟨rfl, h0⟩ | ⟨g, cap, cur, rfl, hg, hh, hc, hm, _⟩
 . have : xs = [] := List.eq_nil_of_length_eq_zero h0; subst this; exact ⟨none, 0, rfl, Nat.le_refl _, by unfold maxLen; omega, λ i x h => by simp at h⟩
 . refine ⟨_, cap, rfl, hc, hm, λ i x hx => ?_⟩; have hi : i < Ls.length := (by rw [hl]; exact (List.getElem?_eq_some_iff.1 hx).1); have hL : Ls[i]? = some Ls[i] := List.getElem?_eq_getElem hi; have hlen := hn Ls[i] (List.getElem_mem hi); refine ⟨Ls[i], ⟨_, rfl, λ j u hu => ?_⟩, hsub _ _ _ _ (C7 _ _ _) (hr i _ x hL hx)⟩; rw [hlen, gv]; have h1 : w.cell? ((⟨g, 0, none⟩ : Addr).add (i * n + j)) = some u := by
    have h2 := hown.cells (g := g) rfl (i * n + j) u (xw Ls hn i j _ hL (by rw [<- hlen]; exact (List.getElem?_eq_some_iff.1 hu).1) u hu); exact h2
   rw [lT (by rw [bI]; exact hg)]; exact h1
include hsub in
theorem uj {ops : Array Oper} {rest : List Oper} {o : Oper} {a : Act} {Q : Exit -> Act -> World -> Prop} {W : World} {v : Value} {xs : List X} {x : X} {L : List Value} {K : Nat} (hgd : o.guard = none) (s y : Operand)
  (hop : o.op = .call { callee := .builtin .append, args := #[s, y], argTypes := #[TS, TS] }) (hT : prog.underlying TS = some (.slice T)) (hI : (prog.info? T).map (λ i => (i.zero, i.size, i.bytes)) = some (some z, n, bytes))
  (hz : z.cells.size = n) (hn : 0 < n) (hby : bytes <= 4096) (hs : a.eval s = v) (hy : a.eval y = .slice (some ⟨K, 0, none⟩) 1 1) (hK : W.heap[K]? = some (.cells L.toArray T (0, 0))) (hL : L.length = n) (hone : ∀ u ∈ L, u.oneCell' = true)
  (hO : cE R B T n W v xs) (hR : R (fC B v.ownBlock W) L x) (hl : xs.length <= 2097152) (hB : B <= W.heap.size)
  (h : ∀ v' w', cE R B T n w' v' (xs ++ [x]) -> Below B W w' -> wpList prog ops Q rest (a.put o.dst v') w') : wpList prog ops Q (o :: rest) a W := by
 obtain ⟨i0, hi, hz0, hz1, hz2⟩ := info_parts hI; obtain ⟨Ls, hown, hll, hln, hlr⟩ := hO; have hb2 : (xs.length + 1) * bytes <= 140737488355328 := by
  have : (xs.length + 1) * bytes <= 4194304 * 4096 := Nat.mul_le_mul zO hby
  omega
 refine wpList_append_own_at W hgd s y TS hop B T i0 z n bytes hT hi hz0 hz1 hz2 hz hn v xs.length _ hs hown ⟨K, 0, none⟩ 1 1 L hy (by simp [hL]) (λ j u hj => ?_) hone (by unfold maxLen; omega) hb2 hB λ v' w' h1 h2 _ h5 => h v' w' ⟨Ls ++ [L], by simpa using h1, by simp [hll], ?_, ?_⟩ ?_
 . have hadd : (⟨K, 0, none⟩ : Addr).add j = ⟨K, j, none⟩ := by unfold Addr.add; split <;> simp_all
   rw [hadd, cell_of_row _ _ _ _ _ _ hK]; simpa using hj
 . intro M hM; rcases List.mem_append.1 hM with hM | hM
   . exact hln M hM
   . simp at hM; subst hM; exact hL
 . have key : Sub (fC B v.ownBlock W) (fC B v'.ownBlock w') := λ ad u hu => by
    obtain ⟨g1, g2, g3⟩ := gO hu; have g4 := World.block_lt_of_cell? W _ g3; have g5 : v'.ownBlock ≠ some ad.block := by
     rcases h5 with e | e
     . rw [e]; exact g2
     . rw [e]; intro e2; injection e2 with e2; omega
    rw [lR g1 g5, World.cell?_of_block (h2.block _ g4 (λ e => g2 e.symm))]; exact g3
   intro i M y hM hy; by_cases hi : i < Ls.length
   . rw [List.getElem?_append_left hi] at hM; rw [List.getElem?_append_left zO] at hy; exact hsub _ _ _ _ key (hlr i M y hM hy)
   . rw [List.getElem?_append_right zO] at hM; rw [List.getElem?_append_right zO] at hy; have e1 : i - Ls.length = 0 := by
      by_cases h0 : i - Ls.length = 0
      . exact h0
      . rw [List.getElem?_eq_none (by simp; omega)] at hM; cases hM
     have e2 : i - xs.length = 0 := zO; rw [e1] at hM; rw [e2] at hy; simp at hM hy; subst hM hy; exact hsub _ _ _ _ key hR
 . exact (Below.refl B W).grown h2 hB (λ j hj => (hown.lt j hj).1)
end
section
variable {X : Type} {R : World -> List Value -> X -> Prop} {B : Nat} {T TS : TypeId} {n bytes : Nat} {z : Value} (hsub : ∀ w w' L x, Sub w w' -> R w L x -> R w' L x)
include hsub in
theorem et {o : Oper} {a : Act} {Kc : Act -> World -> Prop} {Q : Exit -> Act -> World -> Prop} {W : World} {v : Value} {xs : List X} {x : X} {L : List Value} {K : Nat} (s y : Operand)
  (hop : o.op = .call { callee := .builtin .append, args := #[s, y], argTypes := #[TS, TS] }) (hT : prog.underlying TS = some (.slice T)) (hI : (prog.info? T).map (λ i => (i.zero, i.size, i.bytes)) = some (some z, n, bytes))
  (hz : z.cells.size = n) (hn : 0 < n) (hby : bytes <= 4096) (hs : a.eval s = v) (hy : a.eval y = .slice (some ⟨K, 0, none⟩) 1 1) (hK : W.heap[K]? = some (.cells L.toArray T (0, 0))) (hL : L.length = n) (hone : ∀ u ∈ L, u.oneCell' = true)
  (hO : cE R B T n W v xs) (hR : R (fC B v.ownBlock W) L x) (hl : xs.length <= 2097152) (hB : B <= W.heap.size)
  (h : ∀ v' w', cE R B T n w' v' (xs ++ [x]) -> Below B W w' -> W.grownBy w' v.ownBlock -> Kc (a.put o.dst v') w') : o.wp prog a W Kc Q := by
 obtain ⟨i0, hi, hz0, hz1, hz2⟩ := info_parts hI; obtain ⟨Ls, hown, hll, hln, hlr⟩ := hO; have hb2 : (xs.length + 1) * bytes <= 140737488355328 := by
  have : (xs.length + 1) * bytes <= 4194304 * 4096 := Nat.mul_le_mul zO hby
  omega
 have hnews : ∀ j u, L[j]? = some u -> W.cell? ((⟨K, 0, none⟩ : Addr).add j) = some u := λ j u hj => by
  have hadd : (⟨K, 0, none⟩ : Addr).add j = ⟨K, j, none⟩ := (by unfold Addr.add; split <;> simp_all)
  rw [hadd, cell_of_row _ _ _ _ _ _ hK]; simpa using hj
 obtain ⟨v', w', hr, h1, h2, _, h5⟩ := run_append_own_at (P := prog) W B TS o.type T i0 z n bytes hT hi hz0 hz1 hz2 hz hn v xs.length _ hown ⟨K, 0, none⟩ 1 1 L (by simp [hL]) hnews hone (by unfold maxLen; omega) hb2 hB; unfold Oper.wp execOp; simp only [hop, resolve, invoke, builtin, Sem.run_bind, Sem.run_pure, Result.andThen_ok, List.map_toArray, List.map_cons, List.map_nil, hs, hy, hr]; refine h v' w' ⟨Ls ++ [L], by simpa using h1, by simp [hll], ?_, ?_⟩ ?_ h2
 . intro M hM; rcases List.mem_append.1 hM with hM | hM
   . exact hln M hM
   . simp at hM; subst hM; exact hL
 . have key : Sub (fC B v.ownBlock W) (fC B v'.ownBlock w') := λ ad u hu => by
    obtain ⟨g1, g2, g3⟩ := gO hu; have g4 := World.block_lt_of_cell? W _ g3; have g5 : v'.ownBlock ≠ some ad.block := by
     rcases h5 with e | e
     . rw [e]; exact g2
     . rw [e]; intro e2; injection e2 with e2; omega
    rw [lR g1 g5, World.cell?_of_block (h2.block _ g4 (λ e => g2 e.symm))]; exact g3
   intro i M y hM hy; by_cases hi : i < Ls.length
   . rw [List.getElem?_append_left hi] at hM; rw [List.getElem?_append_left zO] at hy; exact hsub _ _ _ _ key (hlr i M y hM hy)
   . rw [List.getElem?_append_right zO] at hM; rw [List.getElem?_append_right zO] at hy; have e1 : i - Ls.length = 0 := by
      by_cases h0 : i - Ls.length = 0
      . exact h0
      . rw [List.getElem?_eq_none (by simp; omega)] at hM; cases hM
     have e2 : i - xs.length = 0 := zO; rw [e1] at hM; rw [e2] at hy; simp at hM hy; subst hM hy; exact hsub _ _ _ _ key hR
 . exact (Below.refl B W).grown h2 hB (λ j hj => (hown.lt j hj).1)
end
end Go.Proofs.YtdcjlihaldhhjaaGreatDoor
