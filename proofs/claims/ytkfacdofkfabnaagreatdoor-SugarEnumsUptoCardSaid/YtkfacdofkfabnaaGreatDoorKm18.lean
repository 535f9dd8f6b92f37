import Derived.Maps.AppendAt
import Derived.Test.YtkfacdofkfabnaaGreatDoorKm17
set_option maxHeartbeats 2000000
set_option maxRecDepth 100000
namespace Go.Proofs.YtkfacdofkfabnaaGreatDoor
open _root_.Go.Proofs.Tryz
open Go.RowKit
def gp (B : Nat) (ob : Option Nat) (w : World) : World := { w with heap := w.heap.mapIdx λ i o => if i < B ∨ ob = some i then .cells #[] 0 (0, 0) else o }
theorem Ai {w : World} {B b : Nat} {ob : Option Nat} (h : B <= b) (hb : ob ≠ some b) : (gp B ob w).heap[b]? = w.heap[b]? := by
 unfold gp; rw [Array.getElem?_mapIdx]; cases w.heap[b]? with
 | none => rfl
 | some o =>
   have h2 : ¬ (b < B ∨ ob = some b) := λ h3 => h3.elim (λ h4 => by omega) hb; simp [h2]
theorem gO {w : World} {B : Nat} {ob : Option Nat} {a : Addr} {v : Value} (h : (gp B ob w).cell? a = some v) : B <= a.block /\ ob ≠ some a.block /\ w.cell? a = some v := by
 by_cases hb : a.block < B ∨ ob = some a.block
 . exfalso; have ho : ∀ o, (gp B ob w).heap[a.block]? = some o -> o = .cells #[] 0 (0, 0) := by
    intro o ho; unfold gp at ho; rw [Array.getElem?_mapIdx] at ho; cases hw : w.heap[a.block]? with
    | none => rw [hw] at ho; cases ho
    | some q => rw [hw] at ho; simp [hb] at ho; exact ho.symm
   cases hq : (gp B ob w).heap[a.block]? with
   | none => simp [World.cell?, hq] at h
   | some o =>
     have := ho o hq; subst this; simp [World.cell?, hq] at h
 . have h1 : B <= a.block := by omega
   have h2 : ob ≠ some a.block := λ e => hb (.inr e); rw [World.cell?_of_block (Ai h1 h2)] at h; exact ⟨h1, h2, h⟩
theorem pX {w : World} {B : Nat} {ob : Option Nat} {a : Addr} (h : B <= a.block) (hb : ob ≠ some a.block) : (gp B ob w).cell? a = w.cell? a := World.cell?_of_block (Ai h hb)
theorem Gq (B : Nat) (ob : Option Nat) (w : World) : Sub (gp B ob w) (cj B w) := λ a v h => by
 obtain ⟨h1, _, h3⟩ := gO h
 rw [jZ h1]; exact h3
theorem cO {B B' : Nat} {ob : Option Nat} {w w' : World} (hs : aL B' w w') (hB : B <= B') (ho : ∀ g, ob = some g -> g < B' ∨ w.heap.size <= g) : Sub (cj B' w) (gp B ob w') := λ a v h => by
 obtain ⟨h1, h2⟩ := iS h
 have h3 := World.block_lt_of_cell? w _ h2
 rw [pX zO (λ e => by have := ho _ e; omega), World.cell?_of_block (hs.2 _ h1 h3)]
 exact h2
def cN {X : Type} (R : World -> List Value -> X -> Prop) (B : Nat) (T : TypeId) (n : Nat) (w : World) (v : Value) (xs : List X) : Prop :=
 ∃ Ls : List (List Value), w.ownsRow B T n v xs.length Ls.flatten /\ Ls.length = xs.length /\ (∀ L ∈ Ls, L.length = n) /\ ∀ (i : Nat) L x, Ls[i]? = some L -> xs[i]? = some x -> R (gp B v.ownBlock w) L x
section
variable {X : Type} {R : World -> List Value -> X -> Prop} {B : Nat} {T TS : TypeId} {n bytes : Nat} {z : Value} (hsub : ∀ w w' L x, Sub w w' -> R w L x -> R w' L x)
theorem cN.nil (w : World) : cN R B T n w (.slice none 0 0) [] := ⟨[], ⟨by simp, .inl ⟨rfl, rfl⟩⟩, rfl, by simp, λ i L x h => by simp at h⟩
include hsub in
theorem cN.same {w w' : World} {v : Value} {xs : List X} (h : cN R B T n w v xs) (hs : aL B w w') : cN R B T n w' v xs := by
 obtain ⟨Ls, h1, h2, h3, h4⟩ := h; refine ⟨Ls, ⟨h1.1, ?_⟩, h2, h3, λ i L x hL hx => hsub _ _ _ _ (λ a u hu => ?_) (h4 i L x hL hx)⟩
 . rcases h1.2 with h5 | ⟨g, cap, cur, rfl, hg, hh, hr⟩
   . exact .inl h5
   . exact .inr ⟨g, cap, cur, rfl, hg, (hs.2 g hg (ak hh)).trans hh, hr⟩
 . obtain ⟨g1, g2, g3⟩ := gO hu; rw [pX g1 g2, World.cell?_of_block (hs.2 _ g1 (World.block_lt_of_cell? w _ g3))]; exact g3
theorem cN.shape {w : World} {v : Value} {xs : List X} (h : cN R B T n w v xs) : ∃ A m c, v = .slice A m c /\ m = xs.length := by
 obtain ⟨Ls, h1, _⟩ := h; rcases h1.2 with ⟨rfl, h0⟩ | ⟨g, cap, cur, rfl, _⟩
 . exact ⟨_, _, _, rfl, h0.symm⟩
 . exact ⟨_, _, _, rfl, rfl⟩
include hsub in
theorem cN.one {w : World} {L : List Value} {x : X} (hL : L.length = n) (hR : R (cj B w) L x) (hB : B <= w.heap.size) : cN R B T n (w.alloc (.cells L.toArray T)) (.slice (some ⟨w.heap.size, 0, none⟩) 1 1) [x] := by
 refine ⟨[L], ⟨by simp [hL], .inr ⟨w.heap.size, 1, L.toArray, rfl, hB, heap_alloc_new w _, Nat.le_refl _, by unfold maxLen; omega, by simp [hL], by simp; rw [List.take_of_length_le zO]⟩⟩, rfl, by simp [hL], λ i M y hM hy => ?_⟩; cases i with
 | succ i => simp at hM
 | zero =>
   simp at hM hy; subst hM hy; refine hsub _ _ _ _ (cO ((aL.refl B w).alloc _) (Nat.le_refl _) λ g hg => ?_) hR; right; simp [Value.ownBlock] at hg; omega
include hsub in
theorem cN.at_ {w : World} {v : Value} {xs : List X} (h : cN R B T n w v xs) : aw (cj B w) (R (cj B w)) v xs := by
 obtain ⟨Ls, hown, hl, hn, hr⟩ := h; rcases hown.2 with ⟨rfl, h0⟩ | ⟨g, cap, cur, rfl, hg, hh, hc, hm, _⟩
 . have : xs = [] := List.eq_nil_of_length_eq_zero h0; subst this; exact ⟨none, 0, rfl, Nat.le_refl _, by unfold maxLen; omega, λ i x h => by simp at h⟩
 . refine ⟨_, cap, rfl, hc, hm, λ i x hx => ?_⟩; have hi : i < Ls.length := (by rw [hl]; exact (List.getElem?_eq_some_iff.1 hx).1); have hL : Ls[i]? = some Ls[i] := List.getElem?_eq_getElem hi; have hlen := hn Ls[i] (List.getElem_mem hi); refine ⟨Ls[i], ⟨_, rfl, λ j u hu => ?_⟩, hsub _ _ _ _ (Gq _ _ _) (hr i _ x hL hx)⟩; rw [hlen, fU]; have h1 : w.cell? ((⟨g, 0, none⟩ : Addr).add (i * n + j)) = some u := by
    have h2 := hown.cells (g := g) rfl (i * n + j) u (wd Ls hn i j _ hL (by rw [<- hlen]; exact (List.getElem?_eq_some_iff.1 hu).1) u hu); exact h2
   rw [jZ (by rw [bL]; exact hg)]; exact h1
include hsub in
theorem ir {ops : Array Oper} {rest : List Oper} {o : Oper} {a : Act} {Q : Exit -> Act -> World -> Prop} {W : World} {v : Value} {xs : List X} {x : X} {L : List Value} {K : Nat} (hgd : o.guard = none) (s y : Operand)
  (hop : o.op = .call { callee := .builtin .append, args := #[s, y], argTypes := #[TS, TS] }) (hT : prog.underlying TS = some (.slice T)) (hI : (prog.info? T).map (λ i => (i.zero, i.size, i.bytes)) = some (some z, n, bytes))
  (hz : z.cells.size = n) (hn : 0 < n) (hby : bytes <= 4096) (hs : a.eval s = v) (hy : a.eval y = .slice (some ⟨K, 0, none⟩) 1 1) (hK : W.heap[K]? = some (.cells L.toArray T (0, 0))) (hL : L.length = n) (hone : ∀ u ∈ L, u.oneCell' = true)
  (hO : cN R B T n W v xs) (hR : R (gp B v.ownBlock W) L x) (hl : xs.length <= 2097152) (hB : B <= W.heap.size)
  (h : ∀ v' w', cN R B T n w' v' (xs ++ [x]) -> Below B W w' -> wpList prog ops Q rest (a.put o.dst v') w') : wpList prog ops Q (o :: rest) a W := by
 obtain ⟨i0, hi, hz0, hz1, hz2⟩ := info_parts hI; obtain ⟨Ls, hown, hll, hln, hlr⟩ := hO; have hb2 : (xs.length + 1) * bytes <= 140737488355328 := by
  have : (xs.length + 1) * bytes <= 4194304 * 4096 := Nat.mul_le_mul zO hby
  omega
 refine wpList_append_own_at W hgd s y TS hop B T i0 z n bytes hT hi hz0 hz1 hz2 hz hn v xs.length _ hs hown ⟨K, 0, none⟩ 1 1 L hy (by simp [hL]) (λ j u hj => ?_) hone (by unfold maxLen; omega) hb2 hB λ v' w' h1 h2 _ h5 => h v' w' ⟨Ls ++ [L], by simpa using h1, by simp [hll], ?_, ?_⟩ ?_
 . have hadd : (⟨K, 0, none⟩ : Addr).add j = ⟨K, j, none⟩ := by unfold Addr.add; split <;> simp_all
   rw [hadd, cell_of_row _ _ _ _ _ _ hK]; simpa using hj
 . intro M hM; rcases List.mem_append.1 hM with hM | hM
   . exact hln M hM
   . simp at hM; subst hM; exact hL
 . have key : Sub (gp B v.ownBlock W) (gp B v'.ownBlock w') := λ ad u hu => by
    obtain ⟨g1, g2, g3⟩ := gO hu; have g4 := World.block_lt_of_cell? W _ g3; have g5 : v'.ownBlock ≠ some ad.block := by
     rcases h5 with e | e
     . rw [e]; exact g2
     . rw [e]; intro e2; injection e2 with e2; omega
    rw [pX g1 g5, World.cell?_of_block (h2.block _ g4 (λ e => g2 e.symm))]; exact g3
   intro i M y hM hy; by_cases hi : i < Ls.length
   . rw [List.getElem?_append_left hi] at hM; rw [List.getElem?_append_left zO] at hy; exact hsub _ _ _ _ key (hlr i M y hM hy)
   . rw [List.getElem?_append_right zO] at hM; rw [List.getElem?_append_right zO] at hy; have e1 : i - Ls.length = 0 := by
      by_cases h0 : i - Ls.length = 0
      . exact h0
      . rw [List.getElem?_eq_none (by simp; omega)] at hM; cases hM
     have e2 : i - xs.length = 0 := zO; rw [e1] at hM; rw [e2] at hy; simp at hM hy; subst hM hy; exact hsub _ _ _ _ key hR
 . exact (Below.refl B W).grown h2 hB (λ j hj => (hown.lt j hj).1)
end
section
variable {X : Type} {R : World -> List Value -> X -> Prop} {B : Nat} {T TS : TypeId} {n bytes : Nat} {z : Value} (hsub : ∀ w w' L x, Sub w w' -> R w L x -> R w' L x)
include hsub in
theorem kI {o : Oper} {a : Act} {Kc : Act -> World -> Prop} {Q : Exit -> Act -> World -> Prop} {W : World} {v : Value} {xs : List X} {x : X} {L : List Value} {K : Nat} (s y : Operand)
  (hop : o.op = .call { callee := .builtin .append, args := #[s, y], argTypes := #[TS, TS] }) (hT : prog.underlying TS = some (.slice T)) (hI : (prog.info? T).map (λ i => (i.zero, i.size, i.bytes)) = some (some z, n, bytes))
  (hz : z.cells.size = n) (hn : 0 < n) (hby : bytes <= 4096) (hs : a.eval s = v) (hy : a.eval y = .slice (some ⟨K, 0, none⟩) 1 1) (hK : W.heap[K]? = some (.cells L.toArray T (0, 0))) (hL : L.length = n) (hone : ∀ u ∈ L, u.oneCell' = true)
  (hO : cN R B T n W v xs) (hR : R (gp B v.ownBlock W) L x) (hl : xs.length <= 2097152) (hB : B <= W.heap.size)
  (h : ∀ v' w', cN R B T n w' v' (xs ++ [x]) -> Below B W w' -> W.grownBy w' v.ownBlock -> Kc (a.put o.dst v') w') : o.wp prog a W Kc Q := by
 obtain ⟨i0, hi, hz0, hz1, hz2⟩ := info_parts hI; obtain ⟨Ls, hown, hll, hln, hlr⟩ := hO; have hb2 : (xs.length + 1) * bytes <= 140737488355328 := by
  have : (xs.length + 1) * bytes <= 4194304 * 4096 := Nat.mul_le_mul zO hby
  omega
 have hnews : ∀ j u, L[j]? = some u -> W.cell? ((⟨K, 0, none⟩ : Addr).add j) = some u := λ j u hj => by
  have hadd : (⟨K, 0, none⟩ : Addr).add j = ⟨K, j, none⟩ := (by unfold Addr.add; split <;> simp_all)
  rw [hadd, cell_of_row _ _ _ _ _ _ hK]; simpa using hj
 obtain ⟨v', w', hr, h1, h2, _, h5⟩ := run_append_own_at (P := prog) W B TS o.type T i0 z n bytes hT hi hz0 hz1 hz2 hz hn v xs.length _ hown ⟨K, 0, none⟩ 1 1 L (by simp [hL]) hnews hone (by unfold maxLen; omega) hb2 hB; unfold Oper.wp execOp; simp only [hop, resolve, invoke, builtin, Sem.run_bind, Sem.run_pure, Result.andThen_ok, List.map_toArray, List.map_cons, List.map_nil, hs, hy, hr]; refine h v' w' ⟨Ls ++ [L], by simpa using h1, by simp [hll], ?_, ?_⟩ ?_ h2
 . intro M hM; rcases List.mem_append.1 hM with hM | hM
   . exact hln M hM
   . simp at hM; subst hM; exact hL
 . have key : Sub (gp B v.ownBlock W) (gp B v'.ownBlock w') := λ ad u hu => by
    obtain ⟨g1, g2, g3⟩ := gO hu; have g4 := World.block_lt_of_cell? W _ g3; have g5 : v'.ownBlock ≠ some ad.block := by
     rcases h5 with e | e
     . rw [e]; exact g2
     . rw [e]; intro e2; injection e2 with e2; omega
    rw [pX g1 g5, World.cell?_of_block (h2.block _ g4 (λ e => g2 e.symm))]; exact g3
   intro i M y hM hy; by_cases hi : i < Ls.length
   . rw [List.getElem?_append_left hi] at hM; rw [List.getElem?_append_left zO] at hy; exact hsub _ _ _ _ key (hlr i M y hM hy)
   . rw [List.getElem?_append_right zO] at hM; rw [List.getElem?_append_right zO] at hy; have e1 : i - Ls.length = 0 := by
      by_cases h0 : i - Ls.length = 0
      . exact h0
      . rw [List.getElem?_eq_none (by simp; omega)] at hM; cases hM
     have e2 : i - xs.length = 0 := zO; rw [e1] at hM; rw [e2] at hy; simp at hM hy; subst hM hy; exact hsub _ _ _ _ key hR
 . exact (Below.refl B W).grown h2 hB (λ j hj => (hown.lt j hj).1)
end
def dE (B : Nat) (D : List Nat) (w : World) : World := { w with heap := w.heap.mapIdx λ i o => if i < B ∨ i ∈ D then .cells #[] 0 (0, 0) else o }
theorem AD {w : World} {B b : Nat} {D : List Nat} (h : B <= b) (hb : b ∉ D) : (dE B D w).heap[b]? = w.heap[b]? := by
 unfold dE; rw [Array.getElem?_mapIdx]; cases w.heap[b]? with
 | none => rfl
 | some o =>
   have h2 : ¬ (b < B ∨ b ∈ D) := λ h3 => h3.elim (λ h4 => by omega) hb; simp [h2]
theorem qt {w : World} {B : Nat} {D : List Nat} {a : Addr} {v : Value} (h : (dE B D w).cell? a = some v) : B <= a.block /\ a.block ∉ D /\ w.cell? a = some v := by
 by_cases hb : a.block < B ∨ a.block ∈ D
 . exfalso; have ho : ∀ o, (dE B D w).heap[a.block]? = some o -> o = .cells #[] 0 (0, 0) := by
    intro o ho; unfold dE at ho; rw [Array.getElem?_mapIdx] at ho; cases hw : w.heap[a.block]? with
    | none => rw [hw] at ho; cases ho
    | some q => rw [hw] at ho; simp [hb] at ho; exact ho.symm
   cases hq : (dE B D w).heap[a.block]? with
   | none => simp [World.cell?, hq] at h
   | some o =>
     have := ho o hq; subst this; simp [World.cell?, hq] at h
 . have h1 : B <= a.block := by omega
   have h2 : a.block ∉ D := λ e => hb (.inr e); rw [World.cell?_of_block (AD h1 h2)] at h; exact ⟨h1, h2, h⟩
theorem nP {w : World} {B : Nat} {D : List Nat} {a : Addr} (h : B <= a.block) (hb : a.block ∉ D) : (dE B D w).cell? a = w.cell? a := World.cell?_of_block (AD h hb)
theorem pe (B : Nat) (D : List Nat) (w : World) : Sub (dE B D w) (cj B w) := λ a v h => by
 obtain ⟨h1, _, h3⟩ := qt h
 rw [jZ h1]; exact h3
theorem mO {B : Nat} {D D' : List Nat} (h : ∀ d ∈ D', d ∈ D) (w : World) : Sub (dE B D w) (dE B D' w) := λ a v hv => by
 obtain ⟨h1, h2, h3⟩ := qt hv
 rw [nP h1 λ e => h2 (h _ e)]; exact h3
theorem gx {B C : Nat} {D : List Nat} {V W : World} (hs : aL C V W) (hB : B <= C) (hD : ∀ d ∈ D, d < C ∨ V.heap.size <= d) : Sub (cj C V) (dE B D W) := λ a v h => by
 obtain ⟨h1, h2⟩ := iS h
 have h3 := World.block_lt_of_cell? V _ h2
 rw [nP zO (λ e => by have := hD _ e; omega), World.cell?_of_block (hs.2 _ h1 h3)]
 exact h2
def cW (B : Nat) (D : List Nat) (w w' : World) : Prop := w.heap.size <= w'.heap.size /\ ∀ i, B <= i -> i < w.heap.size -> i ∉ D -> w'.heap[i]? = w.heap[i]?
theorem cW.refl (B : Nat) (D : List Nat) (w : World) : cW B D w w := ⟨Nat.le_refl _, λ _ _ _ _ => rfl⟩
theorem cW.trans {B : Nat} {D D' : List Nat} {a b c : World} (h : cW B D a b) (k : cW B D' b c) (hd : ∀ d ∈ D', d ∈ D ∨ a.heap.size <= d) : cW B D a c :=
 ⟨Nat.le_trans h.1 k.1, λ i h1 h2 h3 => (k.2 i h1 (Nat.lt_of_lt_of_le h2 h.1) λ e => (hd i e).elim h3 λ e => by omega).trans (h.2 i h1 h2 h3)⟩
theorem cW.of {B : Nat} {D : List Nat} {a b : World} (h : aL B a b) : cW B D a b := ⟨h.1, λ i h1 h2 _ => h.2 i h1 h2⟩
theorem cW.set {B : Nat} {D : List Nat} {a b : World} (h : cW B D a b) {p : Addr} (hp : p.block < B ∨ p.block ∈ D ∨ a.heap.size <= p.block) (v : Value) : cW B D a (b.setCell p v) :=
 ⟨by rw [World.size_setCell]; exact h.1, λ i h1 h2 h3 => (Below.heap_setCell _ _ _ _ (λ e => by subst e; rcases hp with e | e | e; omega; exact h3 e; omega)).trans (h.2 i h1 h2 h3)⟩
theorem cW.grown {B : Nat} {D : List Nat} {w w' : World} {row : Option Nat} (hg : w.grownBy w' row) (hr : ∀ g, row = some g -> g ∈ D) : cW B D w w' := ⟨hg.size, λ i _ h2 h3 => hg.block i h2 λ e => h3 (hr i e.symm)⟩
theorem cW.sub {B : Nat} {D D' : List Nat} {w w' : World} (h : cW B D w w') (hd : ∀ d ∈ D', d ∈ D ∨ w.heap.size <= d) : Sub (dE B D w) (dE B D' w') := λ a v hv => by
 obtain ⟨h1, h2, h3⟩ := qt hv
 have h4 := World.block_lt_of_cell? w _ h3
 rw [nP h1 (λ e => (hd _ e).elim h2 λ e => by omega), World.cell?_of_block (h.2 _ h1 h4 h2)]
 exact h3
def fx {X : Type} (R : World -> List Value -> X -> Prop) (B : Nat) (D : List Nat) (T : TypeId) (n : Nat) (w : World) (v : Value) (xs : List X) : Prop :=
 ∃ Ls : List (List Value), w.ownsRow B T n v xs.length Ls.flatten /\ Ls.length = xs.length /\ (∀ L ∈ Ls, L.length = n) /\ (∀ (i : Nat) L x, Ls[i]? = some L -> xs[i]? = some x -> R (dE B D w) L x) /\ ∀ g, v.ownBlock = some g -> g ∈ D
section
variable {X : Type} {R : World -> List Value -> X -> Prop} {B : Nat} {D : List Nat} {T TS : TypeId} {n bytes : Nat} {z : Value} (hsub : ∀ w w' L x, Sub w w' -> R w L x -> R w' L x)
theorem fx.nil (w : World) : fx R B D T n w (.slice none 0 0) [] := ⟨[], ⟨by simp, .inl ⟨rfl, rfl⟩⟩, rfl, by simp, λ i L x h => by simp at h, λ g h => by simp [Value.ownBlock] at h⟩
theorem fx.shape {w : World} {v : Value} {xs : List X} (h : fx R B D T n w v xs) : ∃ A m c, v = .slice A m c /\ m = xs.length := by
 obtain ⟨Ls, h1, _⟩ := h; rcases h1.2 with ⟨rfl, h0⟩ | ⟨g, cap, cur, rfl, _⟩
 . exact ⟨_, _, _, rfl, h0.symm⟩
 . exact ⟨_, _, _, rfl, rfl⟩
theorem fx.lt {w : World} {v : Value} {xs : List X} (h : fx R B D T n w v xs) : ∀ g, v.ownBlock = some g -> B <= g /\ g < w.heap.size /\ g ∈ D := by
 obtain ⟨Ls, h1, _, _, _, h5⟩ := h; exact λ g hg => ⟨(h1.lt g hg).1, (h1.lt g hg).2, h5 g hg⟩
include hsub in
theorem fx.step {w w' : World} {v : Value} {xs : List X} {D' : List Nat} (h : fx R B D T n w v xs) (hs : cW B D w w') (hrow : ∀ g, v.ownBlock = some g -> w'.heap[g]? = w.heap[g]?) (h1 : ∀ d ∈ D, d ∈ D') (h2 : ∀ d ∈ D', d ∈ D ∨ w.heap.size <= d) : fx R B D' T n w' v xs := by
 obtain ⟨Ls, g1, g2, g3, g4, g5⟩ := h; refine ⟨Ls, ⟨g1.1, ?_⟩, g2, g3, λ i L x hL hx => hsub _ _ _ _ (hs.sub h2) (g4 i L x hL hx), λ g hg => h1 _ (g5 g hg)⟩; rcases g1.2 with h5 | ⟨g, cap, cur, rfl, hg, hh, hr⟩
 . exact .inl h5
 . exact .inr ⟨g, cap, cur, rfl, hg, (hrow g rfl).trans hh, hr⟩
include hsub in
theorem fx.less {w : World} {v : Value} {xs : List X} {D' : List Nat} (h : fx R B D T n w v xs) (h1 : ∀ d ∈ D', d ∈ D) (h2 : ∀ g, v.ownBlock = some g -> g ∈ D') : fx R B D' T n w v xs := by
 obtain ⟨Ls, g1, g2, g3, g4, g5⟩ := h; exact ⟨Ls, g1, g2, g3, λ i L x hL hx => hsub _ _ _ _ (mO h1 w) (g4 i L x hL hx), h2⟩
include hsub in
theorem fx.at_ {w : World} {v : Value} {xs : List X} {D' : List Nat} (h : fx R B D T n w v xs) (h1 : ∀ d ∈ D', d ∈ D) (h2 : ∀ g, v.ownBlock = some g -> g ∉ D') : aw (dE B D' w) (R (dE B D' w)) v xs := by
 obtain ⟨Ls, hown, hl, hn, hr, _⟩ := h; rcases hown.2 with ⟨rfl, h0⟩ | ⟨g, cap, cur, rfl, hg, hh, hc, hm, _⟩
 . have : xs = [] := List.eq_nil_of_length_eq_zero h0; subst this; exact ⟨none, 0, rfl, Nat.le_refl _, by unfold maxLen; omega, λ i x h => by simp at h⟩
 . refine ⟨_, cap, rfl, hc, hm, λ i x hx => ?_⟩; have hi : i < Ls.length := (by rw [hl]; exact (List.getElem?_eq_some_iff.1 hx).1); have hL : Ls[i]? = some Ls[i] := List.getElem?_eq_getElem hi; have hlen := hn Ls[i] (List.getElem_mem hi); refine ⟨Ls[i], ⟨_, rfl, λ j u hu => ?_⟩, hsub _ _ _ _ (mO h1 w) (hr i _ x hL hx)⟩; rw [hlen, fU]; have h1 : w.cell? ((⟨g, 0, none⟩ : Addr).add (i * n + j)) = some u := by
    have h2 := hown.cells (g := g) rfl (i * n + j) u (wd Ls hn i j _ hL (by rw [<- hlen]; exact (List.getElem?_eq_some_iff.1 hu).1) u hu); exact h2
   rw [nP (by rw [bL]; exact hg) (by rw [bL]; exact h2 g rfl)]; exact h1
theorem wb : ∀ (Ms : List (List Value)), (∀ M ∈ Ms, M.length = n) -> ∀ (j : Nat) u, Ms.flatten[j]? = some u -> ∃ i k M, j = i * n + k /\ Ms[i]? = some M /\ M[k]? = some u
 | [], _, j, u, h => by simp at h
 | M :: r, hM, j, u, h => by
   rw [List.flatten_cons] at h
   have hl := hM M (by simp)
   by_cases hj : j < M.length
   . rw [List.getElem?_append_left hj] at h
     exact ⟨0, j, M, by omega, rfl, h⟩
   . rw [List.getElem?_append_right zO] at h
     obtain ⟨i, k, N, h1, h2, h3⟩ := wb r (λ N hN => hM N (by simp [hN])) _ u h
     exact ⟨i + 1, k, N, by rw [Nat.succ_mul]; omega, by simpa using h2, h3⟩
include hsub in
theorem sX {o : Oper} {a : Act} {Kc : Act -> World -> Prop} {Q : Exit -> Act -> World -> Prop} {W : World} {v v2 : Value} {xs ys : List X} (s y : Operand)
  (hop : o.op = .call { callee := .builtin .append, args := #[s, y], argTypes := #[TS, TS] }) (hT : prog.underlying TS = some (.slice T)) (hI : (prog.info? T).map (λ i => (i.zero, i.size, i.bytes)) = some (some z, n, bytes))
  (hz : z.cells.size = n) (hn : 0 < n) (hby : bytes <= 4096) (hs : a.eval s = v) (hy : a.eval y = v2) (hys : ys ≠ []) (hR : aw W (R (dE B D W)) v2 ys) (hsh : ∀ M x, R (dE B D W) M x -> M.length = n /\ ∀ u ∈ M, u.oneCell' = true)
  (hO : fx R B D T n W v xs) (hl : xs.length + ys.length <= 4194304) (hB : B <= W.heap.size)
  (h : ∀ v' w' D', fx R B D' T n w' v' (xs ++ ys) -> (∀ d ∈ D, d ∈ D') -> (∀ d ∈ D', d ∈ D ∨ W.heap.size <= d /\ d < w'.heap.size) -> Below B W w' -> W.grownBy w' v.ownBlock -> (v'.ownBlock = v.ownBlock ∨ v'.ownBlock = some W.heap.size) -> Kc (a.put o.dst v') w') : o.wp prog a W Kc Q := by
 obtain ⟨i0, hi, hz0, hz1, hz2⟩ := info_parts hI; obtain ⟨Ls, hown, hll, hln, hlr, hin⟩ := hO; obtain ⟨A, cap, rfl, hc1, hc2, hc3⟩ := hR; have hch : ∀ i, ∃ M, ∀ x, ys[i]? = some x -> cp W A i M /\ R (dE B D W) M x := by
  intro i; cases hx : ys[i]? with
  | none => exact ⟨[], λ x h => by simp at h⟩
  | some x => obtain ⟨M, h1, h2⟩ := hc3 i x hx; exact ⟨M, λ y hy => by cases hy; exact ⟨h1, h2⟩⟩
 obtain ⟨f, hf⟩ : ∃ f : Nat -> List Value, ∀ i x, ys[i]? = some x -> cp W A i (f i) /\ R (dE B D W) (f i) x := ⟨λ i => Classical.choose (hch i), λ i => Classical.choose_spec (hch i)⟩; obtain ⟨Ms, hMs⟩ : ∃ Ms, Ms = (List.range ys.length).map f := ⟨_, rfl⟩; have hml : Ms.length = ys.length := (by rw [hMs]; simp); have hmi : ∀ i M, Ms[i]? = some M -> i < ys.length /\ M = f i := by
  intro i M hM; rw [hMs, List.getElem?_map] at hM; have hi : i < ys.length := by
   have := (List.getElem?_eq_some_iff.1 (show ((List.range ys.length).map f)[i]? = some M by rw [List.getElem?_map]; exact hM)).1; simpa using this
  rw [List.getElem?_range hi] at hM; exact ⟨hi, (Option.some.inj hM).symm⟩
 have hmr : ∀ i M x, Ms[i]? = some M -> ys[i]? = some x -> cp W A i M /\ R (dE B D W) M x := λ i M x hM hx => by rw [(hmi i M hM).2]; exact hf i x hx
 have hmn : ∀ M ∈ Ms, M.length = n /\ ∀ u ∈ M, u.oneCell' = true := by
  intro M hM; obtain ⟨i, hi, e⟩ := List.getElem_of_mem hM; have hMi : Ms[i]? = some M := (by rw [List.getElem?_eq_getElem hi, e]); exact hsh M _ (hmr i M _ hMi (List.getElem?_eq_getElem (by omega : i < ys.length))).2
 obtain ⟨x0, hx0⟩ : ∃ x, ys[0]? = some x := by cases ys with | nil => exact absurd rfl hys | cons b r => exact ⟨b, rfl⟩
 obtain ⟨M0, ⟨A', rfl, _⟩, _⟩ := hc3 0 x0 hx0; have hb2 : (xs.length + ys.length) * bytes <= 140737488355328 := by
  have : (xs.length + ys.length) * bytes <= 4194304 * 4096 := Nat.mul_le_mul hl hby
  omega
 have hfl : Ms.flatten.length = ys.length * n := by
  have : ∀ l : List (List Value), (∀ M ∈ l, M.length = n) -> l.flatten.length = l.length * n := by
   intro l; induction l with
   | nil => intro _; simp
   | cons M r ih => intro hl; rw [List.flatten_cons, List.length_append, ih λ N hN => hl N (by simp [hN]), hl M (by simp), List.length_cons, Nat.succ_mul]; omega
  rw [this Ms λ M hM => (hmn M hM).1, hml]
 have hnews : ∀ j u, Ms.flatten[j]? = some u -> W.cell? (A'.add j) = some u := λ j u hj => by
  obtain ⟨i, k, M, rfl, h2, h3⟩ := wb Ms (λ M hM => (hmn M hM).1) j u hj; obtain ⟨x, hx⟩ : ∃ x, ys[i]? = some x := ⟨_, List.getElem?_eq_getElem (hmi i M h2).1⟩; obtain ⟨⟨a2, e, hc⟩, _⟩ := hmr i M x h2 hx; cases e; have := hc k u h3; rw [(hmn M (List.mem_of_getElem? h2)).1, fU] at this; exact this
 have hones : ∀ u ∈ Ms.flatten, u.oneCell' = true := λ u hu => by
  obtain ⟨M, hM, hu⟩ := List.mem_flatten.1 hu; exact (hmn M hM).2 u hu
 obtain ⟨v', w', hr, h1, h2, _, h5⟩ := run_append_own_at (P := prog) W B TS o.type T i0 z n bytes hT hi hz0 hz1 hz2 hz hn v xs.length _ hown A' ys.length cap Ms.flatten hfl hnews hones (by unfold maxLen; omega) hb2 hB; have hbel : Below B W w' := (Below.refl B W).grown h2 hB (λ j hj => (hown.lt j hj).1); unfold Oper.wp execOp; simp only [hop, resolve, invoke, builtin, Sem.run_bind, Sem.run_pure, Result.andThen_ok, List.map_toArray, List.map_cons, List.map_nil, hs, hy, hr]; have hD' : ∃ D' : List Nat, (∀ d ∈ D, d ∈ D') /\ (∀ d ∈ D', d ∈ D ∨ W.heap.size <= d /\ d < w'.heap.size) /\ ∀ g, v'.ownBlock = some g -> g ∈ D' := by
  rcases h5 with e | e
  . exact ⟨D, λ _ h => h, λ _ h => .inl h, λ g hg => hin g (by rw [<- e]; exact hg)⟩
  . refine ⟨W.heap.size :: D, λ d hd => by simp [hd], λ d hd => ?_, λ g hg => by rw [e] at hg; cases hg; simp⟩; rcases List.mem_cons.1 hd with rfl | hd
    . exact .inr ⟨Nat.le_refl _, (h1.lt _ e).2⟩
    . exact .inl hd
 obtain ⟨D', d1, d2, d3⟩ := hD'; have key : Sub (dE B D W) (dE B D' w') := (cW.grown (B := B) h2 hin).sub λ d hd => (d2 d hd).imp id And.left; refine h v' w' D' ⟨Ls ++ Ms, by simpa using h1, by simp [hll, hml], ?_, ?_, d3⟩ d1 d2 hbel h2 h5
 . intro M hM; rcases List.mem_append.1 hM with hM | hM
   . exact hln M hM
   . exact (hmn M hM).1
 . intro i M x hM hx; by_cases hi : i < Ls.length
   . rw [List.getElem?_append_left hi] at hM; rw [List.getElem?_append_left zO] at hx; exact hsub _ _ _ _ key (hlr i M x hM hx)
   . rw [List.getElem?_append_right zO] at hM hx; rw [hll] at hM; exact hsub _ _ _ _ key (hmr _ M x hM hx).2
end
end Go.Proofs.YtkfacdofkfabnaaGreatDoor
