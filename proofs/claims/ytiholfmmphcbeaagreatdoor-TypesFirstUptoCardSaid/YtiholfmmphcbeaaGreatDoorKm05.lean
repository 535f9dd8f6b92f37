import Derived.Below
import Derived.BigGuardPart
import Derived.BigQuiet
import Derived.Deep.LoopGhost
import Derived.Deep.QuietTactic
import Derived.Deep.RegionHeld3
import Derived.Laws.AppendOwn
import Derived.Lib.Hide
import Derived.Lib.SmallJoins
import Derived.Maps.AppendAt
import Derived.OwnWalk
import Derived.Test.YtiholfmmphcbeaaGreatDoorChecked
import Derived.WalkKit
import Derived.Test.YtiholfmmphcbeaaGreatDoorKm04
set_option maxHeartbeats 1000000
set_option maxRecDepth 100000
namespace Go.Proofs.YtiholfmmphcbeaaGreatDoor
open _root_.Go.Proofs.Tryz
open Go.RowKit
theorem kin {w : World} {b : Nat} {o : Obj} (h : w.heap[b]? = some o) : b < w.heap.size := (Array.getElem?_eq_some_iff.1 h).1
structure ba (M : Nat -> Prop) (w w' : World) : Prop where
 os : w'.os = w.os
 tape : w'.tape = w.tape
 output : w'.output = w.output
 size : w.heap.size <= w'.heap.size
 block : ∀ k, k < w.heap.size -> ¬ M k -> w'.heap[k]? = w.heap[k]?
section
variable {M : Nat -> Prop} {w w' : World}
theorem ba.refl (M : Nat -> Prop) (w : World) : ba M w w := ⟨rfl, rfl, rfl, Nat.le_refl _, λ _ _ _ => rfl⟩
theorem ba.trans {a b c : World} (h : ba M a b) (g : ba M b c) : ba M a c :=
 ⟨g.os.trans h.os, g.tape.trans h.tape, g.output.trans h.output, Nat.le_trans h.size g.size, λ k hk hm => (g.block k (Nat.lt_of_lt_of_le hk h.size) hm).trans (h.block k hk hm)⟩
theorem ba.mono {M' : Nat -> Prop} (h : ba M w w') (hM : ∀ k, k < w.heap.size -> M k -> M' k) : ba M' w w' :=
 ⟨h.os, h.tape, h.output, h.size, λ k hk hm => h.block k hk λ g => hm (hM k hk g)⟩
theorem ba.of_below (h : Below w.heap.size w w') : ba M w w' := ⟨h.os, h.tape, h.output, h.size, λ k hk _ => h.block k hk⟩
theorem ba.of_grown {r : Option Nat} (h : w.grownBy w' r) (hr : ∀ k, r = some k -> M k) : ba M w w' := ⟨h.os, h.tape, h.output, h.size, λ k hk hm => h.block k hk λ e => hm (hr k e.symm)⟩
theorem ba.set (h : ba M w w') {a : Addr} (ha : M a.block ∨ w.heap.size <= a.block) (u : Value) : ba M w (w'.setCell a u) := by
 refine ⟨h.os, h.tape, h.output, ?_, λ k hk hm => ?_⟩
 . exact Nat.le_trans h.size ((Below.refl 0 w').setCell (p := a) (Nat.zero_le _) u).size
 . rw [Below.heap_setCell _ _ _ _ (λ e => by subst e; exact ha.elim hm λ g => by omega)]; exact h.block k hk hm
theorem ba.heap (h : ba M w w') {b : Nat} {o : Obj} (hb : w.heap[b]? = some o) (hm : ¬ M b) : w'.heap[b]? = some o := (h.block b (kin hb) hm).trans hb
theorem ba.below {B : Nat} (h : ba M w w') (hB : B <= w.heap.size) (hM : ∀ k, M k -> B <= k) : Below B w w' := ⟨h.os, h.tape, h.output, h.size, λ k hk => h.block k zO λ g => by have := hM k g; omega⟩
end
def cK (B : Nat) (T : TypeId) (s : Nat) (w : World) (v : Value) (n : Nat) (F : Nat -> Nat -> Value) : Prop :=
 (v = .slice none 0 0 /\ n = 0) ∨ ∃ g cap cur, v = .slice (some ⟨g, 0, none⟩) n cap /\ B <= g /\ w.heap[g]? = some (.cells cur T (0, 0)) /\ n <= cap /\ cap <= maxLen /\ cur.size = cap * s /\ ∀ i j, i < n -> j < s -> cur[i * s + j]? = some (F i j)
section
variable {B : Nat} {T TS : TypeId} {s n : Nat} {w w' : World} {v : Value} {F F' : Nat -> Nat -> Value}
theorem cK.nil : cK B T s w (.slice none 0 0) 0 F := .inl ⟨rfl, rfl⟩
theorem cK.congr (h : cK B T s w v n F) (he : ∀ i j, i < n -> j < s -> F i j = F' i j) : cK B T s w v n F' := by
 rcases h with h | ⟨g, cap, cur, h1, h2, h3, h4, h5, h6, h7⟩
 . exact .inl h
 . exact .inr ⟨g, cap, cur, h1, h2, h3, h4, h5, h6, λ i j hi hj => by rw [<- he i j hi hj]; exact h7 i j hi hj⟩
theorem cK.kept {M : Nat -> Prop} (h : cK B T s w v n F) (hk : ba M w w') (hM : ∀ g, v.ownBlock = some g -> ¬ M g) : cK B T s w' v n F := by
 rcases h with h | ⟨g, cap, cur, rfl, h2, h3, h4⟩
 . exact .inl h
 . exact .inr ⟨g, cap, cur, rfl, h2, hk.heap h3 (hM g rfl), h4⟩
theorem cK.under (h : cK B T s w v n F) (hb : Below w.heap.size w w') : cK B T s w' v n F := h.kept (M := λ _ => False) (ba.of_below hb) λ _ _ h => h
theorem cK.lt (h : cK B T s w v n F) {g : Nat} (hg : v.ownBlock = some g) : B <= g /\ g < w.heap.size := by
 rcases h with ⟨rfl, _⟩ | ⟨g', cap, cur, rfl, h2, h3, _⟩
 . simp [Value.ownBlock] at hg
 . have : g' = g := by simpa [Value.ownBlock] using hg
   subst this; exact ⟨h2, kin h3⟩
theorem cK.own (h : cK B T s w v n F) : ∃ xs : List Value, w.ownsRow B T s v n xs /\ ∀ i j, i < n -> j < s -> xs[i * s + j]? = some (F i j) := by
 rcases h with ⟨rfl, rfl⟩ | ⟨g, cap, cur, rfl, h2, h3, h4, h5, h6, h7⟩
 . exact ⟨[], ⟨by simp, .inl ⟨rfl, rfl⟩⟩, λ i j hi => by omega⟩
 . refine ⟨cur.toList.take (n * s), ⟨?_, .inr ⟨g, cap, cur, rfl, h2, h3, h4, h5, h6, rfl⟩⟩, λ i j hi hj => ?_⟩
   . rw [List.length_take, Array.length_toList, h6]; exact Nat.min_eq_left (Nat.mul_le_mul_right _ h4)
   . have : i * s + j < n * s := by
      have := Nat.mul_le_mul_right s (show i + 1 <= n by omega); rw [Nat.add_mul] at this; omega
     rw [List.getElem?_take_of_lt this, Array.getElem?_toList]; exact h7 i j hi hj
theorem cK.of_own {xs : List Value} (h : w.ownsRow B T s v n xs) (hx : ∀ i j, i < n -> j < s -> xs[i * s + j]? = some (F i j)) : cK B T s w v n F := by
 rcases h.2 with h | ⟨g, cap, cur, rfl, h2, h3, h4, h5, h6, h7⟩
 . exact .inl h
 . refine .inr ⟨g, cap, cur, rfl, h2, h3, h4, h5, h6, λ i j hi hj => ?_⟩; have := hx i j hi hj; rw [<- h7] at this; have hlt : i * s + j < n * s := by
    have := Nat.mul_le_mul_right s (show i + 1 <= n by omega); rw [Nat.add_mul] at this; omega
   rw [List.getElem?_take_of_lt hlt, Array.getElem?_toList] at this; exact this
def GD (B : Nat) (T : TypeId) (s : Nat) (W : World) (v : Value) (n : Nat) (F : Nat -> Nat -> Value) (v' : Value) (w' : World) : Prop :=
 cK B T s w' v' (n + 1) F /\ W.grownBy w' v.ownBlock /\ (v'.ownBlock = v.ownBlock ∨ v'.ownBlock = some W.heap.size)
theorem vP {P : Program} {T : TypeId} {z : Value} {n bytes : Nat} (h : (P.info? T).map (λ i => (i.zero, i.size, i.bytes)) = some (some z, n, bytes)) : ∃ i, P.info? T = some i /\ i.zero = some z /\ i.size = n /\ i.bytes = bytes := by
 cases hi : P.info? T with
 | none => rw [hi] at h; cases h
 | some i => rw [hi] at h; simp at h; exact ⟨i, rfl, h⟩
theorem yU {ops : Array Oper} {rest : List Oper} {o : Oper} {a : Act} {Q : Exit -> Act -> World -> Prop} {W : World} {z : Value} {bytes K : Nat} {L : List Value} (hgd : o.guard = none) (x y : Operand)
  (hop : o.op = .call { callee := .builtin .append, args := #[x, y], argTypes := #[TS, TS] }) (hT : prog.underlying TS = some (.slice T)) (hI : (prog.info? T).map (λ i => (i.zero, i.size, i.bytes)) = some (some z, s, bytes))
  (hz : z.cells.size = s) (hs0 : 0 < s) (hby : bytes <= 32) (hs : a.eval x = v) (hy : a.eval y = .slice (some ⟨K, 0, none⟩) 1 1) (hK : W.heap[K]? = some (.cells L.toArray T (0, 0))) (hL : L.length = s) (hone : ∀ u ∈ L, u.oneCell' = true)
  (hO : cK B T s W v n F) (hF : ∀ j u, L[j]? = some u -> F n j = u) (hl : n <= 4194303) (hB : B <= W.heap.size)
  (h : ∀ v' w', GD B T s W v n F v' w' -> wpList prog ops Q rest (a.put o.dst v') w') : wpList prog ops Q (o :: rest) a W := by
 obtain ⟨i0, hi, hz0, hz1, hz2⟩ := vP hI; obtain ⟨xs, hown, hx⟩ := hO.own; have hb2 : (n + 1) * bytes <= 140737488355328 := by
  have : (n + 1) * bytes <= 4194304 * 32 := Nat.mul_le_mul zO hby
  omega
 refine wpList_append_own_at W hgd x y TS hop B T i0 z s bytes hT hi hz0 hz1 hz2 hz hs0 v n xs hs hown ⟨K, 0, none⟩ 1 1 L hy (by simp [hL]) (λ j u hj => ?_) hone (by unfold maxLen; omega) hb2 hB λ v' w' h1 h2 _ h5 => h v' w' ⟨cK.of_own h1 λ i j hi hj => ?_, h2, h5⟩
 . have hadd : (⟨K, 0, none⟩ : Addr).add j = ⟨K, j, none⟩ := by unfold Addr.add; split <;> simp_all
   rw [hadd, cell_of_row _ _ _ _ _ _ hK]; simpa using hj
 . have hxl := hown.1; by_cases hin : i < n
   . rw [List.getElem?_append_left, hx i j hin hj]; have := Nat.mul_le_mul_right s (show i + 1 <= n by omega); rw [Nat.add_mul] at this; omega
   . have hin : i = n := by omega
     subst hin; rw [List.getElem?_append_right zO, show i * s + j - xs.length = j by omega]; have hj2 : L[j]? = some L[j] := List.getElem?_eq_getElem zO; rw [hF j _ hj2]; exact hj2
theorem cK.cell {g c : Nat} (h : cK B T s w (.slice (some ⟨g, 0, none⟩) n c) n F) {i j : Nat} (hi : i < n) (hj : j < s) : w.cell? ⟨g, i * s + j, none⟩ = some (F i j) := by
 rcases h with ⟨h, _⟩ | ⟨g', cap, cur, e, h2, h3, h4, h5, h6, h7⟩
 . cases h
 . cases e; rw [Joins.cell_of_block h3]; exact h7 i j hi hj
theorem cK.soft {g c : Nat} (h : cK B T s w (.slice (some ⟨g, 0, none⟩) n c) n F) (i : Nat) : w.frozen? ⟨g, i, none⟩ = false := by
 rcases h with ⟨h, _⟩ | ⟨g', cap, cur, e, h2, h3, _⟩
 . cases h
 . cases e; exact Joins.unfrozen_of_block h3 i
theorem cK.set {g c : Nat} (h : cK B T s w (.slice (some ⟨g, 0, none⟩) n c) n F) {i j : Nat} (hi : i < n) (hj : j < s) (u : Value) (hF : ∀ i' j', i' < n -> j' < s -> F' i' j' = if i' = i /\ j' = j then u else F i' j') :
  cK B T s (w.setCell ⟨g, i * s + j, none⟩ u) (.slice (some ⟨g, 0, none⟩) n c) n F' := by
 rcases h with ⟨h, _⟩ | ⟨g', cap, cur, e, h2, h3, h4, h5, h6, h7⟩
 . cases h
 . cases e; have hlt : i * s + j < cur.size := by
    have := h7 i j hi hj; exact (Array.getElem?_eq_some_iff.1 this).1
   refine .inr ⟨_, _, _, rfl, h2, Joins.block_setCell h3 u, h4, h5, by simpa using h6, λ i' j' hi' hj' => ?_⟩; rw [hF i' j' hi' hj', Array.getElem?_setIfInBounds]; by_cases he : i * s + j = i' * s + j'
   . have : i' = i /\ j' = j := by
      have h8 : (i * s + j) / s = (i' * s + j') / s := (by rw [he]); have h9 : (i * s + j) % s = (i' * s + j') % s := (by rw [he]); rw [Nat.add_comm, Nat.add_mul_div_right _ _ zO, Nat.div_eq_of_lt hj, Nat.add_comm (i' * s), Nat.add_mul_div_right _ _ zO, Nat.div_eq_of_lt hj'] at h8; rw [Nat.mul_add_mod_self_right, Nat.mod_eq_of_lt hj, Nat.mul_add_mod_self_right, Nat.mod_eq_of_lt hj'] at h9; omega
     rw [if_pos he, if_pos this, if_pos hlt]
   . rw [if_neg he, if_neg λ g => he (by rw [g.1, g.2])]; exact h7 i' j' hi' hj'
end
def dK (e : El) : Nat -> Value
 | 0 => .int .i64 e.up
 | 1 => .int .i64 e.size
 | 2 => .int .i64 e.least
 | _ => .int .i64 e.mark
structure bT (B : Nat) (w : World) (k : Nat) (v : Value) (S : KS) (E : Nat -> El) (ρ : Nat -> Nat) : Prop where
 good : nw E S ρ
 row : cK B 150 4 w v S.n (λ i => dK (E i))
 box : w.heap[k]? = some (.cells #[v] 146 (0, 0))
 low : B <= k
 big : S.n <= 4194303
def rG (k : Nat) (v : Value) (b : Nat) : Prop := b = k ∨ v.ownBlock = some b
section
variable {B k : Nat} {w w' : World} {v : Value} {S : KS} {E : Nat -> El} {ρ : Nat -> Nat}
theorem bT.kept {M : Nat -> Prop} (h : bT B w k v S E ρ) (hk : ba M w w') (hM : ∀ b, rG k v b -> ¬ M b) : bT B w' k v S E ρ :=
 ⟨h.good, h.row.kept hk λ g hg => hM g (.inr hg), hk.heap h.box (hM k (.inl rfl)), h.low, h.big⟩
theorem bT.under (h : bT B w k v S E ρ) (hb : Below w.heap.size w w') : bT B w' k v S E ρ := h.kept (M := λ _ => False) (ba.of_below hb) λ _ _ h => h
theorem bT.lt (h : bT B w k v S E ρ) {b : Nat} (hb : rG k v b) : B <= b /\ b < w.heap.size := by
 rcases hb with rfl | hb
 . exact ⟨h.low, kin h.box⟩
 . exact h.row.lt hb
theorem bT.apart (h : bT B w k v S E ρ) : v.ownBlock ≠ some k := by
 intro e; rcases h.row with ⟨rfl, _⟩ | ⟨g', cap, cur, rfl, h2, h3, _⟩
 . simp [Value.ownBlock] at e
 . have : g' = k := by simpa [Value.ownBlock] using e
   subst this; have := h.box; rw [h3] at this; injection this with this; injection this with _ ht; exact absurd ht zD
theorem bT.cell0 (h : bT B w k v S E ρ) : w.cell? ⟨k, 0, none⟩ = some v := by rw [Joins.cell_of_block h.box]; rfl
theorem bT.there (h : bT B w k v S E ρ) (hn : 0 < S.n) : ∃ g c, v = .slice (some ⟨g, 0, none⟩) S.n c /\ S.n <= c /\ c <= maxLen := by
 rcases h.row with ⟨_, h0⟩ | ⟨g, c, cur, rfl, _, _, h4, h5, _⟩
 . omega
 . exact ⟨g, c, rfl, h4, h5⟩
theorem bT.len (h : bT B w k v S E ρ) : ∃ A c, v = .slice A S.n c /\ S.n <= c /\ c <= maxLen := by
 rcases h.row with ⟨rfl, h0⟩ | ⟨g, c, cur, rfl, _, _, h4, h5, _⟩
 . exact ⟨none, 0, by rw [h0], by omega, by unfold maxLen; omega⟩
 . exact ⟨_, c, rfl, h4, h5⟩
theorem bT.cells {g c : Nat} (h : bT B w k (.slice (some ⟨g, 0, none⟩) S.n c) S E ρ) {i : Nat} (hi : i < S.n) :
  w.cell? ⟨g, i * 4, none⟩ = some (.int .i64 (E i).up) /\ w.cell? ⟨g, i * 4 + 1, none⟩ = some (.int .i64 (E i).size) /\ w.cell? ⟨g, i * 4 + 2, none⟩ = some (.int .i64 (E i).least) /\ w.cell? ⟨g, i * 4 + 3, none⟩ = some (.int .i64 (E i).mark) :=
 ⟨h.row.cell hi (show 0 < 4 by omega), h.row.cell hi (show 1 < 4 by omega), h.row.cell hi (show 2 < 4 by omega), h.row.cell hi (show 3 < 4 by omega)⟩
end
end Go.Proofs.YtiholfmmphcbeaaGreatDoor
