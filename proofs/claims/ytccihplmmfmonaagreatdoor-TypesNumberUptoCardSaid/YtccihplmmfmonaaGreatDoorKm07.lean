import Derived.StillTailTactics
import Derived.Test.YtccihplmmfmonaaGreatDoorKm06
set_option maxHeartbeats 1000000
set_option maxRecDepth 100000
namespace Go.Proofs.YtccihplmmfmonaaGreatDoor
open _root_.Go.Proofs.Tryz
open Go.RowKit
def lX (m n : Int) : Int × Bool := if m = n ∨ n = 0 then (m, true) else if m = 0 then (n, true) else (0, false)
theorem lW (m n : Int) (w : World) : Calls prog 141 #[.int .i64 m, .int .i64 n] w λ e w' => e = .returned (.tuple #[.int .i64 (lX m n).1, .bool (lX m n).2]) /\ w = w' := by
 go_enter func141, ntmps141
 go_wp2; all_goals go_ret2
 all_goals (refine ⟨?_, rfl⟩; unfold lX; simp_all)
section
variable {B : Nat} {w : World} {E : Nat -> El}
theorem cK.four {g c n : Nat} (h : cK B 142 4 w (.slice (some ⟨g, 0, none⟩) n c) n (λ i => dI (E i))) {i : Nat} (hi : i < n) :
  w.cell? ⟨g, i * 4, none⟩ = some (.int .i64 (E i).up) /\ w.cell? ⟨g, i * 4 + 1, none⟩ = some (.int .i64 (E i).size) /\ w.cell? ⟨g, i * 4 + 2, none⟩ = some (.int .i64 (E i).least) /\ w.cell? ⟨g, i * 4 + 3, none⟩ = some (.int .i64 (E i).mark) :=
 ⟨h.cell hi (show 0 < 4 by omega), h.cell hi (show 1 < 4 by omega), h.cell hi (show 2 < 4 by omega), h.cell hi (show 3 < 4 by omega)⟩
def dx (E : Nat -> El) (i u : Nat) : Nat -> El := λ j => if j = i then { E i with up := u } else E j
def cP (E : Nat -> El) (i u : Nat) : Nat -> El := λ j => if j = i then { E i with size := u } else E j
def eJ (E : Nat -> El) (i u : Nat) : Nat -> El := λ j => if j = i then { E i with least := u } else E j
theorem JC {g c n : Nat} (h : cK B 142 4 w (.slice (some ⟨g, 0, none⟩) n c) n (λ i => dI (E i))) {i : Nat} (hi : i < n) (u : Nat) :
  cK B 142 4 (w.setCell ⟨g, i * 4, none⟩ (.int .i64 u)) (.slice (some ⟨g, 0, none⟩) n c) n (λ j => dI (dx E i u j)) :=
 h.set hi (show 0 < 4 by omega) _ λ i' j' _ hj => by
  by_cases e : i' = i
  . subst e; match j', hj with | 0, _ => simp [dx, dI] | 1, _ => simp [dx, dI] | 2, _ => simp [dx, dI] | 3, _ => simp [dx, dI]
  . simp [dx, e]
theorem JA {g c n : Nat} (h : cK B 142 4 w (.slice (some ⟨g, 0, none⟩) n c) n (λ i => dI (E i))) {i : Nat} (hi : i < n) (u : Nat) :
  cK B 142 4 (w.setCell ⟨g, i * 4 + 1, none⟩ (.int .i64 u)) (.slice (some ⟨g, 0, none⟩) n c) n (λ j => dI (cP E i u j)) :=
 h.set hi (show 1 < 4 by omega) _ λ i' j' _ hj => by
  by_cases e : i' = i
  . subst e; match j', hj with | 0, _ => simp [cP, dI] | 1, _ => simp [cP, dI] | 2, _ => simp [cP, dI] | 3, _ => simp [cP, dI]
  . simp [cP, e]
theorem Jz {g c n : Nat} (h : cK B 142 4 w (.slice (some ⟨g, 0, none⟩) n c) n (λ i => dI (E i))) {i : Nat} (hi : i < n) (u : Nat) :
  cK B 142 4 (w.setCell ⟨g, i * 4 + 2, none⟩ (.int .i64 u)) (.slice (some ⟨g, 0, none⟩) n c) n (λ j => dI (eJ E i u j)) :=
 h.set hi (show 2 < 4 by omega) _ λ i' j' _ hj => by
  by_cases e : i' = i
  . subst e; match j', hj with | 0, _ => simp [eJ, dI] | 1, _ => simp [eJ, dI] | 2, _ => simp [eJ, dI] | 3, _ => simp [eJ, dI]
  . simp [eJ, e]
theorem Im {g c n : Nat} (h : cK B 142 4 w (.slice (some ⟨g, 0, none⟩) n c) n (λ i => dI (E i))) {i : Nat} (hi : i < n) (u : Int) :
  cK B 142 4 (w.setCell ⟨g, i * 4 + 3, none⟩ (.int .i64 u)) (.slice (some ⟨g, 0, none⟩) n c) n (λ j => dI (fE E i u j)) :=
 h.set hi (show 3 < 4 by omega) _ λ i' j' _ hj => by
  by_cases e : i' = i
  . subst e; match j', hj with | 0, _ => simp [fE, dI] | 1, _ => simp [fE, dI] | 2, _ => simp [fE, dI] | 3, _ => simp [fE, dI]
  . simp [fE, e]
theorem rY {r s : Nat} (hne : r ≠ s) (m : Int) : fE (eJ (cP (dx E s r) r ((E r).size + (E s).size)) r (min (E r).least (E s).least)) r m = fI E r s m := by
 funext i
 by_cases e : i = s
 . subst e; simp [fE, eJ, cP, dx, fI, hne.symm]
 . by_cases e2 : i = r
   . subst e2; simp [fE, eJ, cP, dx, fI, hne]
   . simp [fE, eJ, cP, dx, fI, e, e2]
theorem cK.drewN {T : TypeId} {s n : Nat} {v : Value} {F : Nat -> Nat -> Value} (h : cK B T s w v n F) (q : Nat) : cK B T s (w.drewN q) v n F := h.under ⟨rfl, rfl, rfl, Nat.le_refl _, λ _ _ => rfl⟩
theorem a7.drewN {M : Nat -> Prop} {w' : World} (h : a7 M w w') (q : Nat) : a7 M w (w'.drewN q) := ⟨h.os, h.tape, h.output, h.size, h.block⟩
def uz (B : Nat) (g n c : Nat) (E : Nat -> El) (w w' : World) : Prop :=
 cK B 142 4 w' (.slice (some ⟨g, 0, none⟩) n c) n (λ i => dI (E i)) /\ a7 (· = g) w w'
theorem DK {g c n r s : Nat} (h : cK B 142 4 w (.slice (some ⟨g, 0, none⟩) n c) n (λ i => dI (E i))) (hr : r < n) (hs : s < n) (hne : r ≠ s) (hru : (E r).up = r) (hsum : (E r).size + (E s).size <= 4194303) (hlt : ¬ (E r).size < (E s).size) (m : Int) :
  Calls prog 142 #[.pointer (some ⟨g, r * 4, none⟩), .pointer (some ⟨g, s * 4, none⟩), .int .i64 m] w λ e w' => e = .returned (.tuple #[]) /\ uz B g n c (fI E r s m) w w' := by
 have R := zH h; obtain ⟨r0, r1, _, _⟩ := h.four hr; obtain ⟨_, s1, _, _⟩ := h.four hs; have f0 := h.soft (s * 4); have HR := zH hr; have HS := zH hs; have HN := zH hne; have HU := zH hru; have HL := zH hlt; have hlt' : decide ((E r).size < (E s).size) = false := (by simpa using hlt); have HB := zH hsum; rw [hru] at r0; clear h hr hs hne hru hlt hsum; go_enter func142, ntmps142
 go_wp2_with fail
 go_quiet (fail)
 go_wp2_with fail
 generalize hW : World.setCell _ _ _ = W1; have R1 := JC (R.o.drewN nq) HS.o r; have K1 := (((a7.refl (· = g) w).drewN nq).set (a := ⟨g, s * 4, none⟩) (.inl rfl) (.int .i64 r)); rw [hW] at R1 K1; clear hW r0 r1 s1 f0 hlt'; have R2 := zH R1; have KK := zH K1; obtain ⟨_, r1, _, _⟩ := R1.four HR.o; obtain ⟨_, s1, _, _⟩ := R1.four HS.o; have f1 := R1.soft (r * 4 + 1); have e1 : (dx E s r r).size = (E r).size := (by simp [dx, HN.o]); have e2 : (dx E s r s).size = (E s).size := (by simp [dx]); rw [e1] at r1; rw [e2] at s1; have hs0 : (E r).size + (E s).size <= 4194303 := HB.o; clear R1 K1 e1 e2; have hw : IntKind.i64.wrap (((E r).size : Int) + ((E s).size : Int)) = ((E r).size : Int) + ((E s).size : Int) := IntWalk.i64_in _ zO; go_still_tail 11, zK
 change wpList _ _ _ _ _ W1.drew; clear hw hs0; go_wp2_with fail
 generalize hW : World.setCell _ _ _ = W2; have R1 := JA R2.o HR.o ((E r).size + (E s).size); have K1 := (KK.o.set (a := ⟨g, r * 4 + 1, none⟩) (.inl rfl) (.int .i64 (((E r).size + (E s).size : Nat) : Int))); rw [Int.natCast_add, hW] at R1 K1; clear hW r1 s1 f1 R2 KK; have R2 := zH R1; have KK := zH K1; obtain ⟨_, _, r1, _⟩ := R1.four HR.o; obtain ⟨_, _, s1, _⟩ := R1.four HS.o; have f1 := R1.soft (r * 4 + 2); have e1 : (cP (dx E s r) r ((E r).size + (E s).size) r).least = (E r).least := (by simp [dx, cP, HN.o]); have e2 : (cP (dx E s r) r ((E r).size + (E s).size) s).least = (E s).least := (by simp [dx, cP, HN.o.symm]); rw [e1] at r1; rw [e2] at s1; clear R1 K1 e1 e2; go_region; have hmin : (if (E s).least < (E r).least then ((E s).least : Int) else ((E r).least : Int)) = ((min (E r).least (E s).least : Nat) : Int) := (by split <;> omega)
 rw [hmin]; clear hmin; generalize hW : World.setCell _ _ _ = W3; have R1 := Jz R2.o HR.o (min (E r).least (E s).least); have K1 := (KK.o.set (a := ⟨g, r * 4 + 2, none⟩) (.inl rfl) (.int .i64 ((min (E r).least (E s).least : Nat) : Int))); rw [hW] at R1 K1; clear hW r1 s1 f1 R2 KK; have R2 := zH R1; have KK := zH K1; have f1 := R1.soft (r * 4 + 3); obtain ⟨_, _, _, r1⟩ := R1.four HR.o; clear R1 K1; go_wp2_with fail
 go_end0
 refine ⟨rfl, ?_, ?_⟩
 . have := (Im R2.o HR.o m).drewN 2; rw [rY HN.o] at this; exact this
 . exact (KK.o.set (a := ⟨g, r * 4 + 3, none⟩) (.inl rfl) (.int .i64 m)).drewN 2
theorem Bv {g c n r s : Nat} (h : cK B 142 4 w (.slice (some ⟨g, 0, none⟩) n c) n (λ i => dI (E i))) (hr : r < n) (hs : s < n) (hne : r ≠ s) (hru : (E r).up = r) (hsum : (E r).size + (E s).size <= 4194303) (hlt : (E s).size < (E r).size) (m : Int) :
  Calls prog 142 #[.pointer (some ⟨g, s * 4, none⟩), .pointer (some ⟨g, r * 4, none⟩), .int .i64 m] w λ e w' => e = .returned (.tuple #[]) /\ uz B g n c (fI E r s m) w w' := by
 have R := zH h; obtain ⟨r0, r1, _, _⟩ := h.four hr; obtain ⟨_, s1, _, _⟩ := h.four hs; have f0 := h.soft (s * 4); have HR := zH hr; have HS := zH hs; have HN := zH hne; have HU := zH hru; have HL := zH hlt; have hlt' : decide ((E s).size < (E r).size) = true := (by simpa using hlt); have HB := zH hsum; rw [hru] at r0; clear h hr hs hne hru hlt hsum; go_enter func142, ntmps142
 go_wp2_with fail
 go_quiet (fail)
 go_wp2_with fail
 generalize hW : World.setCell _ _ _ = W1; have R1 := JC (R.o.drewN nq) HS.o r; have K1 := (((a7.refl (· = g) w).drewN nq).set (a := ⟨g, s * 4, none⟩) (.inl rfl) (.int .i64 r)); rw [hW] at R1 K1; clear hW r0 r1 s1 f0 hlt'; have R2 := zH R1; have KK := zH K1; obtain ⟨_, r1, _, _⟩ := R1.four HR.o; obtain ⟨_, s1, _, _⟩ := R1.four HS.o; have f1 := R1.soft (r * 4 + 1); have e1 : (dx E s r r).size = (E r).size := (by simp [dx, HN.o]); have e2 : (dx E s r s).size = (E s).size := (by simp [dx]); rw [e1] at r1; rw [e2] at s1; have hs0 : (E r).size + (E s).size <= 4194303 := HB.o; clear R1 K1 e1 e2; have hw : IntKind.i64.wrap (((E r).size : Int) + ((E s).size : Int)) = ((E r).size : Int) + ((E s).size : Int) := IntWalk.i64_in _ zO; go_still_tail 11, zK
 change wpList _ _ _ _ _ W1.drew; clear hw hs0; go_wp2_with fail
 generalize hW : World.setCell _ _ _ = W2; have R1 := JA R2.o HR.o ((E r).size + (E s).size); have K1 := (KK.o.set (a := ⟨g, r * 4 + 1, none⟩) (.inl rfl) (.int .i64 (((E r).size + (E s).size : Nat) : Int))); rw [Int.natCast_add, hW] at R1 K1; clear hW r1 s1 f1 R2 KK; have R2 := zH R1; have KK := zH K1; obtain ⟨_, _, r1, _⟩ := R1.four HR.o; obtain ⟨_, _, s1, _⟩ := R1.four HS.o; have f1 := R1.soft (r * 4 + 2); have e1 : (cP (dx E s r) r ((E r).size + (E s).size) r).least = (E r).least := (by simp [dx, cP, HN.o]); have e2 : (cP (dx E s r) r ((E r).size + (E s).size) s).least = (E s).least := (by simp [dx, cP, HN.o.symm]); rw [e1] at r1; rw [e2] at s1; clear R1 K1 e1 e2; go_region; have hmin : (if (E s).least < (E r).least then ((E s).least : Int) else ((E r).least : Int)) = ((min (E r).least (E s).least : Nat) : Int) := (by split <;> omega)
 rw [hmin]; clear hmin; generalize hW : World.setCell _ _ _ = W3; have R1 := Jz R2.o HR.o (min (E r).least (E s).least); have K1 := (KK.o.set (a := ⟨g, r * 4 + 2, none⟩) (.inl rfl) (.int .i64 ((min (E r).least (E s).least : Nat) : Int))); rw [hW] at R1 K1; clear hW r1 s1 f1 R2 KK; have R2 := zH R1; have KK := zH K1; have f1 := R1.soft (r * 4 + 3); obtain ⟨_, _, _, r1⟩ := R1.four HR.o; clear R1 K1; go_wp2_with fail
 go_end0
 refine ⟨rfl, ?_, ?_⟩
 . have := (Im R2.o HR.o m).drewN 2; rw [rY HN.o] at this; exact this
 . exact (KK.o.set (a := ⟨g, r * 4 + 3, none⟩) (.inl rfl) (.int .i64 m)).drewN 2
def jX (E : Nat -> El) (r s : Nat) (m : Int) : Nat -> El := if (E r).size < (E s).size then fI E s r m else fI E r s m
theorem Bw {g c n r s : Nat} (h : cK B 142 4 w (.slice (some ⟨g, 0, none⟩) n c) n (λ i => dI (E i))) (hr : r < n) (hs : s < n) (hne : r ≠ s) (hru : (E r).up = r) (hsu : (E s).up = s) (hsum : (E r).size + (E s).size <= 4194303) (m : Int) :
  Calls prog 142 #[.pointer (some ⟨g, r * 4, none⟩), .pointer (some ⟨g, s * 4, none⟩), .int .i64 m] w λ e w' => e = .returned (.tuple #[]) /\ uz B g n c (jX E r s m) w w' := by
 by_cases hlt : (E r).size < (E s).size
 . have := Bv h hs hr hne.symm hsu zO hlt m; rw [show jX E r s m = fI E s r m by simp [jX, hlt]]; exact this
 . have := DK h hr hs hne hru zO hlt m; rw [show jX E r s m = fI E r s m by simp [jX, hlt]]; exact this
end
def dG (B : Nat) (w : World) (k : Nat) (v : Value) (S : KS) : Prop := ∃ E ρ, bR B w k v S E ρ
def dS (B k : Nat) (v : Value) (S : KS) (w w' : World) : Prop :=
 ∃ v', dG B w' k v' S /\ a7 (rN k v) w w' /\ ∀ b, rN k v' b -> rN k v b ∨ w.heap.size <= b
section
variable {B k : Nat} {w : World} {v : Value} {S : KS}
theorem dG.kept {M : Nat -> Prop} {w' : World} (h : dG B w k v S) (hk : a7 M w w') (hM : ∀ b, rN k v b -> ¬ M b) : dG B w' k v S := by
 obtain ⟨E, ρ, h⟩ := h; exact ⟨E, ρ, h.kept hk hM⟩
theorem dG.under {w' : World} (h : dG B w k v S) (hb : Below w.heap.size w w') : dG B w' k v S := by
 obtain ⟨E, ρ, h⟩ := h; exact ⟨E, ρ, h.under hb⟩
theorem dG.lt (h : dG B w k v S) {b : Nat} (hb : rN k v b) : B <= b /\ b < w.heap.size := by
 obtain ⟨E, ρ, h⟩ := h; exact h.lt hb
theorem dS.none (h : dG B w k v S) : dS B k v S w w := ⟨v, h, a7.refl _ _, λ _ hb => .inl hb⟩
theorem dS.drewN {w' : World} (h : dS B k v S w w') (q : Nat) : dS B k v S w (w'.drewN q) := by
 obtain ⟨v', h1, h2, h3⟩ := h; exact ⟨v', h1.under ⟨rfl, rfl, rfl, Nat.le_refl _, λ _ _ => rfl⟩, h2.drewN q, h3⟩
theorem dS.ahead {w' : World} (q : Nat) (h : dS B k v S (w.drewN q) w') : dS B k v S w w' := by
 obtain ⟨v', h1, h2, h3⟩ := h; exact ⟨v', h1, ⟨h2.os, h2.tape, h2.output, h2.size, h2.block⟩, h3⟩
theorem FW (hB : B <= w.heap.size) : Calls prog 25 #[] w λ e w' => e = .returned (.pointer (some ⟨w.heap.size, 0, none⟩)) /\ dG B w' w.heap.size (.slice none 0 0) fp /\ Below w.heap.size w w' := by
 go_enter func25, ntmps25
 go_wp2; go_ret; exact ⟨rfl, ⟨λ _ => ⟨0, 0, 0, 0⟩, λ i => i, BV _ _, cK.nil, heap_alloc_new w _, hB, by simp [fp]⟩, (Below.refl _ _).alloc (Nat.le_refl _) _⟩
theorem Cc : (prog.info? 142).map (λ i => (i.zero, i.size, i.bytes)) = some (some (.agg #[.int .i64 0, .int .i64 0, .int .i64 0, .int .i64 0]), 4, 32) := by kernel_rfl
theorem Dv (a b c d : Int) : ∀ u ∈ [Value.int .i64 a, .int .i64 b, .int .i64 c, .int .i64 d], u.oneCell' = true := by
 intro u hu; simp only [List.mem_cons, List.not_mem_nil, or_false] at hu; rcases hu with rfl | rfl | rfl | rfl <;> rfl
theorem E0 (E : Nat -> El) (n : Nat) (j : Nat) (u : Value) (h : [Value.int .i64 (n : Int), .int .i64 1, .int .i64 (n : Int), .int .i64 0][j]? = some u) : dI (ny E n n) j = u := by
 match j, h with
 | 0, h => simpa [ny, dI] using h
 | 1, h => simpa [ny, dI] using h
 | 2, h => simpa [ny, dI] using h
 | 3, h => simpa [ny, dI] using h
 | j + 4, h => simp at h
theorem Ht {E : Nat -> El} {ρ : Nat -> Nat} {v' : Value} {W w' : World} (h : bR B w k v S E ρ) (hn : S.n < 4194303) (hal : Below w.heap.size w W) (hk : k < w.heap.size)
  (hg : GY B 142 4 W v S.n (λ i => dI (ny E S.n i)) v' w') : dS B k v (kB S) w (w'.setCell ⟨k, 0, none⟩ v') /\ w'.frozen? ⟨k, 0, none⟩ = false /\ w'.cell? ⟨k, 0, none⟩ = some v := by
 obtain ⟨h1, h2, h3⟩ := hg; have hbox : w'.heap[k]? = some (.cells #[v] 138 (0, 0)) := (h2.block k (Nat.lt_of_lt_of_le hk hal.size) (λ e => h.apart e.symm)).trans ((hal.block k hk).trans h.box); have hne : v'.ownBlock ≠ some k := by
  rcases h3 with h3 | h3
  . rw [h3]; exact h.apart
  . rw [h3]; intro e; have := hal.size; injection e with e; omega
 refine ⟨⟨v', ⟨_, _, Ed h.good, ?_, Joins.block_setCell hbox v', h.low, by simp only [kB]; omega⟩, ?_, ?_⟩, Joins.unfrozen_of_block hbox 0, by rw [Joins.cell_of_block hbox]; rfl⟩
 . refine cK.kept (M := (· = k)) h1 ((a7.refl (· = k) w').set (a := ⟨k, 0, none⟩) (.inl rfl) _) λ g hg => ?_; intro e; subst e; exact hne hg
 . exact ((a7.of_below hal).trans ((a7.of_grown (M := rN k v) h2 λ b hb => .inr hb))).set (.inl (.inl rfl)) _
 . intro b hb; rcases hb with rfl | hb
   . exact .inl (.inl rfl)
   . rcases h3 with h3 | h3
     . exact .inl (.inr (h3 ▸ hb))
     . rw [h3] at hb; injection hb with hb; exact .inr (by have := hal.size; omega)
theorem GY.shape {T : TypeId} {s n : Nat} {W w' : World} {F : Nat -> Nat -> Value} {v' : Value} (h : GY B T s W v n F v' w') : ∃ A c, v' = .slice A (n + 1) c := by
 rcases h.1 with ⟨_, h0⟩ | ⟨g, c, cur, rfl, _⟩
 . omega
 . exact ⟨_, _, rfl⟩
theorem pz (h : dG B w k v S) (hn : S.n < 4194303) (hB : B <= w.heap.size) : Calls prog 27 #[.pointer (some ⟨k, 0, none⟩)] w λ e w' => e = .returned (.int .i64 S.n) /\ dS B k v (kB S) w w' := by
 obtain ⟨E, ρ, h⟩ := h; have H := zH h; have hc := h.cell0; have hkl := kin h.box; have hB1 : B <= w.heap.size + 1 := zO; have hn1 : S.n <= 4194303 := zO; obtain ⟨A, c, hv, h1, h2⟩ := h.len; have HN := zH hn; have hR : cK B 142 4 w v S.n (λ i => dI (ny E S.n i)) := h.row.congr λ i j hi _ => by simp [ny, Nat.ne_of_lt hi]
 have HR := zH hR; subst hv; clear h hR hn; unfold maxLen at h2; have hal : Below w.heap.size w (w.alloc (.cells #[.int .i64 S.n, .int .i64 1, .int .i64 S.n, .int .i64 0] 142)) := (Below.refl _ _).alloc (Nat.le_refl _) _; have HAL := zH hal; clear hal; go_enter func27, ntmps27
 go_wp2_with (at_builtin; refine zi (B := B) (v := .slice A S.n c) (T := 142) (s := 4) (n := S.n) (F := λ i => dI (ny E S.n i)) (L := [.int .i64 S.n, .int .i64 1, .int .i64 S.n, .int .i64 0]) rfl _ _ rfl underlying136 Cc rfl zD zD rfl rfl (heap_alloc_new _ _) rfl (Dv _ _ _ _) (HR.o.under HAL.o) (E0 E S.n) hn1 ?_ ?_; (first | omega | (simp; omega)); (intro v5 w5 h5; obtain ⟨A5, c5, rfl⟩ := h5.shape; obtain ⟨_, hfz, hcl⟩ := Ht H.o HN.o HAL.o hkl h5; have H5 := zH h5; clear h5))
 go_ret; exact ⟨rfl, (Ht H.o HN.o HAL.o hkl H5.o).1⟩
theorem I3 {a m : Int} (hm : 0 < m) : (lX a m).2 = decide (a = 0 ∨ a = m) := by
 unfold lX; by_cases h1 : a = m
 . simp [h1]
 . by_cases h2 : a = 0
   . rw [if_neg zO, if_pos h2]; simp [h2]
   . rw [if_neg zO, if_neg h2]; simp [h1, h2]
theorem IH {E : Nat -> El} {ρ : Nat -> Nat} {g c : Nat} {a : Nat} {m : Int} (h : bR B w k (.slice (some ⟨g, 0, none⟩) S.n c) S E ρ) (ha : a < S.n) (hm : 0 < m /\ m < 9223372036854775808) :
  dS B k (.slice (some ⟨g, 0, none⟩) S.n c) (ou S a m) w (w.setCell ⟨g, ρ a * 4 + 3, none⟩ (.int .i64 m)) := by
 have hgk : g ≠ k := λ e => h.apart (by rw [e]; rfl); refine ⟨_, ⟨_, _, BW h.good ha hm, Im h.row (h.good.root a ha).1 m, ?_, h.low, h.big⟩, (a7.refl _ _).set (.inl (.inr rfl)) _, λ b hb => .inl hb⟩; exact ((a7.refl (· = g) w).set (a := ⟨g, ρ a * 4 + 3, none⟩) (.inl rfl) _).heap h.box (λ e => hgk e.symm)
theorem DM (h : dG B w k v S) (a m : Int) (hm : m < 9223372036854775808) :
  Calls prog 137 #[.pointer (some ⟨k, 0, none⟩), .int .i64 a, .int .i64 m] w λ e w' => e = .returned (.bool (gP S a m)) /\ dS B k v (gw S a m) w w' := by
 obtain ⟨E, ρ, h⟩ := h; have H := zH h; by_cases hk : inK S a = true /\ 0 < m
 . obtain ⟨hk, h0⟩ := hk; obtain ⟨b, hb0⟩ : ∃ b, a.toNat = b := ⟨_, rfl⟩; obtain ⟨rfl, hb⟩ := qw hk hb0; have HK := zH hk; have HB := zH hb; obtain ⟨g, c, rfl, _, _⟩ := h.there zO; have hr := (h.cells (h.good.root b hb).1).2.2.2; have hf := h.row.soft (ρ b * 4 + 3); rw [h.good.mark b hb] at hr; have hcq := I3 (a := S.m b) h0; have HM := zH (And.intro h0 hm); have hle : ¬ m <= 0 := zO; have HMO := zH (show gP S (b : Int) m = decide (S.m b = 0 ∨ S.m b = m) by simp [gP, hk, h0]); by_cases hd : S.m b = 0 ∨ S.m b = m
   . have HQ := zH (show (lX (S.m b) m).2 = true by rw [hcq]; simpa using hd); have HMT := zH (show gP S (b : Int) m = true by rw [HMO.o]; simpa using hd); clear hk h hb hb0 hcq hm h0 hd; go_enter func137, ntmps137
     go_wp2_with (first
      | (go_at_call 103; ((with_reducible refine (dm H.o _).mono ?_); rintro e w' ⟨he, rfl⟩; rw [HK.o] at he; subst he))
      | (go_at_call 104; ((with_reducible refine (gM H.o HB.o).mono ?_); rintro e w' ⟨he, rfl⟩; subst he))
      | (go_at_call 141; ((with_reducible refine (lW _ _ _).mono ?_); rintro e w' ⟨he, rfl⟩; rw [HQ.o] at he; subst he)))
     go_ret; refine ⟨dk HMT.o.symm, ?_⟩; rw [show gw S (b : Int) m = ou S b m by unfold gw; rw [if_pos HMT.o]; simp]; exact IH H.o HB.o HM.o
   . have HQ := zH (show (lX (S.m b) m).2 = false by rw [hcq]; simpa using hd); have HMT := zH (show gP S (b : Int) m = false by rw [HMO.o]; simpa using hd); clear hk h hb hb0 hcq hm h0 hd; go_enter func137, ntmps137
     go_wp2_with (first
      | (go_at_call 103; ((with_reducible refine (dm H.o _).mono ?_); rintro e w' ⟨he, rfl⟩; rw [HK.o] at he; subst he))
      | (go_at_call 104; ((with_reducible refine (gM H.o HB.o).mono ?_); rintro e w' ⟨he, rfl⟩; subst he))
      | (go_at_call 141; ((with_reducible refine (lW _ _ _).mono ?_); rintro e w' ⟨he, rfl⟩; rw [HQ.o] at he; subst he)))
     go_ret; refine ⟨dk HMT.o.symm, ?_⟩; rw [show gw S (b : Int) m = S by unfold gw; rw [if_neg (by rw [HMT.o]; decide)]]; exact dS.none ⟨E, ρ, H.o⟩
 . have HMT := zH (show gP S a m = false by
    cases hi : inK S a
    . simp [gP, hi]
    . have : ¬ 0 < m := λ g => hk ⟨hi, g⟩; simp [gP, this])
   cases hi : inK S a
   . have HK := zH hi; clear hk h hi hm; go_enter func137, ntmps137
     go_wp2_with (go_at_call 103; ((with_reducible refine (dm H.o _).mono ?_); rintro e w' ⟨he, rfl⟩; rw [HK.o] at he; subst he))
     go_ret; refine ⟨dk HMT.o.symm, ?_⟩; rw [show gw S a m = S by unfold gw; rw [if_neg (by rw [HMT.o]; decide)]]; exact dS.none ⟨E, ρ, H.o⟩
   . have HK := zH hi; have hle : m <= 0 := (by rw [hi] at hk; simpa using hk); clear hk h hi hm; go_enter func137, ntmps137
     go_wp2_with (go_at_call 103; ((with_reducible refine (dm H.o _).mono ?_); rintro e w' ⟨he, rfl⟩; rw [HK.o] at he; subst he))
     go_ret; refine ⟨dk HMT.o.symm, ?_⟩; rw [show gw S a m = S by unfold gw; rw [if_neg (by rw [HMT.o]; decide)]]; exact dS.none ⟨E, ρ, H.o⟩
theorem oI (m n : Int) (w : World) : Calls prog 141 #[.int .i64 m, .int .i64 n] w λ e w' => e = .returned (.tuple #[.int .i64 (lX m n).1, .bool (lX m n).2]) /\ w' = w :=
 (lW m n w).mono λ _ _ ⟨h1, h2⟩ => ⟨h1, h2.symm⟩
theorem Gz {S : KS} (h : S.Ok) {a b : Nat} (ha : a < S.n) (hb : b < S.n) : (lX (S.m a) (S.m b)).2 = !decide (S.m a ≠ 0 /\ S.m b ≠ 0 /\ S.m a ≠ S.m b) /\ ((lX (S.m a) (S.m b)).2 = true -> (lX (S.m a) (S.m b)).1 = max (S.m a) (S.m b)) := by
 have := h.pos a ha; have := h.pos b hb; unfold lX; by_cases h1 : S.m a = S.m b ∨ S.m b = 0
 . rw [if_pos h1]; constructor
   . rcases h1 with h1 | h1 <;> simp [h1]
   . intro _; simp only; omega
 . rw [if_neg h1]; by_cases h2 : S.m a = 0
   . rw [if_pos h2]; constructor
     . simp [h2]
     . intro _; simp only; omega
   . rw [if_neg h2]; constructor
     . have : S.m a ≠ 0 /\ S.m b ≠ 0 /\ S.m a ≠ S.m b := ⟨h2, λ g => h1 (.inr g), λ g => h1 (.inl g)⟩; rw [decide_eq_true this]; rfl
     . intro h; cases h
theorem J5 {E : Nat -> El} {ρ : Nat -> Nat} {g c : Nat} {a b : Nat} {w' : World} (h : bR B w k (.slice (some ⟨g, 0, none⟩) S.n c) S E ρ) (ha : a < S.n) (hb : b < S.n) (hne : ρ a ≠ ρ b)
  (hm : uz B g S.n c (jX E (ρ a) (ρ b) (max (S.m a) (S.m b))) w w') : dS B k (.slice (some ⟨g, 0, none⟩) S.n c) (fB S a b) w w' := by
 have hgk : g ≠ k := λ e => h.apart (by rw [e]; rfl); have hG : ∃ ρ', nB (jX E (ρ a) (ρ b) (max (S.m a) (S.m b))) (fB S a b) ρ' := by
  unfold jX; split
  . rw [<- AR, Int.max_comm]; exact ⟨_, wi h.good hb ha hne.symm⟩
  . exact ⟨_, wi h.good ha hb hne⟩
 obtain ⟨ρ', hG⟩ := hG; exact ⟨_, ⟨_, ρ', hG, hm.1, hm.2.heap h.box (λ e => hgk e.symm), h.low, h.big⟩, hm.2.mono λ b _ hb => .inr (by rw [hb]; rfl), λ b hb => .inl hb⟩
theorem HZ {E : Nat -> El} {ρ : Nat -> Nat} (h : nB E S ρ) {a b : Nat} (ha : a < S.n) (hb : b < S.n) (hne : ρ a ≠ ρ b) : (E (ρ a)).size + (E (ρ b)).size <= S.n := by
 have two := rZ (f := λ i => if (E i).up = i then (E i).size else 0) (h.root a ha).1 (h.root b hb).1 hne; simp only [h.sum, if_pos (h.root a ha).2.1, if_pos (h.root b hb).2.1] at two; exact two
theorem Fo (h : dG B w k v S) (a b : Int) :
  Calls prog 102 #[.pointer (some ⟨k, 0, none⟩), .int .i64 a, .int .i64 b] w λ e w' => e = .returned (.bool (jw S a b)) /\ dS B k v (lH S a b) w w' := by
 obtain ⟨E, ρ, h⟩ := h; have H := zH h; by_cases hk : inK S a = true /\ inK S b = true
 . obtain ⟨hk, hk2⟩ := hk; obtain ⟨a, ha0⟩ : ∃ c, a.toNat = c := ⟨_, rfl⟩; obtain ⟨rfl, ha⟩ := qw hk ha0; obtain ⟨b, hb0⟩ : ∃ c, b.toNat = c := ⟨_, rfl⟩; obtain ⟨rfl, hb⟩ := qw hk2 hb0; have HK := zH hk; have HK2 := zH hk2; have HA := zH ha; have HB := zH hb; obtain ⟨g, c, rfl, _, _⟩ := h.there zO; have hr := (h.cells (h.good.root a ha).1).2.2.2; have hs := (h.cells (h.good.root b hb).1).2.2.2; rw [h.good.mark a ha] at hr; rw [h.good.mark b hb] at hs; have hpe := In h (ρ a) (ρ b); obtain ⟨hc1, hc2⟩ := Gz h.good.ok ha hb; have HTO := zH (show jw S (a : Int) (b : Int) = !decide (S.m a ≠ 0 /\ S.m b ≠ 0 /\ S.m a ≠ S.m b) by simp [jw, hk, hk2]); by_cases he : ρ a = ρ b
   . have HT := zH (show jw S (a : Int) (b : Int) = true by
      have := h.good.ok.mm a b ha hb ((h.good.same a b ha hb).2 he); rw [HTO.o]; simp [this])
     have HE := zH he; rw [decide_eq_true he] at hpe; clear hk hk2 h ha hb ha0 hb0 hr hs hc1 hc2 he; go_enter func102, ntmps102
     go_wp2_with (first
      | (go_at_call 103; ((with_reducible refine (dm H.o _).mono ?_); rintro e w' ⟨he, rfl⟩; (first | rw [HK.o] at he | rw [HK2.o] at he); subst he))
      | (go_at_call 104; ((with_reducible refine (gM H.o (by first | exact HA.o | exact HB.o)).mono ?_); rintro e w' ⟨he, rfl⟩; subst he)))
     go_ret; refine ⟨dk HT.o.symm, ?_⟩; rw [show lH S (a : Int) (b : Int) = fB S a b by unfold lH; rw [if_pos HT.o]; simp]; exact ⟨_, ⟨E, ρ, rD H.o.good HA.o HB.o HE.o, H.o.row, H.o.box, H.o.low, H.o.big⟩, a7.refl _ _, λ _ hb => .inl hb⟩
   . rw [decide_eq_false he] at hpe; have HE := zH he; cases hq : (lX (S.m a) (S.m b)).2
     . have HQ := zH hq; have HT := zH (show jw S (a : Int) (b : Int) = false by rw [HTO.o, <- hc1]; exact hq); clear hk hk2 h ha hb ha0 hb0 hc1 hc2 he hq; go_enter func102, ntmps102
       go_wp2_with (first
        | (go_at_call 103; ((with_reducible refine (dm H.o _).mono ?_); rintro e w' ⟨he, rfl⟩; (first | rw [HK.o] at he | rw [HK2.o] at he); subst he))
        | (go_at_call 104; ((with_reducible refine (gM H.o (by first | exact HA.o | exact HB.o)).mono ?_); rintro e w' ⟨he, rfl⟩; subst he)))
       have HCM : ∀ u : World, Calls prog 141 #[.int .i64 (S.m a), .int .i64 (S.m b)] u λ e w' => e = .returned (.tuple #[.int .i64 (lX (S.m a) (S.m b)).1, .bool false]) /\ w' = u := λ u => by
        have := oI (S.m a) (S.m b) u; rw [HQ.o] at this; exact this
       have HC := zH HCM; clear HCM; go_quiet ((go_at_call 141; exact Calls.quiet_of_same (HC.o _)))
       go_wp2_with fail
       go_ret; refine ⟨dk HT.o.symm, ?_⟩; rw [show lH S (a : Int) (b : Int) = S by unfold lH; rw [if_neg (by rw [HT.o]; decide)]]; have := (dS.none ⟨E, ρ, H.o⟩); exact this.drewN _
     . have HQ := zH hq; have HT := zH (show jw S (a : Int) (b : Int) = true by rw [HTO.o, <- hc1]; exact hq); have HMX := zH (hc2 hq); clear hk hk2 h ha hb ha0 hb0 hc1 hc2 he hq; go_enter func102, ntmps102
       go_wp2_with (first
        | (go_at_call 103; ((with_reducible refine (dm H.o _).mono ?_); rintro e w' ⟨he, rfl⟩; (first | rw [HK.o] at he | rw [HK2.o] at he); subst he))
        | (go_at_call 104; ((with_reducible refine (gM H.o (by first | exact HA.o | exact HB.o)).mono ?_); rintro e w' ⟨he, rfl⟩; subst he)))
       have HCM : ∀ u : World, Calls prog 141 #[.int .i64 (S.m a), .int .i64 (S.m b)] u λ e w' => e = .returned (.tuple #[.int .i64 (max (S.m a) (S.m b)), .bool true]) /\ w' = u := λ u => by
        have := oI (S.m a) (S.m b) u; rw [HQ.o, HMX.o] at this; exact this
       have HC := zH HCM; clear HCM; go_quiet ((go_at_call 141; exact Calls.quiet_of_same (HC.o _)))
       generalize hW : w.drewN nq = W; have H1 : bR B W k (.slice (some ⟨g, 0, none⟩) S.n c) S E ρ := (by rw [<- hW]; exact H.o.under ⟨rfl, rfl, rfl, Nat.le_refl _, λ _ _ => rfl⟩); have HW := zH hW; have H2 := zH H1; clear hW H1; go_wp2_with (go_at_call 142; ((with_reducible refine (Bw H2.o.row (H2.o.good.root a HA.o).1 (H2.o.good.root b HB.o).1 HE.o (H2.o.good.root a HA.o).2.1 (H2.o.good.root b HB.o).2.1 (Nat.le_trans (HZ H2.o.good HA.o HB.o HE.o) H2.o.big) _).mono ?_); rintro e w3 ⟨rfl, hm⟩; have HMG := zH hm; clear hm))
       go_ret; refine ⟨dk HT.o.symm, ?_⟩; rw [show lH S (a : Int) (b : Int) = fB S a b by unfold lH; rw [if_pos HT.o]; simp]; have := J5 H2.o HA.o HB.o HE.o HMG.o; rw [<- HW.o] at this; exact dS.ahead _ this
 . have HT := zH (show jw S a b = false by
    cases hi : inK S a
    . simp [jw, hi]
    . have : inK S b = false := by cases hj : inK S b <;> simp_all
      simp [jw, this])
   have HS := zH (show lH S a b = S by unfold lH; rw [if_neg (by rw [HT.o]; decide)]); cases hi : inK S a
   . have HK := zH hi; clear hk h hi; go_enter func102, ntmps102
     go_wp2_with (go_at_call 103; ((with_reducible refine (dm H.o _).mono ?_); rintro e w' ⟨he, rfl⟩; rw [HK.o] at he; subst he))
     go_ret; exact ⟨dk HT.o.symm, by rw [HS.o]; exact dS.none ⟨E, ρ, H.o⟩⟩
   . cases hj : inK S b
     . have HK := zH hi; have HK2 := zH hj; clear hk h hi hj; go_enter func102, ntmps102
       go_wp2_with (go_at_call 103; ((with_reducible refine (dm H.o _).mono ?_); rintro e w' ⟨he, rfl⟩; (first | rw [HK.o] at he | rw [HK2.o] at he); subst he))
       go_ret; exact ⟨dk HT.o.symm, by rw [HS.o]; exact dS.none ⟨E, ρ, H.o⟩⟩
     . exact absurd ⟨hi, hj⟩ hk
end
end Go.Proofs.YtccihplmmfmonaaGreatDoor
