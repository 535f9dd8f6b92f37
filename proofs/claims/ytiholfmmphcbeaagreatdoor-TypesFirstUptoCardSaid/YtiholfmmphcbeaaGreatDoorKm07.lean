import Derived.StillTailTactics
import Derived.Test.YtiholfmmphcbeaaGreatDoorKm06
set_option maxHeartbeats 1000000
set_option maxRecDepth 100000
namespace Go.Proofs.YtiholfmmphcbeaaGreatDoor
open _root_.Go.Proofs.Tryz
open Go.RowKit
def lX (m n : Int) : Int × Bool := if m = n ∨ n = 0 then (m, true) else if m = 0 then (n, true) else (0, false)
theorem lW (m n : Int) (w : World) : Calls prog 145 #[.int .i64 m, .int .i64 n] w λ e w' => e = .returned (.tuple #[.int .i64 (lX m n).1, .bool (lX m n).2]) /\ w = w' := by
 go_enter func145, ntmps145
 go_wp2; all_goals go_ret2
 all_goals (refine ⟨?_, rfl⟩; unfold lX; simp_all)
section
variable {B : Nat} {w : World} {E : Nat -> El}
theorem cK.four {g c n : Nat} (h : cK B 150 4 w (.slice (some ⟨g, 0, none⟩) n c) n (λ i => dK (E i))) {i : Nat} (hi : i < n) :
  w.cell? ⟨g, i * 4, none⟩ = some (.int .i64 (E i).up) /\ w.cell? ⟨g, i * 4 + 1, none⟩ = some (.int .i64 (E i).size) /\ w.cell? ⟨g, i * 4 + 2, none⟩ = some (.int .i64 (E i).least) /\ w.cell? ⟨g, i * 4 + 3, none⟩ = some (.int .i64 (E i).mark) :=
 ⟨h.cell hi (show 0 < 4 by omega), h.cell hi (show 1 < 4 by omega), h.cell hi (show 2 < 4 by omega), h.cell hi (show 3 < 4 by omega)⟩
def dB (E : Nat -> El) (i u : Nat) : Nat -> El := λ j => if j = i then { E i with up := u } else E j
def cQ (E : Nat -> El) (i u : Nat) : Nat -> El := λ j => if j = i then { E i with size := u } else E j
def eJ (E : Nat -> El) (i u : Nat) : Nat -> El := λ j => if j = i then { E i with least := u } else E j
theorem I9 {g c n : Nat} (h : cK B 150 4 w (.slice (some ⟨g, 0, none⟩) n c) n (λ i => dK (E i))) {i : Nat} (hi : i < n) (u : Nat) :
  cK B 150 4 (w.setCell ⟨g, i * 4, none⟩ (.int .i64 u)) (.slice (some ⟨g, 0, none⟩) n c) n (λ j => dK (dB E i u j)) :=
 h.set hi (show 0 < 4 by omega) _ λ i' j' _ hj => by
  by_cases e : i' = i
  . subst e; match j', hj with | 0, _ => simp [dB, dK] | 1, _ => simp [dB, dK] | 2, _ => simp [dB, dK] | 3, _ => simp [dB, dK]
  . simp [dB, e]
theorem I8 {g c n : Nat} (h : cK B 150 4 w (.slice (some ⟨g, 0, none⟩) n c) n (λ i => dK (E i))) {i : Nat} (hi : i < n) (u : Nat) :
  cK B 150 4 (w.setCell ⟨g, i * 4 + 1, none⟩ (.int .i64 u)) (.slice (some ⟨g, 0, none⟩) n c) n (λ j => dK (cQ E i u j)) :=
 h.set hi (show 1 < 4 by omega) _ λ i' j' _ hj => by
  by_cases e : i' = i
  . subst e; match j', hj with | 0, _ => simp [cQ, dK] | 1, _ => simp [cQ, dK] | 2, _ => simp [cQ, dK] | 3, _ => simp [cQ, dK]
  . simp [cQ, e]
theorem I7 {g c n : Nat} (h : cK B 150 4 w (.slice (some ⟨g, 0, none⟩) n c) n (λ i => dK (E i))) {i : Nat} (hi : i < n) (u : Nat) :
  cK B 150 4 (w.setCell ⟨g, i * 4 + 2, none⟩ (.int .i64 u)) (.slice (some ⟨g, 0, none⟩) n c) n (λ j => dK (eJ E i u j)) :=
 h.set hi (show 2 < 4 by omega) _ λ i' j' _ hj => by
  by_cases e : i' = i
  . subst e; match j', hj with | 0, _ => simp [eJ, dK] | 1, _ => simp [eJ, dK] | 2, _ => simp [eJ, dK] | 3, _ => simp [eJ, dK]
  . simp [eJ, e]
theorem Hp {g c n : Nat} (h : cK B 150 4 w (.slice (some ⟨g, 0, none⟩) n c) n (λ i => dK (E i))) {i : Nat} (hi : i < n) (u : Int) :
  cK B 150 4 (w.setCell ⟨g, i * 4 + 3, none⟩ (.int .i64 u)) (.slice (some ⟨g, 0, none⟩) n c) n (λ j => dK (fG E i u j)) :=
 h.set hi (show 3 < 4 by omega) _ λ i' j' _ hj => by
  by_cases e : i' = i
  . subst e; match j', hj with | 0, _ => simp [fG, dK] | 1, _ => simp [fG, dK] | 2, _ => simp [fG, dK] | 3, _ => simp [fG, dK]
  . simp [fG, e]
theorem rR {r s : Nat} (hne : r ≠ s) (m : Int) : fG (eJ (cQ (dB E s r) r ((E r).size + (E s).size)) r (min (E r).least (E s).least)) r m = fK E r s m := by
 funext i
 by_cases e : i = s
 . subst e; simp [fG, eJ, cQ, dB, fK, hne.symm]
 . by_cases e2 : i = r
   . subst e2; simp [fG, eJ, cQ, dB, fK, hne]
   . simp [fG, eJ, cQ, dB, fK, e, e2]
theorem cK.drewN {T : TypeId} {s n : Nat} {v : Value} {F : Nat -> Nat -> Value} (h : cK B T s w v n F) (q : Nat) : cK B T s (w.drewN q) v n F := h.under ⟨rfl, rfl, rfl, Nat.le_refl _, λ _ _ => rfl⟩
theorem ba.drewN {M : Nat -> Prop} {w' : World} (h : ba M w w') (q : Nat) : ba M w (w'.drewN q) := ⟨h.os, h.tape, h.output, h.size, h.block⟩
def uk (B : Nat) (g n c : Nat) (E : Nat -> El) (w w' : World) : Prop :=
 cK B 150 4 w' (.slice (some ⟨g, 0, none⟩) n c) n (λ i => dK (E i)) /\ ba (· = g) w w'
theorem Ds {g c n r s : Nat} (h : cK B 150 4 w (.slice (some ⟨g, 0, none⟩) n c) n (λ i => dK (E i))) (hr : r < n) (hs : s < n) (hne : r ≠ s) (hru : (E r).up = r) (hsum : (E r).size + (E s).size <= 4194303) (hlt : ¬ (E r).size < (E s).size) (m : Int) :
  Calls prog 146 #[.pointer (some ⟨g, r * 4, none⟩), .pointer (some ⟨g, s * 4, none⟩), .int .i64 m] w λ e w' => e = .returned (.tuple #[]) /\ uk B g n c (fK E r s m) w w' := by
 have R := zH h; obtain ⟨r0, r1, _, _⟩ := h.four hr; obtain ⟨_, s1, _, _⟩ := h.four hs; have f0 := h.soft (s * 4); have HR := zH hr; have HS := zH hs; have HN := zH hne; have HU := zH hru; have HL := zH hlt; have hlt' : decide ((E r).size < (E s).size) = false := (by simpa using hlt); have HB := zH hsum; rw [hru] at r0; clear h hr hs hne hru hlt hsum; go_enter func146, ntmps146
 go_wp2_with fail
 go_quiet (fail)
 go_wp2_with fail
 generalize hW : World.setCell _ _ _ = W1; have R1 := I9 (R.o.drewN nq) HS.o r; have K1 := (((ba.refl (· = g) w).drewN nq).set (a := ⟨g, s * 4, none⟩) (.inl rfl) (.int .i64 r)); rw [hW] at R1 K1; clear hW r0 r1 s1 f0 hlt'; have R2 := zH R1; have KK := zH K1; obtain ⟨_, r1, _, _⟩ := R1.four HR.o; obtain ⟨_, s1, _, _⟩ := R1.four HS.o; have f1 := R1.soft (r * 4 + 1); have e1 : (dB E s r r).size = (E r).size := (by simp [dB, HN.o]); have e2 : (dB E s r s).size = (E s).size := (by simp [dB]); rw [e1] at r1; rw [e2] at s1; have hs0 : (E r).size + (E s).size <= 4194303 := HB.o; clear R1 K1 e1 e2; have hw : IntKind.i64.wrap (((E r).size : Int) + ((E s).size : Int)) = ((E r).size : Int) + ((E s).size : Int) := IntWalk.i64_in _ zO; go_still_tail 11, zK
 change wpList _ _ _ _ _ W1.drew; clear hw hs0; go_wp2_with fail
 generalize hW : World.setCell _ _ _ = W2; have R1 := I8 R2.o HR.o ((E r).size + (E s).size); have K1 := (KK.o.set (a := ⟨g, r * 4 + 1, none⟩) (.inl rfl) (.int .i64 (((E r).size + (E s).size : Nat) : Int))); rw [Int.natCast_add, hW] at R1 K1; clear hW r1 s1 f1 R2 KK; have R2 := zH R1; have KK := zH K1; obtain ⟨_, _, r1, _⟩ := R1.four HR.o; obtain ⟨_, _, s1, _⟩ := R1.four HS.o; have f1 := R1.soft (r * 4 + 2); have e1 : (cQ (dB E s r) r ((E r).size + (E s).size) r).least = (E r).least := (by simp [dB, cQ, HN.o]); have e2 : (cQ (dB E s r) r ((E r).size + (E s).size) s).least = (E s).least := (by simp [dB, cQ, HN.o.symm]); rw [e1] at r1; rw [e2] at s1; clear R1 K1 e1 e2; go_region; have hmin : (if (E s).least < (E r).least then ((E s).least : Int) else ((E r).least : Int)) = ((min (E r).least (E s).least : Nat) : Int) := (by split <;> omega)
 rw [hmin]; clear hmin; generalize hW : World.setCell _ _ _ = W3; have R1 := I7 R2.o HR.o (min (E r).least (E s).least); have K1 := (KK.o.set (a := ⟨g, r * 4 + 2, none⟩) (.inl rfl) (.int .i64 ((min (E r).least (E s).least : Nat) : Int))); rw [hW] at R1 K1; clear hW r1 s1 f1 R2 KK; have R2 := zH R1; have KK := zH K1; have f1 := R1.soft (r * 4 + 3); obtain ⟨_, _, _, r1⟩ := R1.four HR.o; clear R1 K1; go_wp2_with fail
 go_end0
 refine ⟨rfl, ?_, ?_⟩
 . have := (Hp R2.o HR.o m).drewN 2; rw [rR HN.o] at this; exact this
 . exact (KK.o.set (a := ⟨g, r * 4 + 3, none⟩) (.inl rfl) (.int .i64 m)).drewN 2
theorem Bf {g c n r s : Nat} (h : cK B 150 4 w (.slice (some ⟨g, 0, none⟩) n c) n (λ i => dK (E i))) (hr : r < n) (hs : s < n) (hne : r ≠ s) (hru : (E r).up = r) (hsum : (E r).size + (E s).size <= 4194303) (hlt : (E s).size < (E r).size) (m : Int) :
  Calls prog 146 #[.pointer (some ⟨g, s * 4, none⟩), .pointer (some ⟨g, r * 4, none⟩), .int .i64 m] w λ e w' => e = .returned (.tuple #[]) /\ uk B g n c (fK E r s m) w w' := by
 have R := zH h; obtain ⟨r0, r1, _, _⟩ := h.four hr; obtain ⟨_, s1, _, _⟩ := h.four hs; have f0 := h.soft (s * 4); have HR := zH hr; have HS := zH hs; have HN := zH hne; have HU := zH hru; have HL := zH hlt; have hlt' : decide ((E s).size < (E r).size) = true := (by simpa using hlt); have HB := zH hsum; rw [hru] at r0; clear h hr hs hne hru hlt hsum; go_enter func146, ntmps146
 go_wp2_with fail
 go_quiet (fail)
 go_wp2_with fail
 generalize hW : World.setCell _ _ _ = W1; have R1 := I9 (R.o.drewN nq) HS.o r; have K1 := (((ba.refl (· = g) w).drewN nq).set (a := ⟨g, s * 4, none⟩) (.inl rfl) (.int .i64 r)); rw [hW] at R1 K1; clear hW r0 r1 s1 f0 hlt'; have R2 := zH R1; have KK := zH K1; obtain ⟨_, r1, _, _⟩ := R1.four HR.o; obtain ⟨_, s1, _, _⟩ := R1.four HS.o; have f1 := R1.soft (r * 4 + 1); have e1 : (dB E s r r).size = (E r).size := (by simp [dB, HN.o]); have e2 : (dB E s r s).size = (E s).size := (by simp [dB]); rw [e1] at r1; rw [e2] at s1; have hs0 : (E r).size + (E s).size <= 4194303 := HB.o; clear R1 K1 e1 e2; have hw : IntKind.i64.wrap (((E r).size : Int) + ((E s).size : Int)) = ((E r).size : Int) + ((E s).size : Int) := IntWalk.i64_in _ zO; go_still_tail 11, zK
 change wpList _ _ _ _ _ W1.drew; clear hw hs0; go_wp2_with fail
 generalize hW : World.setCell _ _ _ = W2; have R1 := I8 R2.o HR.o ((E r).size + (E s).size); have K1 := (KK.o.set (a := ⟨g, r * 4 + 1, none⟩) (.inl rfl) (.int .i64 (((E r).size + (E s).size : Nat) : Int))); rw [Int.natCast_add, hW] at R1 K1; clear hW r1 s1 f1 R2 KK; have R2 := zH R1; have KK := zH K1; obtain ⟨_, _, r1, _⟩ := R1.four HR.o; obtain ⟨_, _, s1, _⟩ := R1.four HS.o; have f1 := R1.soft (r * 4 + 2); have e1 : (cQ (dB E s r) r ((E r).size + (E s).size) r).least = (E r).least := (by simp [dB, cQ, HN.o]); have e2 : (cQ (dB E s r) r ((E r).size + (E s).size) s).least = (E s).least := (by simp [dB, cQ, HN.o.symm]); rw [e1] at r1; rw [e2] at s1; clear R1 K1 e1 e2; go_region; have hmin : (if (E s).least < (E r).least then ((E s).least : Int) else ((E r).least : Int)) = ((min (E r).least (E s).least : Nat) : Int) := (by split <;> omega)
 rw [hmin]; clear hmin; generalize hW : World.setCell _ _ _ = W3; have R1 := I7 R2.o HR.o (min (E r).least (E s).least); have K1 := (KK.o.set (a := ⟨g, r * 4 + 2, none⟩) (.inl rfl) (.int .i64 ((min (E r).least (E s).least : Nat) : Int))); rw [hW] at R1 K1; clear hW r1 s1 f1 R2 KK; have R2 := zH R1; have KK := zH K1; have f1 := R1.soft (r * 4 + 3); obtain ⟨_, _, _, r1⟩ := R1.four HR.o; clear R1 K1; go_wp2_with fail
 go_end0
 refine ⟨rfl, ?_, ?_⟩
 . have := (Hp R2.o HR.o m).drewN 2; rw [rR HN.o] at this; exact this
 . exact (KK.o.set (a := ⟨g, r * 4 + 3, none⟩) (.inl rfl) (.int .i64 m)).drewN 2
def jY (E : Nat -> El) (r s : Nat) (m : Int) : Nat -> El := if (E r).size < (E s).size then fK E s r m else fK E r s m
theorem Bg {g c n r s : Nat} (h : cK B 150 4 w (.slice (some ⟨g, 0, none⟩) n c) n (λ i => dK (E i))) (hr : r < n) (hs : s < n) (hne : r ≠ s) (hru : (E r).up = r) (hsu : (E s).up = s) (hsum : (E r).size + (E s).size <= 4194303) (m : Int) :
  Calls prog 146 #[.pointer (some ⟨g, r * 4, none⟩), .pointer (some ⟨g, s * 4, none⟩), .int .i64 m] w λ e w' => e = .returned (.tuple #[]) /\ uk B g n c (jY E r s m) w w' := by
 by_cases hlt : (E r).size < (E s).size
 . have := Bf h hs hr hne.symm hsu zO hlt m; rw [show jY E r s m = fK E s r m by simp [jY, hlt]]; exact this
 . have := Ds h hr hs hne hru zO hlt m; rw [show jY E r s m = fK E r s m by simp [jY, hlt]]; exact this
end
def dI (B : Nat) (w : World) (k : Nat) (v : Value) (S : KS) : Prop := ∃ E ρ, bT B w k v S E ρ
def dX (B k : Nat) (v : Value) (S : KS) (w w' : World) : Prop :=
 ∃ v', dI B w' k v' S /\ ba (rG k v) w w' /\ ∀ b, rG k v' b -> rG k v b ∨ w.heap.size <= b
section
variable {B k : Nat} {w : World} {v : Value} {S : KS}
theorem dI.kept {M : Nat -> Prop} {w' : World} (h : dI B w k v S) (hk : ba M w w') (hM : ∀ b, rG k v b -> ¬ M b) : dI B w' k v S := by
 obtain ⟨E, ρ, h⟩ := h; exact ⟨E, ρ, h.kept hk hM⟩
theorem dI.under {w' : World} (h : dI B w k v S) (hb : Below w.heap.size w w') : dI B w' k v S := by
 obtain ⟨E, ρ, h⟩ := h; exact ⟨E, ρ, h.under hb⟩
theorem dI.lt (h : dI B w k v S) {b : Nat} (hb : rG k v b) : B <= b /\ b < w.heap.size := by
 obtain ⟨E, ρ, h⟩ := h; exact h.lt hb
theorem dX.none (h : dI B w k v S) : dX B k v S w w := ⟨v, h, ba.refl _ _, λ _ hb => .inl hb⟩
theorem dX.drewN {w' : World} (h : dX B k v S w w') (q : Nat) : dX B k v S w (w'.drewN q) := by
 obtain ⟨v', h1, h2, h3⟩ := h; exact ⟨v', h1.under ⟨rfl, rfl, rfl, Nat.le_refl _, λ _ _ => rfl⟩, h2.drewN q, h3⟩
theorem dX.ahead {w' : World} (q : Nat) (h : dX B k v S (w.drewN q) w') : dX B k v S w w' := by
 obtain ⟨v', h1, h2, h3⟩ := h; exact ⟨v', h1, ⟨h2.os, h2.tape, h2.output, h2.size, h2.block⟩, h3⟩
theorem FE (hB : B <= w.heap.size) : Calls prog 29 #[] w λ e w' => e = .returned (.pointer (some ⟨w.heap.size, 0, none⟩)) /\ dI B w' w.heap.size (.slice none 0 0) fw /\ Below w.heap.size w w' := by
 go_enter func29, ntmps29
 go_wp2; go_ret; exact ⟨rfl, ⟨λ _ => ⟨0, 0, 0, 0⟩, λ i => i, Bv _ _, cK.nil, heap_alloc_new w _, hB, by simp [fw]⟩, (Below.refl _ _).alloc (Nat.le_refl _) _⟩
theorem BH : (prog.info? 150).map (λ i => (i.zero, i.size, i.bytes)) = some (some (.agg #[.int .i64 0, .int .i64 0, .int .i64 0, .int .i64 0]), 4, 32) := by kernel_rfl
theorem Dd (a b c d : Int) : ∀ u ∈ [Value.int .i64 a, .int .i64 b, .int .i64 c, .int .i64 d], u.oneCell' = true := by
 intro u hu; simp only [List.mem_cons, List.not_mem_nil, or_false] at hu; rcases hu with rfl | rfl | rfl | rfl <;> rfl
theorem EG (E : Nat -> El) (n : Nat) (j : Nat) (u : Value) (h : [Value.int .i64 (n : Int), .int .i64 1, .int .i64 (n : Int), .int .i64 0][j]? = some u) : dK (nt E n n) j = u := by
 match j, h with
 | 0, h => simpa [nt, dK] using h
 | 1, h => simpa [nt, dK] using h
 | 2, h => simpa [nt, dK] using h
 | 3, h => simpa [nt, dK] using h
 | j + 4, h => simp at h
theorem G9 {E : Nat -> El} {ρ : Nat -> Nat} {v' : Value} {W w' : World} (h : bT B w k v S E ρ) (hn : S.n < 4194303) (hal : Below w.heap.size w W) (hk : k < w.heap.size)
  (hg : GD B 150 4 W v S.n (λ i => dK (nt E S.n i)) v' w') : dX B k v (kD S) w (w'.setCell ⟨k, 0, none⟩ v') /\ w'.frozen? ⟨k, 0, none⟩ = false /\ w'.cell? ⟨k, 0, none⟩ = some v := by
 obtain ⟨h1, h2, h3⟩ := hg; have hbox : w'.heap[k]? = some (.cells #[v] 146 (0, 0)) := (h2.block k (Nat.lt_of_lt_of_le hk hal.size) (λ e => h.apart e.symm)).trans ((hal.block k hk).trans h.box); have hne : v'.ownBlock ≠ some k := by
  rcases h3 with h3 | h3
  . rw [h3]; exact h.apart
  . rw [h3]; intro e; have := hal.size; injection e with e; omega
 refine ⟨⟨v', ⟨_, _, DS h.good, ?_, Joins.block_setCell hbox v', h.low, by simp only [kD]; omega⟩, ?_, ?_⟩, Joins.unfrozen_of_block hbox 0, by rw [Joins.cell_of_block hbox]; rfl⟩
 . refine cK.kept (M := (· = k)) h1 ((ba.refl (· = k) w').set (a := ⟨k, 0, none⟩) (.inl rfl) _) λ g hg => ?_; intro e; subst e; exact hne hg
 . exact ((ba.of_below hal).trans ((ba.of_grown (M := rG k v) h2 λ b hb => .inr hb))).set (.inl (.inl rfl)) _
 . intro b hb; rcases hb with rfl | hb
   . exact .inl (.inl rfl)
   . rcases h3 with h3 | h3
     . exact .inl (.inr (h3 ▸ hb))
     . rw [h3] at hb; injection hb with hb; exact .inr (by have := hal.size; omega)
theorem GD.shape {T : TypeId} {s n : Nat} {W w' : World} {F : Nat -> Nat -> Value} {v' : Value} (h : GD B T s W v n F v' w') : ∃ A c, v' = .slice A (n + 1) c := by
 rcases h.1 with ⟨_, h0⟩ | ⟨g, c, cur, rfl, _⟩
 . omega
 . exact ⟨_, _, rfl⟩
theorem pq (h : dI B w k v S) (hn : S.n < 4194303) (hB : B <= w.heap.size) : Calls prog 31 #[.pointer (some ⟨k, 0, none⟩)] w λ e w' => e = .returned (.int .i64 S.n) /\ dX B k v (kD S) w w' := by
 obtain ⟨E, ρ, h⟩ := h; have H := zH h; have hc := h.cell0; have hkl := kin h.box; have hB1 : B <= w.heap.size + 1 := zO; have hn1 : S.n <= 4194303 := zO; obtain ⟨A, c, hv, h1, h2⟩ := h.len; have HN := zH hn; have hR : cK B 150 4 w v S.n (λ i => dK (nt E S.n i)) := h.row.congr λ i j hi _ => by simp [nt, Nat.ne_of_lt hi]
 have HR := zH hR; subst hv; clear h hR hn; unfold maxLen at h2; have hal : Below w.heap.size w (w.alloc (.cells #[.int .i64 S.n, .int .i64 1, .int .i64 S.n, .int .i64 0] 150)) := (Below.refl _ _).alloc (Nat.le_refl _) _; have HAL := zH hal; clear hal; go_enter func31, ntmps31
 go_wp2_with (at_builtin; refine yU (B := B) (v := .slice A S.n c) (T := 150) (s := 4) (n := S.n) (F := λ i => dK (nt E S.n i)) (L := [.int .i64 S.n, .int .i64 1, .int .i64 S.n, .int .i64 0]) rfl _ _ rfl underlying144 BH rfl zD zD rfl rfl (heap_alloc_new _ _) rfl (Dd _ _ _ _) (HR.o.under HAL.o) (EG E S.n) hn1 ?_ ?_; (first | omega | (simp; omega)); (intro v5 w5 h5; obtain ⟨A5, c5, rfl⟩ := h5.shape; obtain ⟨_, hfz, hcl⟩ := G9 H.o HN.o HAL.o hkl h5; have H5 := zH h5; clear h5))
 go_ret; exact ⟨rfl, (G9 H.o HN.o HAL.o hkl H5.o).1⟩
theorem IC {a m : Int} (hm : 0 < m) : (lX a m).2 = decide (a = 0 ∨ a = m) := by
 unfold lX; by_cases h1 : a = m
 . simp [h1]
 . by_cases h2 : a = 0
   . rw [if_neg zO, if_pos h2]; simp [h2]
   . rw [if_neg zO, if_neg h2]; simp [h1, h2]
theorem Ij {E : Nat -> El} {ρ : Nat -> Nat} {g c : Nat} {a : Nat} {m : Int} (h : bT B w k (.slice (some ⟨g, 0, none⟩) S.n c) S E ρ) (ha : a < S.n) (hm : 0 < m /\ m < 9223372036854775808) :
  dX B k (.slice (some ⟨g, 0, none⟩) S.n c) (og S a m) w (w.setCell ⟨g, ρ a * 4 + 3, none⟩ (.int .i64 m)) := by
 have hgk : g ≠ k := λ e => h.apart (by rw [e]; rfl); refine ⟨_, ⟨_, _, Bw h.good ha hm, Hp h.row (h.good.root a ha).1 m, ?_, h.low, h.big⟩, (ba.refl _ _).set (.inl (.inr rfl)) _, λ b hb => .inl hb⟩; exact ((ba.refl (· = g) w).set (a := ⟨g, ρ a * 4 + 3, none⟩) (.inl rfl) _).heap h.box (λ e => hgk e.symm)
theorem Du (h : dI B w k v S) (a m : Int) (hm : m < 9223372036854775808) :
  Calls prog 141 #[.pointer (some ⟨k, 0, none⟩), .int .i64 a, .int .i64 m] w λ e w' => e = .returned (.bool (gU S a m)) /\ dX B k v (gy S a m) w w' := by
 obtain ⟨E, ρ, h⟩ := h; have H := zH h; by_cases hk : inK S a = true /\ 0 < m
 . obtain ⟨hk, h0⟩ := hk; obtain ⟨b, hb0⟩ : ∃ b, a.toNat = b := ⟨_, rfl⟩; obtain ⟨rfl, hb⟩ := qn hk hb0; have HK := zH hk; have HB := zH hb; obtain ⟨g, c, rfl, _, _⟩ := h.there zO; have hr := (h.cells (h.good.root b hb).1).2.2.2; have hf := h.row.soft (ρ b * 4 + 3); rw [h.good.mark b hb] at hr; have hcq := IC (a := S.m b) h0; have HM := zH (And.intro h0 hm); have hle : ¬ m <= 0 := zO; have HMO := zH (show gU S (b : Int) m = decide (S.m b = 0 ∨ S.m b = m) by simp [gU, hk, h0]); by_cases hd : S.m b = 0 ∨ S.m b = m
   . have HQ := zH (show (lX (S.m b) m).2 = true by rw [hcq]; simpa using hd); have HMT := zH (show gU S (b : Int) m = true by rw [HMO.o]; simpa using hd); clear hk h hb hb0 hcq hm h0 hd; go_enter func141, ntmps141
     go_wp2_with (first
      | (go_at_call 107; ((with_reducible refine (dt H.o _).mono ?_); rintro e w' ⟨he, rfl⟩; rw [HK.o] at he; subst he))
      | (go_at_call 108; ((with_reducible refine (gQ H.o HB.o).mono ?_); rintro e w' ⟨he, rfl⟩; subst he))
      | (go_at_call 145; ((with_reducible refine (lW _ _ _).mono ?_); rintro e w' ⟨he, rfl⟩; rw [HQ.o] at he; subst he)))
     go_ret; refine ⟨dr HMT.o.symm, ?_⟩; rw [show gy S (b : Int) m = og S b m by unfold gy; rw [if_pos HMT.o]; simp]; exact Ij H.o HB.o HM.o
   . have HQ := zH (show (lX (S.m b) m).2 = false by rw [hcq]; simpa using hd); have HMT := zH (show gU S (b : Int) m = false by rw [HMO.o]; simpa using hd); clear hk h hb hb0 hcq hm h0 hd; go_enter func141, ntmps141
     go_wp2_with (first
      | (go_at_call 107; ((with_reducible refine (dt H.o _).mono ?_); rintro e w' ⟨he, rfl⟩; rw [HK.o] at he; subst he))
      | (go_at_call 108; ((with_reducible refine (gQ H.o HB.o).mono ?_); rintro e w' ⟨he, rfl⟩; subst he))
      | (go_at_call 145; ((with_reducible refine (lW _ _ _).mono ?_); rintro e w' ⟨he, rfl⟩; rw [HQ.o] at he; subst he)))
     go_ret; refine ⟨dr HMT.o.symm, ?_⟩; rw [show gy S (b : Int) m = S by unfold gy; rw [if_neg (by rw [HMT.o]; decide)]]; exact dX.none ⟨E, ρ, H.o⟩
 . have HMT := zH (show gU S a m = false by
    cases hi : inK S a
    . simp [gU, hi]
    . have : ¬ 0 < m := λ g => hk ⟨hi, g⟩; simp [gU, this])
   cases hi : inK S a
   . have HK := zH hi; clear hk h hi hm; go_enter func141, ntmps141
     go_wp2_with (go_at_call 107; ((with_reducible refine (dt H.o _).mono ?_); rintro e w' ⟨he, rfl⟩; rw [HK.o] at he; subst he))
     go_ret; refine ⟨dr HMT.o.symm, ?_⟩; rw [show gy S a m = S by unfold gy; rw [if_neg (by rw [HMT.o]; decide)]]; exact dX.none ⟨E, ρ, H.o⟩
   . have HK := zH hi; have hle : m <= 0 := (by rw [hi] at hk; simpa using hk); clear hk h hi hm; go_enter func141, ntmps141
     go_wp2_with (go_at_call 107; ((with_reducible refine (dt H.o _).mono ?_); rintro e w' ⟨he, rfl⟩; rw [HK.o] at he; subst he))
     go_ret; refine ⟨dr HMT.o.symm, ?_⟩; rw [show gy S a m = S by unfold gy; rw [if_neg (by rw [HMT.o]; decide)]]; exact dX.none ⟨E, ρ, H.o⟩
theorem oD (m n : Int) (w : World) : Calls prog 145 #[.int .i64 m, .int .i64 n] w λ e w' => e = .returned (.tuple #[.int .i64 (lX m n).1, .bool (lX m n).2]) /\ w' = w :=
 (lW m n w).mono λ _ _ ⟨h1, h2⟩ => ⟨h1, h2.symm⟩
theorem Gg {S : KS} (h : S.Ok) {a b : Nat} (ha : a < S.n) (hb : b < S.n) : (lX (S.m a) (S.m b)).2 = !decide (S.m a ≠ 0 /\ S.m b ≠ 0 /\ S.m a ≠ S.m b) /\ ((lX (S.m a) (S.m b)).2 = true -> (lX (S.m a) (S.m b)).1 = max (S.m a) (S.m b)) := by
 have := h.pos a ha; have := h.pos b hb; unfold lX; by_cases h1 : S.m a = S.m b ∨ S.m b = 0
 . rw [if_pos h1]; constructor
   . rcases h1 with h1 | h1 <;> simp [h1]
   . intro _; simp only; omega
 . rw [if_neg h1]; by_cases h2 : S.m a = 0
   . rw [if_pos h2]; constructor
     . simp [h2]
     . intro _; simp only; omega
   . rw [if_neg h2]; constructor
     . have : S.m a ≠ 0 /\ S.m b ≠ 0 /\ S.m a ≠ S.m b := ⟨h2, λ g => h1 (.inr g), λ g => h1 (.inl g)⟩; rw [decide_eq_true this]; rfl
     . intro h; cases h
theorem Jv {E : Nat -> El} {ρ : Nat -> Nat} {g c : Nat} {a b : Nat} {w' : World} (h : bT B w k (.slice (some ⟨g, 0, none⟩) S.n c) S E ρ) (ha : a < S.n) (hb : b < S.n) (hne : ρ a ≠ ρ b)
  (hm : uk B g S.n c (jY E (ρ a) (ρ b) (max (S.m a) (S.m b))) w w') : dX B k (.slice (some ⟨g, 0, none⟩) S.n c) (fF S a b) w w' := by
 have hgk : g ≠ k := λ e => h.apart (by rw [e]; rfl); have hG : ∃ ρ', nw (jY E (ρ a) (ρ b) (max (S.m a) (S.m b))) (fF S a b) ρ' := by
  unfold jY; split
  . rw [<- AA, Int.max_comm]; exact ⟨_, vX h.good hb ha hne.symm⟩
  . exact ⟨_, vX h.good ha hb hne⟩
 obtain ⟨ρ', hG⟩ := hG; exact ⟨_, ⟨_, ρ', hG, hm.1, hm.2.heap h.box (λ e => hgk e.symm), h.low, h.big⟩, hm.2.mono λ b _ hb => .inr (by rw [hb]; rfl), λ b hb => .inl hb⟩
theorem Hf {E : Nat -> El} {ρ : Nat -> Nat} (h : nw E S ρ) {a b : Nat} (ha : a < S.n) (hb : b < S.n) (hne : ρ a ≠ ρ b) : (E (ρ a)).size + (E (ρ b)).size <= S.n := by
 have two := rS (f := λ i => if (E i).up = i then (E i).size else 0) (h.root a ha).1 (h.root b hb).1 hne; simp only [h.sum, if_pos (h.root a ha).2.1, if_pos (h.root b hb).2.1] at two; exact two
theorem E7 (h : dI B w k v S) (a b : Int) :
  Calls prog 106 #[.pointer (some ⟨k, 0, none⟩), .int .i64 a, .int .i64 b] w λ e w' => e = .returned (.bool (jA S a b)) /\ dX B k v (lJ S a b) w w' := by
 obtain ⟨E, ρ, h⟩ := h; have H := zH h; by_cases hk : inK S a = true /\ inK S b = true
 . obtain ⟨hk, hk2⟩ := hk; obtain ⟨a, ha0⟩ : ∃ c, a.toNat = c := ⟨_, rfl⟩; obtain ⟨rfl, ha⟩ := qn hk ha0; obtain ⟨b, hb0⟩ : ∃ c, b.toNat = c := ⟨_, rfl⟩; obtain ⟨rfl, hb⟩ := qn hk2 hb0; have HK := zH hk; have HK2 := zH hk2; have HA := zH ha; have HB := zH hb; obtain ⟨g, c, rfl, _, _⟩ := h.there zO; have hr := (h.cells (h.good.root a ha).1).2.2.2; have hs := (h.cells (h.good.root b hb).1).2.2.2; rw [h.good.mark a ha] at hr; rw [h.good.mark b hb] at hs; have hpe := Hq h (ρ a) (ρ b); obtain ⟨hc1, hc2⟩ := Gg h.good.ok ha hb; have HTO := zH (show jA S (a : Int) (b : Int) = !decide (S.m a ≠ 0 /\ S.m b ≠ 0 /\ S.m a ≠ S.m b) by simp [jA, hk, hk2]); by_cases he : ρ a = ρ b
   . have HT := zH (show jA S (a : Int) (b : Int) = true by
      have := h.good.ok.mm a b ha hb ((h.good.same a b ha hb).2 he); rw [HTO.o]; simp [this])
     have HE := zH he; rw [decide_eq_true he] at hpe; clear hk hk2 h ha hb ha0 hb0 hr hs hc1 hc2 he; go_enter func106, ntmps106
     go_wp2_with (first
      | (go_at_call 107; ((with_reducible refine (dt H.o _).mono ?_); rintro e w' ⟨he, rfl⟩; (first | rw [HK.o] at he | rw [HK2.o] at he); subst he))
      | (go_at_call 108; ((with_reducible refine (gQ H.o (by first | exact HA.o | exact HB.o)).mono ?_); rintro e w' ⟨he, rfl⟩; subst he)))
     go_ret; refine ⟨dr HT.o.symm, ?_⟩; rw [show lJ S (a : Int) (b : Int) = fF S a b by unfold lJ; rw [if_pos HT.o]; simp]; exact ⟨_, ⟨E, ρ, ru H.o.good HA.o HB.o HE.o, H.o.row, H.o.box, H.o.low, H.o.big⟩, ba.refl _ _, λ _ hb => .inl hb⟩
   . rw [decide_eq_false he] at hpe; have HE := zH he; cases hq : (lX (S.m a) (S.m b)).2
     . have HQ := zH hq; have HT := zH (show jA S (a : Int) (b : Int) = false by rw [HTO.o, <- hc1]; exact hq); clear hk hk2 h ha hb ha0 hb0 hc1 hc2 he hq; go_enter func106, ntmps106
       go_wp2_with (first
        | (go_at_call 107; ((with_reducible refine (dt H.o _).mono ?_); rintro e w' ⟨he, rfl⟩; (first | rw [HK.o] at he | rw [HK2.o] at he); subst he))
        | (go_at_call 108; ((with_reducible refine (gQ H.o (by first | exact HA.o | exact HB.o)).mono ?_); rintro e w' ⟨he, rfl⟩; subst he)))
       have HCM : ∀ u : World, Calls prog 145 #[.int .i64 (S.m a), .int .i64 (S.m b)] u λ e w' => e = .returned (.tuple #[.int .i64 (lX (S.m a) (S.m b)).1, .bool false]) /\ w' = u := λ u => by
        have := oD (S.m a) (S.m b) u; rw [HQ.o] at this; exact this
       have HC := zH HCM; clear HCM; go_quiet ((go_at_call 145; exact Calls.quiet_of_same (HC.o _)))
       go_wp2_with fail
       go_ret; refine ⟨dr HT.o.symm, ?_⟩; rw [show lJ S (a : Int) (b : Int) = S by unfold lJ; rw [if_neg (by rw [HT.o]; decide)]]; have := (dX.none ⟨E, ρ, H.o⟩); exact this.drewN _
     . have HQ := zH hq; have HT := zH (show jA S (a : Int) (b : Int) = true by rw [HTO.o, <- hc1]; exact hq); have HMX := zH (hc2 hq); clear hk hk2 h ha hb ha0 hb0 hc1 hc2 he hq; go_enter func106, ntmps106
       go_wp2_with (first
        | (go_at_call 107; ((with_reducible refine (dt H.o _).mono ?_); rintro e w' ⟨he, rfl⟩; (first | rw [HK.o] at he | rw [HK2.o] at he); subst he))
        | (go_at_call 108; ((with_reducible refine (gQ H.o (by first | exact HA.o | exact HB.o)).mono ?_); rintro e w' ⟨he, rfl⟩; subst he)))
       have HCM : ∀ u : World, Calls prog 145 #[.int .i64 (S.m a), .int .i64 (S.m b)] u λ e w' => e = .returned (.tuple #[.int .i64 (max (S.m a) (S.m b)), .bool true]) /\ w' = u := λ u => by
        have := oD (S.m a) (S.m b) u; rw [HQ.o, HMX.o] at this; exact this
       have HC := zH HCM; clear HCM; go_quiet ((go_at_call 145; exact Calls.quiet_of_same (HC.o _)))
       generalize hW : w.drewN nq = W; have H1 : bT B W k (.slice (some ⟨g, 0, none⟩) S.n c) S E ρ := (by rw [<- hW]; exact H.o.under ⟨rfl, rfl, rfl, Nat.le_refl _, λ _ _ => rfl⟩); have HW := zH hW; have H2 := zH H1; clear hW H1; go_wp2_with (go_at_call 146; ((with_reducible refine (Bg H2.o.row (H2.o.good.root a HA.o).1 (H2.o.good.root b HB.o).1 HE.o (H2.o.good.root a HA.o).2.1 (H2.o.good.root b HB.o).2.1 (Nat.le_trans (Hf H2.o.good HA.o HB.o HE.o) H2.o.big) _).mono ?_); rintro e w3 ⟨rfl, hm⟩; have HMG := zH hm; clear hm))
       go_ret; refine ⟨dr HT.o.symm, ?_⟩; rw [show lJ S (a : Int) (b : Int) = fF S a b by unfold lJ; rw [if_pos HT.o]; simp]; have := Jv H2.o HA.o HB.o HE.o HMG.o; rw [<- HW.o] at this; exact dX.ahead _ this
 . have HT := zH (show jA S a b = false by
    cases hi : inK S a
    . simp [jA, hi]
    . have : inK S b = false := by cases hj : inK S b <;> simp_all
      simp [jA, this])
   have HS := zH (show lJ S a b = S by unfold lJ; rw [if_neg (by rw [HT.o]; decide)]); cases hi : inK S a
   . have HK := zH hi; clear hk h hi; go_enter func106, ntmps106
     go_wp2_with (go_at_call 107; ((with_reducible refine (dt H.o _).mono ?_); rintro e w' ⟨he, rfl⟩; rw [HK.o] at he; subst he))
     go_ret; exact ⟨dr HT.o.symm, by rw [HS.o]; exact dX.none ⟨E, ρ, H.o⟩⟩
   . cases hj : inK S b
     . have HK := zH hi; have HK2 := zH hj; clear hk h hi hj; go_enter func106, ntmps106
       go_wp2_with (go_at_call 107; ((with_reducible refine (dt H.o _).mono ?_); rintro e w' ⟨he, rfl⟩; (first | rw [HK.o] at he | rw [HK2.o] at he); subst he))
       go_ret; exact ⟨dr HT.o.symm, by rw [HS.o]; exact dX.none ⟨E, ρ, H.o⟩⟩
     . exact absurd ⟨hi, hj⟩ hk
end
end Go.Proofs.YtiholfmmphcbeaaGreatDoor
