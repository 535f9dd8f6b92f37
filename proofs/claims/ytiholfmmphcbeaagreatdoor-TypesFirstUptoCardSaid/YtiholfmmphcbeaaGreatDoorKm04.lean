import Derived.Test.YtiholfmmphcbeaaGreatDoorKm00
namespace Go.Proofs.YtiholfmmphcbeaaGreatDoor
open Go.RowKit (zH zO zD zK zW zA zB zG)
structure El where
 up : Nat
 size : Nat
 least : Nat
 mark : Int
structure KS where
 n : Nat
 c : Nat -> Nat
 m : Nat -> Int
def fw : KS := ⟨0, λ _ => 0, λ _ => 0⟩
def inK (S : KS) (a : Int) : Bool := decide (0 <= a) && decide (a < (S.n : Int))
def kD (S : KS) : KS := ⟨S.n + 1, λ i => if i = S.n then S.n else S.c i, λ i => if i = S.n then 0 else S.m i⟩
def gU (S : KS) (a m : Int) : Bool := inK S a && decide (0 < m) && decide (S.m a.toNat = 0 ∨ S.m a.toNat = m)
def og (S : KS) (a : Nat) (m : Int) : KS := { S with m := λ i => if S.c i = S.c a then m else S.m i }
def gy (S : KS) (a m : Int) : KS := if gU S a m = true then og S a.toNat m else S
def jA (S : KS) (a b : Int) : Bool := inK S a && inK S b && !decide (S.m a.toNat ≠ 0 /\ S.m b.toNat ≠ 0 /\ S.m a.toNat ≠ S.m b.toNat)
def fF (S : KS) (a b : Nat) : KS := { S with c := λ i => if S.c i = S.c a ∨ S.c i = S.c b then min (S.c a) (S.c b) else S.c i, m := λ i => if S.c i = S.c a ∨ S.c i = S.c b then max (S.m a) (S.m b) else S.m i }
def lJ (S : KS) (a b : Int) : KS := if jA S a b = true then fF S a.toNat b.toNat else S
def ofS (S : KS) (a : Int) : Int := if inK S a = true then S.m a.toNat else 0
def j5 (S : KS) (a : Int) : Int := if inK S a = true then (S.c a.toNat : Int) else -1
theorem yw {S : KS} {a : Int} (h : inK S a = true) : 0 <= a /\ a < (S.n : Int) /\ a.toNat < S.n := by
 unfold inK at h; simp at h; omega
structure KS.Ok (S : KS) : Prop where
 le : ∀ i, i < S.n -> S.c i <= i
 cc : ∀ i, i < S.n -> S.c (S.c i) = S.c i
 mm : ∀ i j, i < S.n -> j < S.n -> S.c i = S.c j -> S.m i = S.m j
 pos : ∀ i, i < S.n -> 0 <= S.m i /\ S.m i < 9223372036854775808
theorem Fv : fw.Ok := ⟨λ i h => by simp [fw] at h, λ i h => by simp [fw] at h, λ i j h => by simp [fw] at h, λ i h => by simp [fw] at h⟩
theorem Hz {S : KS} (h : S.Ok) : (kD S).Ok := by
 refine ⟨λ i hi => ?_, λ i hi => ?_, λ i j hi hj e => ?_, λ i hi => ?_⟩
 . simp only [kD] at hi ⊢; split
   . omega
   . exact h.le i zO
 . simp only [kD] at hi ⊢; by_cases hn : i = S.n
   . simp [hn]
   . have := h.le i zO; rw [if_neg hn, if_neg zO, h.cc i zO]
 . simp only [kD] at hi hj e ⊢; by_cases h1 : i = S.n <;> by_cases h2 : j = S.n
   . simp [h1, h2]
   . have := h.le j zO; simp [h1, h2] at e; omega
   . have := h.le i zO; simp [h1, h2] at e; omega
   . rw [if_neg h1, if_neg h2] at *; exact h.mm i j zO zO e
 . simp only [kD] at hi ⊢; split
   . omega
   . exact h.pos i zO
theorem Fw {S : KS} (h : S.Ok) {a : Nat} {m : Int} (hm : 0 < m /\ m < 9223372036854775808) : (og S a m).Ok := by
 refine ⟨h.le, h.cc, λ i j hi hj e => ?_, λ i hi => ?_⟩
 . simp only [og] at *; rw [e]; split
   . rfl
   . exact h.mm i j hi hj e
 . simp only [og] at *; split
   . omega
   . exact h.pos i hi
theorem Dh {S : KS} (h : S.Ok) {a b : Nat} (ha : a < S.n) (hb : b < S.n) : (fF S a b).Ok := by
 have la := h.le a ha; have lb := h.le b hb; have ca := h.cc a ha; have cb := h.cc b hb; have cmin : S.c (min (S.c a) (S.c b)) = S.c a ∨ S.c (min (S.c a) (S.c b)) = S.c b := by
  by_cases hl : S.c a <= S.c b
  . rw [Nat.min_eq_left hl]; exact .inl ca
  . rw [Nat.min_eq_right zO]; exact .inr cb
 refine ⟨λ i hi => ?_, λ i hi => ?_, λ i j hi hj e => ?_, λ i hi => ?_⟩
 . simp only [fF] at *; have := h.le i hi; split
   . omega
   . exact this
 . simp only [fF] at *; have hc := h.cc i hi; split
   . first | rfl | rw [if_pos cmin]
   . rename_i hn; rw [if_neg (by rw [hc]; exact hn), hc]
 . simp only [fF] at *; have hci := h.cc i hi; have hcj := h.cc j hj; by_cases h1 : S.c i = S.c a ∨ S.c i = S.c b <;> by_cases h2 : S.c j = S.c a ∨ S.c j = S.c b
   . rw [if_pos h1, if_pos h2]
   . rw [if_pos h1, if_neg h2] at e; exfalso; rw [e, hcj] at cmin; exact h2 cmin
   . rw [if_neg h1, if_pos h2] at e; exfalso; rw [<- e, hci] at cmin; exact h1 cmin
   . rw [if_neg h1, if_neg h2] at e; rw [if_neg h1, if_neg h2]; exact h.mm i j hi hj e
 . simp only [fF] at *; have := h.pos a ha; have := h.pos b hb; split
   . omega
   . exact h.pos i hi
theorem AA (S : KS) (a b : Nat) : fF S b a = fF S a b := by
 unfold fF; congr 1
 . funext i
   simp only [or_comm, Nat.min_comm]
 . funext i
   simp only [or_comm, Int.max_comm]
def jB (f : Nat -> Nat) : Nat -> Nat
 | 0 => 0
 | n + 1 => jB f n + f n
theorem nZ {f g : Nat -> Nat} {n : Nat} (h : ∀ i, i < n -> f i = g i) : jB f n = jB g n := by
 induction n with
 | zero => rfl
 | succ n ih =>
   unfold jB; rw [ih λ i hi => h i zO, h n zO]
theorem nB {f g : Nat -> Nat} {n i : Nat} (hi : i < n) (h : ∀ j, j ≠ i -> f j = g j) : jB f n + g i = jB g n + f i := by
 induction n with
 | zero => omega
 | succ n ih =>
   unfold jB; by_cases hn : i = n
   . subst hn; rw [nZ (f := f) (g := g) λ j hj => h j zO]; omega
   . have := ih zO; rw [h n zO]; omega
theorem CB {f : Nat -> Nat} {n i : Nat} (hi : i < n) : f i <= jB f n := by
 induction n with
 | zero => omega
 | succ n ih =>
   unfold jB; by_cases hn : i = n
   . subst hn; omega
   . have := ih zO; omega
theorem rS {f : Nat -> Nat} {n i j : Nat} (hi : i < n) (hj : j < n) (hne : i ≠ j) : f i + f j <= jB f n := by
 have h := nB (f := f) (g := λ k => if k = i then 0 else f k) hi λ k hk => by simp [hk]
 have h2 := CB (f := λ k => if k = i then 0 else f k) hj; simp only [if_pos, if_neg hne.symm] at h h2; omega
structure nw (E : Nat -> El) (S : KS) (ρ : Nat -> Nat) : Prop where
 ok : S.Ok
 up : ∀ i, i < S.n -> (E i).up < S.n
 climb : ∀ i, i < S.n -> (E i).up ≠ i -> (E i).size < (E (E i).up).size
 pos : ∀ i, i < S.n -> 0 < (E i).size
 le : ∀ i, i < S.n -> (E i).size <= S.n
 sum : jB (λ i => if (E i).up = i then (E i).size else 0) S.n = S.n
 root : ∀ i, i < S.n -> ρ i < S.n /\ (E (ρ i)).up = ρ i /\ ρ (E i).up = ρ i
 self : ∀ i, i < S.n -> (E i).up = i -> ρ i = i
 least : ∀ i, i < S.n -> (E (ρ i)).least = S.c i
 mark : ∀ i, i < S.n -> (E (ρ i)).mark = S.m i
 same : ∀ i j, i < S.n -> j < S.n -> (S.c i = S.c j ↔ ρ i = ρ j)
theorem Bv (E : Nat -> El) (ρ : Nat -> Nat) : nw E fw ρ :=
 ⟨Fv, λ i h => by simp [fw] at h, λ i h => by simp [fw] at h, λ i h => by simp [fw] at h, λ i h => by simp [fw] at h, rfl, λ i h => by simp [fw] at h, λ i h => by simp [fw] at h, λ i h => by simp [fw] at h, λ i h => by simp [fw] at h, λ i j h => by simp [fw] at h⟩
section
variable {E : Nat -> El} {S : KS} {ρ : Nat -> Nat}
theorem nw.idem (h : nw E S ρ) {i : Nat} (hi : i < S.n) : ρ (ρ i) = ρ i := h.self _ (h.root i hi).1 (h.root i hi).2.1
def nt (E : Nat -> El) (n : Nat) : Nat -> El := λ i => if i = n then ⟨n, 1, n, 0⟩ else E i
theorem DS (h : nw E S ρ) : nw (nt E S.n) (kD S) (λ i => if i = S.n then S.n else ρ i) := by
 have hE : ∀ i, i < S.n -> nt E S.n i = E i := λ i hi => by unfold nt; rw [if_neg zO]
 have hN : nt E S.n S.n = ⟨S.n, 1, S.n, 0⟩ := (by simp [nt]); have hn : (kD S).n = S.n + 1 := rfl; refine ⟨Hz h.ok, λ i hi => ?_, λ i hi hu => ?_, λ i hi => ?_, λ i hi => ?_, ?_, λ i hi => ?_, λ i hi hu => ?_, λ i hi => ?_, λ i hi => ?_, λ i j hi hj => ?_⟩
 . rw [hn] at *; by_cases e : i = S.n
   . rw [e, hN]; simp
   . rw [hE i zO]; have := h.up i zO; omega
 . rw [hn] at *; by_cases e : i = S.n
   . rw [e, hN] at hu; simp at hu
   . have hlt : i < S.n := by omega
     rw [hE i hlt] at hu ⊢; rw [hE _ (h.up i hlt)]; exact h.climb i hlt hu
 . rw [hn] at *; by_cases e : i = S.n
   . rw [e, hN]; simp
   . rw [hE i zO]; exact h.pos i zO
 . rw [hn] at *; by_cases e : i = S.n
   . rw [e, hN]; simp
   . rw [hE i zO]; have := h.le i zO; omega
 . rw [hn]; unfold jB; rw [nZ (g := λ i => if (E i).up = i then (E i).size else 0) λ i hi => by simp only [hE i hi], h.sum, hN]; simp
 . rw [hn] at *; by_cases e : i = S.n
   . subst e; simp [hN]
   . have hlt : i < S.n := by omega
     obtain ⟨h1, h2, h3⟩ := h.root i hlt; have h4 := h.up i hlt; simp only [if_neg e]; rw [hE i hlt, hE _ h1, if_neg zO]; exact ⟨by omega, h2, h3⟩
 . rw [hn] at *; by_cases e : i = S.n
   . simp [e]
   . have hlt : i < S.n := by omega
     rw [hE i hlt] at hu; simp only [if_neg e]; exact h.self i hlt hu
 . rw [hn] at *; by_cases e : i = S.n
   . simp [e, hN, kD]
   . have hlt : i < S.n := by omega
     simp only [if_neg e, kD]; rw [hE _ (h.root i hlt).1]; exact h.least i hlt
 . rw [hn] at *; by_cases e : i = S.n
   . simp [e, hN, kD]
   . have hlt : i < S.n := by omega
     simp only [if_neg e, kD]; rw [hE _ (h.root i hlt).1]; exact h.mark i hlt
 . rw [hn] at *; simp only [kD]; by_cases e : i = S.n <;> by_cases e2 : j = S.n
   . simp [e, e2]
   . have := h.ok.le j zO; have := (h.root j zO).1; simp only [if_pos e, if_neg e2]; constructor <;> intro _ <;> omega
   . have := h.ok.le i zO; have := (h.root i zO).1; simp only [if_neg e, if_pos e2]; constructor <;> intro _ <;> omega
   . simp only [if_neg e, if_neg e2]; exact h.same i j zO zO
def fG (E : Nat -> El) (r : Nat) (m : Int) : Nat -> El := λ i => if i = r then { E r with mark := m } else E i
theorem iZ (E : Nat -> El) (r : Nat) (m : Int) (i : Nat) : (fG E r m i).up = (E i).up := by unfold fG; split <;> simp_all
theorem gV (E : Nat -> El) (r : Nat) (m : Int) (i : Nat) : (fG E r m i).size = (E i).size := by unfold fG; split <;> simp_all
theorem vB (E : Nat -> El) (r : Nat) (m : Int) (i : Nat) : (fG E r m i).least = (E i).least := by unfold fG; split <;> simp_all
theorem Bw (h : nw E S ρ) {a : Nat} {m : Int} (ha : a < S.n) (hm : 0 < m /\ m < 9223372036854775808) : nw (fG E (ρ a) m) (og S a m) ρ := by
 refine ⟨Fw h.ok hm, λ i hi => ?_, λ i hi hu => ?_, λ i hi => ?_, λ i hi => ?_, ?_, λ i hi => ?_, λ i hi hu => ?_, λ i hi => ?_, λ i hi => ?_, h.same⟩
 . rw [iZ]; exact h.up i hi
 . rw [iZ] at hu ⊢; rw [gV, gV]; exact h.climb i hi hu
 . rw [gV]; exact h.pos i hi
 . rw [gV]; exact h.le i hi
 . simp only [iZ, gV]; exact h.sum
 . rw [iZ, iZ]; exact h.root i hi
 . rw [iZ] at hu; exact h.self i hi hu
 . rw [vB]; exact h.least i hi
 . simp only [og] at hi ⊢; unfold fG; by_cases e : ρ i = ρ a
   . rw [if_pos e, if_pos ((h.same i a hi ha).2 e)]
   . rw [if_neg e, if_neg λ g => e ((h.same i a hi ha).1 g)]; exact h.mark i hi
def fK (E : Nat -> El) (r s : Nat) (m : Int) : Nat -> El := λ i => if i = s then { E s with up := r } else if i = r then ⟨(E r).up, (E r).size + (E s).size, min (E r).least (E s).least, m⟩ else E i
theorem vX (h : nw E S ρ) {a b : Nat} (ha : a < S.n) (hb : b < S.n) (hne : ρ a ≠ ρ b) : nw (fK E (ρ a) (ρ b) (max (S.m a) (S.m b))) (fF S a b) (λ i => if ρ i = ρ b then ρ a else ρ i) := by
 obtain ⟨ra, rua, _⟩ := h.root a ha; obtain ⟨rb, rub, _⟩ := h.root b hb; have la := h.least a ha; have lb := h.least b hb; have ia := h.idem ha; have ib := h.idem hb; have two := rS (f := λ i => if (E i).up = i then (E i).size else 0) ra rb hne; simp only [h.sum, if_pos rua, if_pos rub] at two; have pa := h.pos _ ra; have pb := h.pos _ rb; generalize hr : ρ a = r at *; generalize hs : ρ b = s at *; generalize hM : max (S.m a) (S.m b) = M; have hES : fK E r s M s = { E s with up := r } := (by simp [fK]); have hER : fK E r s M r = ⟨(E r).up, (E r).size + (E s).size, min (E r).least (E s).least, M⟩ := (by simp [fK, hne]); have hEO : ∀ i, i ≠ r -> i ≠ s -> fK E r s M i = E i := λ i h1 h2 => by simp [fK, h1, h2]
 have hsz : ∀ i, (E i).size <= (fK E r s M i).size := λ i => by
  by_cases e : i = s
  . rw [e, hES]; simp
  . by_cases e2 : i = r
    . rw [e2, hER]; simp
    . rw [hEO i e2 e]; simp
 refine ⟨Dh h.ok ha hb, λ i hi => ?_, λ i hi hu => ?_, λ i hi => ?_, λ i hi => ?_, ?_, λ i hi => ?_, λ i hi hu => ?_, λ i hi => ?_, λ i hi => ?_, λ i j hi hj => ?_⟩
 . simp only [fF] at *; by_cases e : i = s
   . rw [e, hES]; exact ra
   . by_cases e2 : i = r
     . rw [e2, hER]; exact h.up r ra
     . rw [hEO i e2 e]; exact h.up i hi
 . simp only [fF] at *; by_cases e : i = s
   . rw [e, hES]; simp only; rw [hER]; simp only; omega
   . by_cases e2 : i = r
     . rw [e2, hER] at hu; simp only at hu; exact absurd rua hu
     . rw [hEO i e2 e] at hu ⊢; exact Nat.lt_of_lt_of_le (h.climb i hi hu) (hsz _)
 . exact Nat.lt_of_lt_of_le (h.pos i hi) (hsz i)
 . simp only [fF] at *; by_cases e : i = s
   . rw [e, hES]; exact h.le s rb
   . by_cases e2 : i = r
     . rw [e2, hER]; exact two
     . rw [hEO i e2 e]; exact h.le i hi
 . simp only [fF]; have h1 := nB (f := λ i => if (fK E r s M i).up = i then (fK E r s M i).size else 0) (g := λ i => if i = s then (if (E i).up = i then (E i).size else 0) else if (fK E r s M i).up = i then (fK E r s M i).size else 0) rb λ j hj => by simp [hj]
   have h2 := nB (f := λ i => if i = s then (if (E i).up = i then (E i).size else 0) else if (fK E r s M i).up = i then (fK E r s M i).size else 0) (g := λ i => if (E i).up = i then (E i).size else 0) ra λ j hj => by
    by_cases e : j = s
    . simp [e]
    . simp only [if_neg e]; rw [hEO j hj e]
   simp only [hES, hER, if_pos, if_neg hne, rua, rub, h.sum] at h1 h2; omega
 . simp only [fF] at *; obtain ⟨h1, h2, h3⟩ := h.root i hi; have h4 : (fK E r s M r).up = r := (by rw [hER]; exact rua); have h5 : ρ (fK E r s M i).up = ρ i ∨ i = s /\ (fK E r s M i).up = r := by
    by_cases e : i = s
    . right; rw [e, hES]; exact ⟨rfl, rfl⟩
    . left; by_cases e2 : i = r
      . rw [e2, hER]; simp only [rua]
      . rw [hEO i e2 e]; exact h3
   refine ⟨?_, ?_, ?_⟩
   . split
     . exact ra
     . exact h1
   . split
     . exact h4
     . rename_i e; by_cases e2 : ρ i = r
       . rw [e2]; exact h4
       . rw [hEO _ e2 e]; exact h2
   . rcases h5 with h5 | ⟨rfl, h5⟩
     . rw [h5]
     . rw [h5, ia, if_neg hne, if_pos ib]
 . simp only [fF] at *; by_cases e : i = s
   . rw [e, hES] at hu; exact absurd hu hne
   . have h1 : ρ i = i := by
      by_cases e2 : i = r
      . rw [e2]; exact ia
      . rw [hEO i e2 e] at hu; exact h.self i hi hu
     rw [h1, if_neg e]
 . simp only [fF] at *; have h1 := h.least i hi; have sa := h.same i a hi ha; have sb := h.same i b hi hb; rw [hr] at sa; rw [hs] at sb; by_cases e : ρ i = s
   . rw [if_pos e, hER, if_pos (.inr (sb.2 e)), <- la, <- lb]
   . rw [if_neg e]; by_cases e2 : ρ i = r
     . rw [e2, hER, if_pos (.inl (sa.2 e2)), <- la, <- lb]
     . rw [hEO _ e2 e, if_neg λ g => g.elim (λ g => e2 (sa.1 g)) λ g => e (sb.1 g)]; exact h1
 . simp only [fF] at *; have h1 := h.mark i hi; have sa := h.same i a hi ha; have sb := h.same i b hi hb; rw [hr] at sa; rw [hs] at sb; by_cases e : ρ i = s
   . rw [if_pos e, hER, if_pos (.inr (sb.2 e)), hM]
   . rw [if_neg e]; by_cases e2 : ρ i = r
     . rw [e2, hER, if_pos (.inl (sa.2 e2)), hM]
     . rw [hEO _ e2 e, if_neg λ g => g.elim (λ g => e2 (sa.1 g)) λ g => e (sb.1 g)]; exact h1
 . simp only [fF] at *; have ai := h.same i a hi ha; have bi := h.same i b hi hb; have aj := h.same j a hj ha; have bj := h.same j b hj hb; have ij := h.same i j hi hj; have cab : ∀ k, k < S.n -> S.c k = min (S.c a) (S.c b) -> S.c k = S.c a ∨ S.c k = S.c b := λ k _ hk => by omega
   have ki := h.ok.cc i hi; have kj := h.ok.cc j hj; rw [hr] at ai aj; rw [hs] at bi bj; by_cases h1 : S.c i = S.c a ∨ S.c i = S.c b <;> by_cases h2 : S.c j = S.c a ∨ S.c j = S.c b
   . rw [if_pos h1, if_pos h2]; refine iff_of_true rfl ?_; have g1 : ρ i = r ∨ ρ i = s := h1.elim (λ g => .inl (ai.1 g)) λ g => .inr (bi.1 g); have g2 : ρ j = r ∨ ρ j = s := h2.elim (λ g => .inl (aj.1 g)) λ g => .inr (bj.1 g); rcases g1 with g1 | g1 <;> rcases g2 with g2 | g2 <;> simp [g1, g2]
   . rw [if_pos h1, if_neg h2]; refine iff_of_false (λ g => h2 (cab j hj g.symm)) ?_; have g1 : ρ i = r ∨ ρ i = s := h1.elim (λ g => .inl (ai.1 g)) λ g => .inr (bi.1 g); have g2 : ρ j ≠ r /\ ρ j ≠ s := ⟨λ g => h2 (.inl (aj.2 g)), λ g => h2 (.inr (bj.2 g))⟩; rw [if_neg g2.2]; rcases g1 with g1 | g1
     . rw [g1, if_neg hne]; exact λ g => g2.1 g.symm
     . rw [if_pos g1]; exact λ g => g2.1 g.symm
   . rw [if_neg h1, if_pos h2]; refine iff_of_false (λ g => h1 (cab i hi g)) ?_; have g1 : ρ j = r ∨ ρ j = s := h2.elim (λ g => .inl (aj.1 g)) λ g => .inr (bj.1 g); have g2 : ρ i ≠ r /\ ρ i ≠ s := ⟨λ g => h1 (.inl (ai.2 g)), λ g => h1 (.inr (bi.2 g))⟩; rw [if_neg g2.2]; rcases g1 with g1 | g1
     . rw [g1, if_neg hne]; exact λ g => g2.1 g
     . rw [if_pos g1]; exact λ g => g2.1 g
   . rw [if_neg h1, if_neg h2]; have g1 : ρ i ≠ s := λ g => h1 (.inr (bi.2 g)); have g2 : ρ j ≠ s := λ g => h2 (.inr (bj.2 g)); rw [if_neg g1, if_neg g2]; exact ij
theorem ru (h : nw E S ρ) {a b : Nat} (ha : a < S.n) (hb : b < S.n) (he : ρ a = ρ b) : nw E (fF S a b) ρ := by
 have hab : S.c a = S.c b := (h.same a b ha hb).2 he; have hm := h.ok.mm a b ha hb hab; have hc : ∀ i, i < S.n -> (fF S a b).c i = S.c i := λ i hi => by
  simp only [fF]; split
  . omega
  . rfl
 have hM : ∀ i, i < S.n -> (fF S a b).m i = S.m i := λ i hi => by
  simp only [fF]; split
  . rename_i g; have : S.m i = S.m a := h.ok.mm i a hi ha zO; omega
  . rfl
 exact ⟨Dh h.ok ha hb, h.up, h.climb, h.pos, h.le, h.sum, h.root, h.self, λ i hi => (h.least i hi).trans (hc i hi).symm, λ i hi => (h.mark i hi).trans (hM i hi).symm, λ i j hi hj => by rw [hc i hi, hc j hj]; exact h.same i j hi hj⟩
end
end Go.Proofs.YtiholfmmphcbeaaGreatDoor
