/-
  Classes with marks, plain: what each call does, by definition; trees of elements that say the same.
-/
namespace Go.Proofs.Ytiehfjkiedgkhaa

structure El where
  up : Nat
  size : Nat
  least : Nat
  mark : Int
/-- how many, the least one of each class, the class's mark -/
structure KS where
  n : Nat
  c : Nat → Nat
  m : Nat → Int
def noneS : KS := ⟨0, fun _ => 0, fun _ => 0⟩
def inK (S : KS) (a : Int) : Bool := decide (0 ≤ a) && decide (a < (S.n : Int))
def addS (S : KS) : KS := ⟨S.n + 1, fun i => if i = S.n then S.n else S.c i, fun i => if i = S.n then 0 else S.m i⟩
def markOk (S : KS) (a m : Int) : Bool := inK S a && decide (0 < m) && decide (S.m a.toNat = 0 ∨ S.m a.toNat = m)
def markF (S : KS) (a : Nat) (m : Int) : KS := { S with m := fun i => if S.c i = S.c a then m else S.m i }
def markS (S : KS) (a m : Int) : KS := if markOk S a m = true then markF S a.toNat m else S
def tieOk (S : KS) (a b : Int) : Bool := inK S a && inK S b && !decide (S.m a.toNat ≠ 0 ∧ S.m b.toNat ≠ 0 ∧ S.m a.toNat ≠ S.m b.toNat)
def tieF (S : KS) (a b : Nat) : KS := { S with c := fun i => if S.c i = S.c a ∨ S.c i = S.c b then min (S.c a) (S.c b) else S.c i, m := fun i => if S.c i = S.c a ∨ S.c i = S.c b then max (S.m a) (S.m b) else S.m i }
def tieS (S : KS) (a b : Int) : KS := if tieOk S a b = true then tieF S a.toNat b.toNat else S
def ofS (S : KS) (a : Int) : Int := if inK S a = true then S.m a.toNat else 0
def leastS (S : KS) (a : Int) : Int := if inK S a = true then (S.c a.toNat : Int) else -1
def alikeS (S : KS) (a b : Int) : Bool := inK S a && inK S b && decide (S.c a.toNat = S.c b.toNat)

theorem inK_lt {S : KS} {a : Int} (h : inK S a = true) : 0 ≤ a ∧ a < (S.n : Int) ∧ a.toNat < S.n := by
  unfold inK at h; simp at h; omega
/-- a class's least one is in it, one class has one mark -/
structure KS.Ok (S : KS) : Prop where
  le : ∀ i, i < S.n → S.c i ≤ i
  cc : ∀ i, i < S.n → S.c (S.c i) = S.c i
  mm : ∀ i j, i < S.n → j < S.n → S.c i = S.c j → S.m i = S.m j
  pos : ∀ i, i < S.n → 0 ≤ S.m i ∧ S.m i < 9223372036854775808
theorem ok_none : noneS.Ok := ⟨fun i h => by simp [noneS] at h, fun i h => by simp [noneS] at h, fun i j h => by simp [noneS] at h, fun i h => by simp [noneS] at h⟩
theorem ok_add {S : KS} (h : S.Ok) : (addS S).Ok := by
  refine ⟨fun i hi => ?_, fun i hi => ?_, fun i j hi hj e => ?_, fun i hi => ?_⟩
  · simp only [addS] at hi ⊢
    split
    · omega
    · exact h.le i (by omega)
  · simp only [addS] at hi ⊢
    by_cases hn : i = S.n
    · simp [hn]
    · have := h.le i (by omega)
      rw [if_neg hn, if_neg (by omega), h.cc i (by omega)]
  · simp only [addS] at hi hj e ⊢
    by_cases h1 : i = S.n <;> by_cases h2 : j = S.n
    · simp [h1, h2]
    · have := h.le j (by omega)
      simp [h1, h2] at e; omega
    · have := h.le i (by omega)
      simp [h1, h2] at e; omega
    · rw [if_neg h1, if_neg h2] at *
      exact h.mm i j (by omega) (by omega) e
  · simp only [addS] at hi ⊢
    split
    · omega
    · exact h.pos i (by omega)
theorem ok_mark {S : KS} (h : S.Ok) {a : Nat} {m : Int} (hm : 0 < m ∧ m < 9223372036854775808) : (markF S a m).Ok := by
  refine ⟨h.le, h.cc, fun i j hi hj e => ?_, fun i hi => ?_⟩
  · simp only [markF] at *
    rw [e]
    split
    · rfl
    · exact h.mm i j hi hj e
  · simp only [markF] at *
    split
    · omega
    · exact h.pos i hi
theorem ok_tie {S : KS} (h : S.Ok) {a b : Nat} (ha : a < S.n) (hb : b < S.n) : (tieF S a b).Ok := by
  have la := h.le a ha
  have lb := h.le b hb
  have ca := h.cc a ha
  have cb := h.cc b hb
  have cmin : S.c (min (S.c a) (S.c b)) = S.c a ∨ S.c (min (S.c a) (S.c b)) = S.c b := by
    by_cases hl : S.c a ≤ S.c b
    · rw [Nat.min_eq_left hl]; exact .inl ca
    · rw [Nat.min_eq_right (by omega)]; exact .inr cb
  refine ⟨fun i hi => ?_, fun i hi => ?_, fun i j hi hj e => ?_, fun i hi => ?_⟩
  · simp only [tieF] at *
    have := h.le i hi
    split
    · omega
    · exact this
  · simp only [tieF] at *
    have hc := h.cc i hi
    split
    · first | rfl | rw [if_pos cmin]
    · rename_i hn
      rw [if_neg (by rw [hc]; exact hn), hc]
  · simp only [tieF] at *
    have hci := h.cc i hi
    have hcj := h.cc j hj
    by_cases h1 : S.c i = S.c a ∨ S.c i = S.c b <;> by_cases h2 : S.c j = S.c a ∨ S.c j = S.c b
    · rw [if_pos h1, if_pos h2]
    · rw [if_pos h1, if_neg h2] at e
      exfalso
      rw [e, hcj] at cmin
      exact h2 cmin
    · rw [if_neg h1, if_pos h2] at e
      exfalso
      rw [← e, hci] at cmin
      exact h1 cmin
    · rw [if_neg h1, if_neg h2] at e
      rw [if_neg h1, if_neg h2]
      exact h.mm i j hi hj e
  · simp only [tieF] at *
    have := h.pos a ha
    have := h.pos b hb
    split
    · omega
    · exact h.pos i hi
theorem ok_markS {S : KS} (h : S.Ok) {a m : Int} (hm : m < 9223372036854775808) : (markS S a m).Ok := by
  unfold markS
  split
  · rename_i hk
    unfold markOk at hk
    simp at hk
    exact ok_mark h ⟨hk.1.2, hm⟩
  · exact h
theorem ok_tieS {S : KS} (h : S.Ok) {a b : Int} : (tieS S a b).Ok := by
  unfold tieS
  split
  · rename_i hk
    unfold tieOk at hk
    simp only [Bool.and_eq_true] at hk
    exact ok_tie h (inK_lt hk.1.1).2.2 (inK_lt hk.1.2).2.2
  · exact h
theorem tieF_comm (S : KS) (a b : Nat) : tieF S b a = tieF S a b := by
  unfold tieF
  congr 1
  · funext i
    simp only [or_comm, Nat.min_comm]
  · funext i
    simp only [or_comm, Int.max_comm]

/-- a sum -/
def sumTo (f : Nat → Nat) : Nat → Nat
  | 0 => 0
  | n + 1 => sumTo f n + f n
theorem sumTo_congr {f g : Nat → Nat} {n : Nat} (h : ∀ i, i < n → f i = g i) : sumTo f n = sumTo g n := by
  induction n with
  | zero => rfl
  | succ n ih =>
    unfold sumTo
    rw [ih fun i hi => h i (by omega), h n (by omega)]
theorem sumTo_one {f g : Nat → Nat} {n i : Nat} (hi : i < n) (h : ∀ j, j ≠ i → f j = g j) : sumTo f n + g i = sumTo g n + f i := by
  induction n with
  | zero => omega
  | succ n ih =>
    unfold sumTo
    by_cases hn : i = n
    · subst hn
      rw [sumTo_congr (f := f) (g := g) fun j hj => h j (by omega)]
      omega
    · have := ih (by omega)
      rw [h n (by omega)]
      omega
theorem sumTo_le {f : Nat → Nat} {n i : Nat} (hi : i < n) : f i ≤ sumTo f n := by
  induction n with
  | zero => omega
  | succ n ih =>
    unfold sumTo
    by_cases hn : i = n
    · subst hn; omega
    · have := ih (by omega); omega
theorem sumTo_two {f : Nat → Nat} {n i j : Nat} (hi : i < n) (hj : j < n) (hne : i ≠ j) : f i + f j ≤ sumTo f n := by
  have h := sumTo_one (f := f) (g := fun k => if k = i then 0 else f k) hi fun k hk => by simp [hk]
  have h2 := sumTo_le (f := fun k => if k = i then 0 else f k) hj
  simp only [if_pos, if_neg hne.symm] at h h2
  omega
/-- the elements, and the root of each -/
structure Good (E : Nat → El) (S : KS) (ρ : Nat → Nat) : Prop where
  ok : S.Ok
  up : ∀ i, i < S.n → (E i).up < S.n
  climb : ∀ i, i < S.n → (E i).up ≠ i → (E i).size < (E (E i).up).size
  pos : ∀ i, i < S.n → 0 < (E i).size
  le : ∀ i, i < S.n → (E i).size ≤ S.n
  sum : sumTo (fun i => if (E i).up = i then (E i).size else 0) S.n = S.n
  root : ∀ i, i < S.n → ρ i < S.n ∧ (E (ρ i)).up = ρ i ∧ ρ (E i).up = ρ i
  self : ∀ i, i < S.n → (E i).up = i → ρ i = i
  least : ∀ i, i < S.n → (E (ρ i)).least = S.c i
  mark : ∀ i, i < S.n → (E (ρ i)).mark = S.m i
  same : ∀ i j, i < S.n → j < S.n → (S.c i = S.c j ↔ ρ i = ρ j)
theorem good_none (E : Nat → El) (ρ : Nat → Nat) : Good E noneS ρ :=
  ⟨ok_none, fun i h => by simp [noneS] at h, fun i h => by simp [noneS] at h, fun i h => by simp [noneS] at h, fun i h => by simp [noneS] at h, rfl, fun i h => by simp [noneS] at h, fun i h => by simp [noneS] at h, fun i h => by simp [noneS] at h, fun i h => by simp [noneS] at h, fun i j h => by simp [noneS] at h⟩
section
variable {E : Nat → El} {S : KS} {ρ : Nat → Nat}
theorem Good.idem (h : Good E S ρ) {i : Nat} (hi : i < S.n) : ρ (ρ i) = ρ i := h.self _ (h.root i hi).1 (h.root i hi).2.1
def addE (E : Nat → El) (n : Nat) : Nat → El := fun i => if i = n then ⟨n, 1, n, 0⟩ else E i
theorem good_add (h : Good E S ρ) : Good (addE E S.n) (addS S) (fun i => if i = S.n then S.n else ρ i) := by
  have hE : ∀ i, i < S.n → addE E S.n i = E i := fun i hi => by unfold addE; rw [if_neg (by omega)]
  have hN : addE E S.n S.n = ⟨S.n, 1, S.n, 0⟩ := by simp [addE]
  have hn : (addS S).n = S.n + 1 := rfl
  refine ⟨ok_add h.ok, fun i hi => ?_, fun i hi hu => ?_, fun i hi => ?_, fun i hi => ?_, ?_, fun i hi => ?_, fun i hi hu => ?_, fun i hi => ?_, fun i hi => ?_, fun i j hi hj => ?_⟩
  · rw [hn] at *
    by_cases e : i = S.n
    · rw [e, hN]; simp
    · rw [hE i (by omega)]; have := h.up i (by omega); omega
  · rw [hn] at *
    by_cases e : i = S.n
    · rw [e, hN] at hu; simp at hu
    · have hlt : i < S.n := by omega
      rw [hE i hlt] at hu ⊢
      rw [hE _ (h.up i hlt)]
      exact h.climb i hlt hu
  · rw [hn] at *
    by_cases e : i = S.n
    · rw [e, hN]; simp
    · rw [hE i (by omega)]; exact h.pos i (by omega)
  · rw [hn] at *
    by_cases e : i = S.n
    · rw [e, hN]; simp
    · rw [hE i (by omega)]; have := h.le i (by omega); omega
  · rw [hn]
    unfold sumTo
    rw [sumTo_congr (g := fun i => if (E i).up = i then (E i).size else 0) fun i hi => by simp only [hE i hi], h.sum, hN]
    simp
  · rw [hn] at *
    by_cases e : i = S.n
    · subst e; simp [hN]
    · have hlt : i < S.n := by omega
      obtain ⟨h1, h2, h3⟩ := h.root i hlt
      have h4 := h.up i hlt
      simp only [if_neg e]
      rw [hE i hlt, hE _ h1, if_neg (by omega)]
      exact ⟨by omega, h2, h3⟩
  · rw [hn] at *
    by_cases e : i = S.n
    · simp [e]
    · have hlt : i < S.n := by omega
      rw [hE i hlt] at hu
      simp only [if_neg e]
      exact h.self i hlt hu
  · rw [hn] at *
    by_cases e : i = S.n
    · simp [e, hN, addS]
    · have hlt : i < S.n := by omega
      simp only [if_neg e, addS]
      rw [hE _ (h.root i hlt).1]
      exact h.least i hlt
  · rw [hn] at *
    by_cases e : i = S.n
    · simp [e, hN, addS]
    · have hlt : i < S.n := by omega
      simp only [if_neg e, addS]
      rw [hE _ (h.root i hlt).1]
      exact h.mark i hlt
  · rw [hn] at *
    simp only [addS]
    by_cases e : i = S.n <;> by_cases e2 : j = S.n
    · simp [e, e2]
    · have := h.ok.le j (by omega)
      have := (h.root j (by omega)).1
      simp only [if_pos e, if_neg e2]
      constructor <;> intro _ <;> omega
    · have := h.ok.le i (by omega)
      have := (h.root i (by omega)).1
      simp only [if_neg e, if_pos e2]
      constructor <;> intro _ <;> omega
    · simp only [if_neg e, if_neg e2]
      exact h.same i j (by omega) (by omega)
def markE (E : Nat → El) (r : Nat) (m : Int) : Nat → El := fun i => if i = r then { E r with mark := m } else E i
theorem markE_up (E : Nat → El) (r : Nat) (m : Int) (i : Nat) : (markE E r m i).up = (E i).up := by unfold markE; split <;> simp_all
theorem markE_size (E : Nat → El) (r : Nat) (m : Int) (i : Nat) : (markE E r m i).size = (E i).size := by unfold markE; split <;> simp_all
theorem markE_least (E : Nat → El) (r : Nat) (m : Int) (i : Nat) : (markE E r m i).least = (E i).least := by unfold markE; split <;> simp_all
theorem good_mark (h : Good E S ρ) {a : Nat} {m : Int} (ha : a < S.n) (hm : 0 < m ∧ m < 9223372036854775808) : Good (markE E (ρ a) m) (markF S a m) ρ := by
  refine ⟨ok_mark h.ok hm, fun i hi => ?_, fun i hi hu => ?_, fun i hi => ?_, fun i hi => ?_, ?_, fun i hi => ?_, fun i hi hu => ?_, fun i hi => ?_, fun i hi => ?_, h.same⟩
  · rw [markE_up]; exact h.up i hi
  · rw [markE_up] at hu ⊢; rw [markE_size, markE_size]; exact h.climb i hi hu
  · rw [markE_size]; exact h.pos i hi
  · rw [markE_size]; exact h.le i hi
  · simp only [markE_up, markE_size]; exact h.sum
  · rw [markE_up, markE_up]; exact h.root i hi
  · rw [markE_up] at hu; exact h.self i hi hu
  · rw [markE_least]; exact h.least i hi
  · simp only [markF] at hi ⊢
    unfold markE
    by_cases e : ρ i = ρ a
    · rw [if_pos e, if_pos ((h.same i a hi ha).2 e)]
    · rw [if_neg e, if_neg fun g => e ((h.same i a hi ha).1 g)]
      exact h.mark i hi
/-- the tree of s below r -/
def tieE (E : Nat → El) (r s : Nat) (m : Int) : Nat → El := fun i => if i = s then { E s with up := r } else if i = r then ⟨(E r).up, (E r).size + (E s).size, min (E r).least (E s).least, m⟩ else E i
theorem good_tie (h : Good E S ρ) {a b : Nat} (ha : a < S.n) (hb : b < S.n) (hne : ρ a ≠ ρ b) : Good (tieE E (ρ a) (ρ b) (max (S.m a) (S.m b))) (tieF S a b) (fun i => if ρ i = ρ b then ρ a else ρ i) := by
  obtain ⟨ra, rua, _⟩ := h.root a ha
  obtain ⟨rb, rub, _⟩ := h.root b hb
  have la := h.least a ha
  have lb := h.least b hb
  have ia := h.idem ha
  have ib := h.idem hb
  have two := sumTo_two (f := fun i => if (E i).up = i then (E i).size else 0) ra rb hne
  simp only [h.sum, if_pos rua, if_pos rub] at two
  have pa := h.pos _ ra
  have pb := h.pos _ rb
  generalize hr : ρ a = r at *
  generalize hs : ρ b = s at *
  generalize hM : max (S.m a) (S.m b) = M
  have hES : tieE E r s M s = { E s with up := r } := by simp [tieE]
  have hER : tieE E r s M r = ⟨(E r).up, (E r).size + (E s).size, min (E r).least (E s).least, M⟩ := by simp [tieE, hne]
  have hEO : ∀ i, i ≠ r → i ≠ s → tieE E r s M i = E i := fun i h1 h2 => by simp [tieE, h1, h2]
  have hsz : ∀ i, (E i).size ≤ (tieE E r s M i).size := fun i => by
    by_cases e : i = s
    · rw [e, hES]; simp
    · by_cases e2 : i = r
      · rw [e2, hER]; simp
      · rw [hEO i e2 e]; simp
  refine ⟨ok_tie h.ok ha hb, fun i hi => ?_, fun i hi hu => ?_, fun i hi => ?_, fun i hi => ?_, ?_, fun i hi => ?_, fun i hi hu => ?_, fun i hi => ?_, fun i hi => ?_, fun i j hi hj => ?_⟩
  · simp only [tieF] at *
    by_cases e : i = s
    · rw [e, hES]; exact ra
    · by_cases e2 : i = r
      · rw [e2, hER]; exact h.up r ra
      · rw [hEO i e2 e]; exact h.up i hi
  · simp only [tieF] at *
    by_cases e : i = s
    · rw [e, hES]
      simp only
      rw [hER]
      simp only
      omega
    · by_cases e2 : i = r
      · rw [e2, hER] at hu; simp only at hu; exact absurd rua hu
      · rw [hEO i e2 e] at hu ⊢
        exact Nat.lt_of_lt_of_le (h.climb i hi hu) (hsz _)
  · exact Nat.lt_of_lt_of_le (h.pos i hi) (hsz i)
  · simp only [tieF] at *
    by_cases e : i = s
    · rw [e, hES]; exact h.le s rb
    · by_cases e2 : i = r
      · rw [e2, hER]; exact two
      · rw [hEO i e2 e]; exact h.le i hi
  · simp only [tieF]
    have h1 := sumTo_one (f := fun i => if (tieE E r s M i).up = i then (tieE E r s M i).size else 0) (g := fun i => if i = s then (if (E i).up = i then (E i).size else 0) else if (tieE E r s M i).up = i then (tieE E r s M i).size else 0) rb fun j hj => by simp [hj]
    have h2 := sumTo_one (f := fun i => if i = s then (if (E i).up = i then (E i).size else 0) else if (tieE E r s M i).up = i then (tieE E r s M i).size else 0) (g := fun i => if (E i).up = i then (E i).size else 0) ra fun j hj => by
      by_cases e : j = s
      · simp [e]
      · simp only [if_neg e]; rw [hEO j hj e]
    simp only [hES, hER, if_pos, if_neg hne, rua, rub, h.sum] at h1 h2
    omega
  · simp only [tieF] at *
    obtain ⟨h1, h2, h3⟩ := h.root i hi
    have h4 : (tieE E r s M r).up = r := by rw [hER]; exact rua
    have h5 : ρ (tieE E r s M i).up = ρ i ∨ i = s ∧ (tieE E r s M i).up = r := by
      by_cases e : i = s
      · right; rw [e, hES]; exact ⟨rfl, rfl⟩
      · left
        by_cases e2 : i = r
        · rw [e2, hER]; simp only [rua]
        · rw [hEO i e2 e]; exact h3
    refine ⟨?_, ?_, ?_⟩
    · split
      · exact ra
      · exact h1
    · split
      · exact h4
      · rename_i e
        by_cases e2 : ρ i = r
        · rw [e2]; exact h4
        · rw [hEO _ e2 e]; exact h2
    · rcases h5 with h5 | ⟨rfl, h5⟩
      · rw [h5]
      · rw [h5, ia, if_neg hne, if_pos ib]
  · simp only [tieF] at *
    by_cases e : i = s
    · rw [e, hES] at hu; exact absurd hu hne
    · have h1 : ρ i = i := by
        by_cases e2 : i = r
        · rw [e2]; exact ia
        · rw [hEO i e2 e] at hu; exact h.self i hi hu
      rw [h1, if_neg e]
  · simp only [tieF] at *
    have h1 := h.least i hi
    have sa := h.same i a hi ha
    have sb := h.same i b hi hb
    rw [hr] at sa
    rw [hs] at sb
    by_cases e : ρ i = s
    · rw [if_pos e, hER, if_pos (.inr (sb.2 e)), ← la, ← lb]
    · rw [if_neg e]
      by_cases e2 : ρ i = r
      · rw [e2, hER, if_pos (.inl (sa.2 e2)), ← la, ← lb]
      · rw [hEO _ e2 e, if_neg fun g => g.elim (fun g => e2 (sa.1 g)) fun g => e (sb.1 g)]
        exact h1
  · simp only [tieF] at *
    have h1 := h.mark i hi
    have sa := h.same i a hi ha
    have sb := h.same i b hi hb
    rw [hr] at sa
    rw [hs] at sb
    by_cases e : ρ i = s
    · rw [if_pos e, hER, if_pos (.inr (sb.2 e)), hM]
    · rw [if_neg e]
      by_cases e2 : ρ i = r
      · rw [e2, hER, if_pos (.inl (sa.2 e2)), hM]
      · rw [hEO _ e2 e, if_neg fun g => g.elim (fun g => e2 (sa.1 g)) fun g => e (sb.1 g)]
        exact h1
  · simp only [tieF] at *
    have ai := h.same i a hi ha
    have bi := h.same i b hi hb
    have aj := h.same j a hj ha
    have bj := h.same j b hj hb
    have ij := h.same i j hi hj
    have cab : ∀ k, k < S.n → S.c k = min (S.c a) (S.c b) → S.c k = S.c a ∨ S.c k = S.c b := fun k _ hk => by omega
    have ki := h.ok.cc i hi
    have kj := h.ok.cc j hj
    rw [hr] at ai aj
    rw [hs] at bi bj
    by_cases h1 : S.c i = S.c a ∨ S.c i = S.c b <;> by_cases h2 : S.c j = S.c a ∨ S.c j = S.c b
    · rw [if_pos h1, if_pos h2]
      refine iff_of_true rfl ?_
      have g1 : ρ i = r ∨ ρ i = s := h1.elim (fun g => .inl (ai.1 g)) fun g => .inr (bi.1 g)
      have g2 : ρ j = r ∨ ρ j = s := h2.elim (fun g => .inl (aj.1 g)) fun g => .inr (bj.1 g)
      rcases g1 with g1 | g1 <;> rcases g2 with g2 | g2 <;> simp [g1, g2]
    · rw [if_pos h1, if_neg h2]
      refine iff_of_false (fun g => h2 (cab j hj g.symm)) ?_
      have g1 : ρ i = r ∨ ρ i = s := h1.elim (fun g => .inl (ai.1 g)) fun g => .inr (bi.1 g)
      have g2 : ρ j ≠ r ∧ ρ j ≠ s := ⟨fun g => h2 (.inl (aj.2 g)), fun g => h2 (.inr (bj.2 g))⟩
      rw [if_neg g2.2]
      rcases g1 with g1 | g1
      · rw [g1, if_neg hne]; exact fun g => g2.1 g.symm
      · rw [if_pos g1]; exact fun g => g2.1 g.symm
    · rw [if_neg h1, if_pos h2]
      refine iff_of_false (fun g => h1 (cab i hi g)) ?_
      have g1 : ρ j = r ∨ ρ j = s := h2.elim (fun g => .inl (aj.1 g)) fun g => .inr (bj.1 g)
      have g2 : ρ i ≠ r ∧ ρ i ≠ s := ⟨fun g => h1 (.inl (ai.2 g)), fun g => h1 (.inr (bi.2 g))⟩
      rw [if_neg g2.2]
      rcases g1 with g1 | g1
      · rw [g1, if_neg hne]; exact fun g => g2.1 g
      · rw [if_pos g1]; exact fun g => g2.1 g
    · rw [if_neg h1, if_neg h2]
      have g1 : ρ i ≠ s := fun g => h1 (.inr (bi.2 g))
      have g2 : ρ j ≠ s := fun g => h2 (.inr (bj.2 g))
      rw [if_neg g1, if_neg g2]
      exact ij
theorem good_tie_same (h : Good E S ρ) {a b : Nat} (ha : a < S.n) (hb : b < S.n) (he : ρ a = ρ b) : Good E (tieF S a b) ρ := by
  have hab : S.c a = S.c b := (h.same a b ha hb).2 he
  have hm := h.ok.mm a b ha hb hab
  have hc : ∀ i, i < S.n → (tieF S a b).c i = S.c i := fun i hi => by
    simp only [tieF]; split
    · omega
    · rfl
  have hM : ∀ i, i < S.n → (tieF S a b).m i = S.m i := fun i hi => by
    simp only [tieF]; split
    · rename_i g
      have : S.m i = S.m a := h.ok.mm i a hi ha (by omega)
      omega
    · rfl
  exact ⟨ok_tie h.ok ha hb, h.up, h.climb, h.pos, h.le, h.sum, h.root, h.self, fun i hi => (h.least i hi).trans (hc i hi).symm, fun i hi => (h.mark i hi).trans (hM i hi).symm, fun i j hi hj => by rw [hc i hi, hc j hj]; exact h.same i j hi hj⟩
end
end Go.Proofs.Ytiehfjkiedgkhaa
