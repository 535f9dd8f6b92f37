import Derived.Test.YtmceablhndldiaaGreatDoorSx20c
namespace Go.Sx

section
variable {ct : Nat → Nat} {lg : Nat → Log} {N : Nat}
theorem ct_mono (hle : ∀ j, j < N → ct j ≤ ct (j + 1)) : ∀ {j k : Nat}, j ≤ k → k ≤ N → ct j ≤ ct k
  | j, 0, h, _ => by rw [show j = 0 by omega]; exact Nat.le_refl _
  | j, k + 1, h, hk => by
    rcases Nat.lt_or_ge k j with hlt | hge
    · rw [show j = k + 1 by omega]; exact Nat.le_refl _
    · exact Nat.le_trans (ct_mono hle hge (by omega)) (hle k (by omega))
theorem Tou.mem {l : Log} {n : Nat} {x : Option Nat} (h : Tou l n x) : ∃ q ∈ l, q.1 = n := by
  obtain ⟨b, h | ⟨i, _, h⟩⟩ := h
  · exact ⟨_, h, rfl⟩
  · exact ⟨_, h, rfl⟩
theorem apartR_split {a b : Nat × Nat × Log} (h : apartR a b = true) : apartL a.2.2 b.2.2 = true ∧ outL a.1 a.2.1 b.2.2 = true := by
  have h : ifB (apartL a.2.2 b.2.2) (outL a.1 a.2.1 b.2.2) false = true := h
  cases ha : apartL a.2.2 b.2.2 with
  | false => rw [ha] at h; cases h
  | true => rw [ha, ifB_true] at h; exact ⟨rfl, h⟩
/-- the former of two operations that are apart writes nothing that the later touches -/
theorem apart_former (hle : ∀ j, j < N → ct j ≤ ct (j + 1)) (hlow : ∀ j, j < N → ∀ q ∈ lg j, q.1 < ct (j + 1)) {i j : Nat} (hij : i < j) (hj : j < N) (h : apartR (ct i, ct (i + 1), lg i) (ct j, ct (j + 1), lg j) = true)
    {m : Nat} {x : Option Nat} (ht : TouC (lg j) (ct j) (ct (j + 1)) m x) : ¬ WriC (lg i) (ct i) (ct (i + 1)) m x := by
  obtain ⟨h1, h2⟩ := apartR_split h
  have hm := ct_mono hle (show i + 1 ≤ j by omega) (by omega)
  rintro (⟨a1, a2⟩ | hw)
  · rcases ht with ⟨b1, b2⟩ | ht
    · omega
    · obtain ⟨q, hq, rfl⟩ := ht.mem
      rcases outL_spec h2 q hq with hh | hh
      · exact absurd a1 (by show ¬ ct i ≤ q.1; have : q.1 < ct i := hh; omega)
      · have : ct (i + 1) ≤ q.1 := hh
        omega
  · rcases ht with ⟨b1, b2⟩ | ht
    · obtain ⟨q, hq, rfl⟩ := hw.tou.mem
      have := hlow i (by omega) q hq
      omega
    · exact apart_wri h1 hw ht
/-- the later writes nothing that the former touches -/
theorem apart_later (hle : ∀ j, j < N → ct j ≤ ct (j + 1)) (hlow : ∀ j, j < N → ∀ q ∈ lg j, q.1 < ct (j + 1)) {j k : Nat} (hjk : j < k) (hk : k < N) (h : apartR (ct j, ct (j + 1), lg j) (ct k, ct (k + 1), lg k) = true)
    {m : Nat} {x : Option Nat} (ht : TouC (lg j) (ct j) (ct (j + 1)) m x) : ¬ WriC (lg k) (ct k) (ct (k + 1)) m x := by
  obtain ⟨h1, h2⟩ := apartR_split h
  have hm := ct_mono hle (show j + 1 ≤ k by omega) (by omega)
  rintro (⟨a1, a2⟩ | hw)
  · rcases ht with ⟨b1, b2⟩ | ht
    · omega
    · obtain ⟨q, hq, rfl⟩ := ht.mem
      have := hlow j (by omega) q hq
      omega
  · rcases ht with ⟨b1, b2⟩ | ht
    · obtain ⟨q, hq, rfl⟩ := hw.tou.mem
      rcases outL_spec h2 q hq with hh | hh
      · have : q.1 < ct j := hh
        omega
      · have : ct (j + 1) ≤ q.1 := hh
        omega
    · exact apart_tou h1 ht hw
variable {ops : Array Oper} {ps : List (Nat × Nat)}
/-- of an operation that is ready: what those ahead of it that are not listed, and those behind it that are, write is not touched by it -/
theorem ready_apart (hps : pairsOf ops = some ps) (hN : N = ops.size) (hle : ∀ j, j < N → ct j ≤ ct (j + 1)) (hlow : ∀ j, j < N → ∀ q ∈ lg j, q.1 < ct (j + 1)) (hok : ∀ p ∈ ps, p.1 < N → p.2 < N → apartR (ct p.1, ct (p.1 + 1), lg p.1) (ct p.2, ct (p.2 + 1), lg p.2) = true)
    {S : Nat → Prop} (hS : Closed ops S) {j : Nat} (hj : j < N) (hSj : ¬ S j) (hSj' : Closed ops fun k => S k ∨ k = j) {m : Nat} {x : Option Nat} (ht : TouC (lg j) (ct j) (ct (j + 1)) m x) :
    (∀ i, i < j → ¬ S i → ¬ WriC (lg i) (ct i) (ct (i + 1)) m x) ∧ ∀ k, j < k → k < N → S k → ¬ WriC (lg k) (ct k) (ct (k + 1)) m x := by
  subst hN
  refine ⟨fun i hij hi => ?_, fun k hjk hk hSk => ?_⟩
  · rcases pairsOf_spec hps hij hj with hc | ⟨hm, _⟩
    · rcases hc _ hSj' (.inr rfl) with h | h
      · exact absurd h hi
      · omega
    · exact apart_former hle hlow hij hj (hok _ hm (by show i < _; omega) hj) ht
  · rcases pairsOf_spec hps hjk hk with hc | ⟨hm, _⟩
    · exact absurd (hc _ hS hSk) hSj
    · exact apart_later hle hlow hjk hk (hok _ hm hj hk) ht
/-- the heap behind the listed operations, and one more -/
theorem heap_step {hp : Nat → H} {α : Type} {f : M α} {a : α} {S : Nat → Prop} {j : Nat} (hj : j < N) (hSj : ¬ S j) (hL : LoAt f (ct j) (hp j) a (ct (j + 1)) (hp (j + 1)) (lg j))
    (hst : ∀ i, i < N → ∀ m x, ¬ WriC (lg i) (ct i) (ct (i + 1)) m x → vw (hp (i + 1)) m x = vw (hp i) m x)
    (hap : ∀ m x, TouC (lg j) (ct j) (ct (j + 1)) m x → (∀ i, i < j → ¬ S i → ¬ WriC (lg i) (ct i) (ct (i + 1)) m x) ∧ ∀ k, j < k → k < N → S k → ¬ WriC (lg k) (ct k) (ct (k + 1)) m x)
    {g : H} (hg : ∀ m x, vw g m x = atS (fun k => vw (hp k) m x) (fun k => WriC (lg k) (ct k) (ct (k + 1)) m x) S N) :
    ∃ g', f (ct j) g = .ok a (ct (j + 1)) g' (lg j) ∧ ∀ m x, vw g' m x = atS (fun k => vw (hp k) m x) (fun k => WriC (lg k) (ct k) (ct (k + 1)) m x) (fun k => S k ∨ k = j) N := by
  obtain ⟨g', h1, h2, h3⟩ := hL.carry g fun m x ht => by
    obtain ⟨k1, k2⟩ := hap m x ht
    rw [hg, atS_behind (j := j) (by omega) fun k a1 a2 a3 => ?_, atS_read (fun i hi => hst i (by omega) m x) k1]
    rcases Nat.lt_or_ge j k with hlt | hge
    · exact k2 k hlt a2 a3
    · rw [show k = j by omega] at a3
      exact absurd a3 hSj
  refine ⟨g', h1, fun m x => ?_⟩
  by_cases hw : WriC (lg j) (ct j) (ct (j + 1)) m x
  · rw [h2 m x hw]
    exact (atS_wrote (val := fun k => vw (hp k) m x) (W := fun k => WriC (lg k) (ct k) (ct (k + 1)) m x) hj hw (hap m x hw.tou).2).symm
  · rw [h3 m x hw, hg]
    exact (atS_put (val := fun k => vw (hp k) m x) (W := fun k => WriC (lg k) (ct k) (ct (k + 1)) m x) hw).symm
end
end Go.Sx
