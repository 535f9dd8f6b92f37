/-
  A region that draws its order: the run in the text's order, told place by place; which operations may change places.
-/
import Derived.Test.YtmceablhndldiaaGreatDoorSx19
namespace Go.Sx

section
variable {P : Program} {ops : Array Oper} {call : Ctx}
/-- a run in the text's order, told place by place -/
def Line (call : Ctx) (is : List It) (st : Nat → St) (ct : Nat → Nat) (hp : Nat → H) (lg : Nat → Log) : Prop :=
  ∀ j i, is[j]? = some i → step2 call (st j) i (ct j) (hp j) = .ok (st (j + 1)) (ct (j + 1)) (hp (j + 1)) (lg j)
def shift {α : Type} (a : α) (f : Nat → α) : Nat → α
  | 0 => a
  | j + 1 => f j
theorem evOpsD_run : ∀ (is : List It) (s : St) (c : Nat) (h : H) (r : List (Nat × Nat × Log) × St) (c' : Nat) (h' : H) (l : Log), evOpsD call is s c h = .ok r c' h' l →
    ∃ st ct hp lg, Line call is st ct hp lg ∧ st 0 = s ∧ ct 0 = c ∧ hp 0 = h ∧ st is.length = r.2 ∧ ct is.length = c' ∧ hp is.length = h' ∧ ∀ j, j < is.length → nthL j r.1 = (ct j, ct (j + 1), lg j)
  | [], s, c, h, r, c', h', l, e => by
    obtain ⟨rfl, rfl, rfl, rfl⟩ := pure_ok (show M.pure ([], s) c h = _ from e)
    exact ⟨fun _ => s, fun _ => c', fun _ => h', fun _ => [], fun j i hi => (by simp at hi), rfl, rfl, rfl, rfl, rfl, rfl, fun j hj => (by simp at hj)⟩
  | i :: is, s, c, h, r, c', h', l, e => by
    have e : Rs.rec (motive := fun _ => Rs (List (Nat × Nat × Log) × St)) .fail (fun s1 c1 h1 f1 => Rs.rec (motive := fun _ => Rs (List (Nat × Nat × Log) × St)) .fail (fun r c2 h2 f2 => .ok ((c, c1, f1) :: r.1, r.2) c2 h2 (List.append f1 f2)) (evOpsD call is s1 c1 h1)) (step2 call s i c h) = Rs.ok r c' h' l := e
    cases e1 : step2 call s i c h with
    | fail => rw [e1] at e; cases e
    | ok s1 c1 h1 f1 =>
      rw [e1] at e
      have e : Rs.rec (motive := fun _ => Rs (List (Nat × Nat × Log) × St)) .fail (fun r c2 h2 f2 => .ok ((c, c1, f1) :: r.1, r.2) c2 h2 (List.append f1 f2)) (evOpsD call is s1 c1 h1) = Rs.ok r c' h' l := e
      cases e2 : evOpsD call is s1 c1 h1 with
      | fail => rw [e2] at e; cases e
      | ok q c2 h2 f2 =>
        rw [e2] at e
        cases e
        obtain ⟨st, ct, hp, lg, k1, k2, k3, k4, k5, k6, k7, k8⟩ := evOpsD_run is s1 c1 h1 q _ _ f2 e2
        refine ⟨shift s st, shift c ct, shift h hp, shift f1 lg, fun j x hx => ?_, rfl, rfl, rfl, k5, k6, k7, fun j hj => ?_⟩
        · cases j with
          | zero =>
            cases hx
            show step2 call s i c h = .ok (st 0) (ct 0) (hp 0) f1
            rw [k2, k3, k4]
            exact e1
          | succ j => exact k1 j x (by simpa using hx)
        · cases j with
          | zero =>
            show (c, c1, f1) = (c, ct 0, f1)
            rw [k3]
          | succ j => exact k8 j (by simpa using hj)
theorem okPairs_spec {fs : List (Nat × Nat × Log)} : ∀ {ps : List (Nat × Nat)}, okPairs fs ps = true → ∀ p ∈ ps, apartR (nthL p.1 fs) (nthL p.2 fs) = true
  | [], _, p, hp => by cases hp
  | q :: ps, h, p, hp => by
    have h : ifB (apartR (nthL q.1 fs) (nthL q.2 fs)) (okPairs fs ps) false = true := h
    cases hq : apartR (nthL q.1 fs) (nthL q.2 fs) with
    | false => rw [hq] at h; cases h
    | true =>
      rw [hq] at h
      rcases List.mem_cons.1 hp with rfl | hp
      · exact hq
      · exact okPairs_spec h p hp
theorem apart1_spec {q : Nat × Option Nat × Bool} : ∀ {l : Log}, apart1 q l = true → ∀ p ∈ l, clash q p = false
  | [], _, p, hp => by cases hp
  | a :: l, h, p, hp => by
    have h : ifB (clash q a) false (apart1 q l) = true := h
    cases hq : clash q a with
    | true => rw [hq] at h; cases h
    | false =>
      rw [hq] at h
      rcases List.mem_cons.1 hp with rfl | hp
      · exact hq
      · exact apart1_spec h p hp
theorem apartL_spec {l : Log} : ∀ {k : Log}, apartL k l = true → ∀ q ∈ k, ∀ p ∈ l, clash q p = false
  | [], _, q, hq => by cases hq
  | a :: k, h, q, hq => by
    have h : ifB (apart1 a l) (apartL k l) false = true := h
    cases ha : apart1 a l with
    | false => rw [ha] at h; cases h
    | true =>
      rw [ha] at h
      rcases List.mem_cons.1 hq with rfl | hq
      · exact apart1_spec ha
      · exact apartL_spec h q hq
theorem outL_spec {lo hi : Nat} : ∀ {l : Log}, outL lo hi l = true → ∀ q ∈ l, q.1 < lo ∨ hi ≤ q.1
  | [], _, q, hq => by cases hq
  | a :: l, h, q, hq => by
    have h : ifB (ifB (Nat.blt a.1 lo) true (Nat.ble hi a.1)) (outL lo hi l) false = true := h
    cases ha : ifB (Nat.blt a.1 lo) true (Nat.ble hi a.1) with
    | false => rw [ha] at h; cases h
    | true =>
      rw [ha] at h
      rcases List.mem_cons.1 hq with rfl | hq
      · cases hb : Nat.blt q.1 lo with
        | true => rw [blt_dec] at hb; exact .inl (of_decide_eq_true hb)
        | false => rw [hb] at ha; exact .inr (Nat.le_of_ble_eq_true ha)
      · exact outL_spec h q hq
theorem clash_no {n : Nat} {x y : Option Nat} {a b : Bool} (h : clash (n, x, a) (n, y, b) = false) (hab : a = true ∨ b = true) : ∃ i j, x = some i ∧ y = some j ∧ i ≠ j := by
  have h : ifB (Nat.beq n n) (ifB (ifB a true b) (meets x y) false) false = false := h
  rw [Nat.beq_refl, ifB_true] at h
  have h : ifB (ifB a true b) (meets x y) false = false := h
  have hw : ifB a true b = true := by rcases hab with h1 | h1 <;> rw [h1] <;> first | rfl | (cases a <;> rfl)
  rw [hw, ifB_true] at h
  cases x with
  | none => cases h
  | some i =>
    cases y with
    | none => cases h
    | some j =>
      refine ⟨i, j, rfl, rfl, fun e => ?_⟩
      subst e
      have h : Nat.beq i i = false := h
      rw [Nat.beq_refl] at h
      cases h
theorem apart_tou {k l : Log} (h : apartL k l = true) {n : Nat} {x : Option Nat} (hk : Tou k n x) : ¬ Wri l n x := fun hl => by
  have key : ∀ (a : Bool) (y z : Option Nat), (n, y, a) ∈ k → (n, z, true) ∈ l → (y = none ∨ z = none ∨ y = z) → False := fun a y z h1 h2 h3 => by
    obtain ⟨i, j, rfl, rfl, hij⟩ := clash_no (apartL_spec h _ h1 _ h2) (.inr rfl)
    rcases h3 with h3 | h3 | h3
    · cases h3
    · cases h3
    · cases h3; exact hij rfl
  obtain ⟨a, hk⟩ := hk
  rcases hk with hk | ⟨i, rfl, hk⟩
  · rcases hl with hl | ⟨j, h3, hl⟩
    · exact key a _ _ hk hl (.inl rfl)
    · exact key a _ _ hk hl (.inl rfl)
  · rcases hl with hl | ⟨j, h3, hl⟩
    · exact key a _ _ hk hl (.inr (.inl rfl))
    · exact key a _ _ hk hl (.inr (.inr h3))
theorem apart_wri {k l : Log} (h : apartL k l = true) {n : Nat} {x : Option Nat} (hk : Wri k n x) : ¬ Tou l n x := fun hl => by
  have key : ∀ (b : Bool) (y z : Option Nat), (n, y, true) ∈ k → (n, z, b) ∈ l → (y = none ∨ z = none ∨ y = z) → False := fun b y z h1 h2 h3 => by
    obtain ⟨i, j, rfl, rfl, hij⟩ := clash_no (apartL_spec h _ h1 _ h2) (.inl rfl)
    rcases h3 with h3 | h3 | h3
    · cases h3
    · cases h3
    · cases h3; exact hij rfl
  obtain ⟨b, hl⟩ := hl
  rcases hk with hk | ⟨i, rfl, hk⟩
  · rcases hl with hl | ⟨j, h3, hl⟩
    · exact key b _ _ hk hl (.inl rfl)
    · exact key b _ _ hk hl (.inl rfl)
  · rcases hl with hl | ⟨j, h3, hl⟩
    · exact key b _ _ hk hl (.inr (.inl rfl))
    · exact key b _ _ hk hl (.inr (.inr h3))
end
end Go.Sx
