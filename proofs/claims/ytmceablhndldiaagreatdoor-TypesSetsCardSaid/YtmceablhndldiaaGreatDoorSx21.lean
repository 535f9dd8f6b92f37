/-
  What a symbolic call says of the call.
-/
import Derived.Test.YtmceablhndldiaaGreatDoorSx19
import Derived.Recover
namespace Go.Sx
open Go.RowKit

section
variable {P : Program}
def DrawOk (P : Program) : Prop := ∀ (call : Ctx), CallOk P call → CtxLo call → ∀ n id ops ps, P.follows .mixedOrders = true → pairsOf ops = some ps → CodeOk P n call (.region id ops true) (cRegionD ps (mapL (cIt P n ops) ops.toList))
theorem cCode_ok (hdraw : DrawOk P) {call : Ctx} (hcall : CallOk P call) (hlo : CtxLo call) {n : Nat} : ∀ (code : Code) (f : CodeE), cCode P n code = .mk f → CodeOk P n call code f
  | .skip, f, h => by cases h; exact code_skip
  | .region id ops d, f, h => by
    cases d with
    | false => cases h; exact code_plain hcall hlo
    | true =>
      have h : ifB (P.follows .mixedOrders) (ifS (.mk cBad) (fun ps => .mk (cRegionD ps (mapL (cIt P n ops) ops.toList))) (pairsOf ops)) (.mk cBad) = Box.mk f := h
      cases hm : P.follows .mixedOrders with
      | false => rw [hm] at h; cases h; exact code_bad
      | true =>
        rw [hm, ifB_true] at h
        cases hp : pairsOf ops with
        | none => rw [hp] at h; cases h; exact code_bad
        | some ps => rw [hp] at h; cases h; exact hdraw call hcall hlo n id ops ps hm hp
  | .seq a b, f, h => by
    cases ha : cCode P n a with
    | mk fa =>
      cases hb : cCode P n b with
      | mk fb =>
        have h : Box.rn (fun f => Box.rn (fun g => Box.mk (cSeq f g)) (cCode P n b)) (cCode P n a) = Box.mk f := h
        rw [ha, hb] at h
        cases h
        exact code_seq (cCode_ok hdraw hcall hlo a fa ha) (cCode_ok hdraw hcall hlo b fb hb)
  | .cond o a b, f, h => by
    cases ha : cCode P n a with
    | mk fa =>
      cases hb : cCode P n b with
      | mk fb =>
        have h : ifS (.mk cBad) (fun x => Box.rn (fun f => Box.rn (fun g => Box.mk (cCond x f g)) (cCode P n b)) (cCode P n a)) (cOpd o) = Box.mk f := h
        rw [ha, hb] at h
        cases ho : cOpd o with
        | none => rw [ho] at h; cases h; exact code_bad
        | some x => rw [ho] at h; cases h; exact code_cond ho (cCode_ok hdraw hcall hlo a fa ha) (cCode_ok hdraw hcall hlo b fb hb)
  | .block id a, f, h => by
    cases ha : cCode P n a with
    | mk fa =>
      have h : Box.rn (fun f => Box.mk (cBlock id f)) (cCode P n a) = Box.mk f := h
      rw [ha] at h
      cases h
      exact code_block (cCode_ok hdraw hcall hlo a fa ha)
  | .loop a, f, h => by
    cases ha : cCode P n a with
    | mk fa =>
      have h : Box.rn (fun f => Box.mk (cLoop f)) (cCode P n a) = Box.mk f := h
      rw [ha] at h
      cases h
      exact code_loop (cCode_ok hdraw hcall hlo a fa ha)
  | .rangeFunc _ _ _ _, f, h => by cases h; exact code_bad
  | .exit id, f, h => by cases h; exact code_exit
  | .scope a, f, h => code_scope (cCode_ok hdraw hcall hlo a f h)
  | .label _, f, h => by cases h; exact code_label
  | .goto _, f, h => by cases h; exact code_bad
  | .ret, f, h => by cases h; exact code_ret
  | .refuse _, f, h => by cases h; exact code_bad
theorem fillT_get : ∀ (l : List AV) (t : T AV) (i k : Nat), (fillT l t i).get k = if i ≤ k ∧ k < i + l.length then l[k - i]? else t.get k
  | [], t, i, k => by
    rw [if_neg (by simp only [List.length_nil]; omega)]
    rfl
  | v :: l, t, i, k => by
    show (fillT l (t.set i (some v)) (i + 1)).get k = _
    rw [fillT_get l _ (i + 1) k, T.get_set]
    simp only [List.length_cons]
    by_cases hk : k = i
    · subst hk
      rw [if_neg (by omega), if_pos rfl, if_pos (by omega), Nat.sub_self]
      rfl
    · by_cases h2 : i + 1 ≤ k ∧ k < i + 1 + l.length
      · rw [if_pos h2, if_pos (by omega), show k - i = (k - (i + 1)) + 1 by omega]
        rfl
      · rw [if_neg h2, if_neg hk, if_neg (by omega)]
theorem enter_env {ρ : Ren} {args : List AV} {xs : Array Value} (h : VRs ρ args xs.toList) (n : Nat) : StR ρ n ⟨.base (fillT args .leaf 0), []⟩ { tmps := xs ++ Array.replicate (n - xs.size) undef, defers := [] } := by
  have hlen := h.length
  rw [Array.length_toList] at hlen
  refine ⟨fun t => ?_, by simp; omega, rfl⟩
  show VR ρ (ifS undefA (fun v => v) ((fillT args .leaf 0).get t)) _
  rw [fillT_get, T.get_leaf]
  by_cases ht : t < args.length
  · rw [if_pos (by omega), Nat.sub_zero]
    have hg : args[t]? = some args[t] := List.getElem?_eq_getElem ht
    obtain ⟨v, hv, hV⟩ := h.get hg
    rw [hg]
    rw [Array.getElem?_toList] at hv
    have : (xs ++ Array.replicate (n - xs.size) undef).getD t undef = v := by
      rw [Array.getD_eq_getD_getElem?, Array.getElem?_append_left (by omega), hv]
      rfl
    rw [this]
    exact hV
  · rw [if_neg (by omega)]
    have : (xs ++ Array.replicate (n - xs.size) undef).getD t undef = undef := by
      rw [Array.getD_eq_getD_getElem?, Array.getElem?_append_right (by omega)]
      cases hh : (Array.replicate (n - xs.size) undef)[t - xs.size]? with
      | none => rfl
      | some v =>
        obtain ⟨_, hv⟩ := Array.getElem?_eq_some_iff.1 hh
        rw [Array.getElem_replicate] at hv
        exact hv.symm
    rw [this]
    exact VR.undefA ρ
theorem Post.of_below {ρ : Ren} {h : H} {w w' : World} {c : Nat} (r : Rel ρ h w) (b : Below w.heap.size w w') : Post ρ h w c c ρ h w' := by
  refine ⟨⟨fun n o e => ?_, r.alone⟩, fun _ _ => rfl, b.os, b.tape, b.output, b.size, fun k hk _ => b.block k hk, fun n o k s e f _ => ⟨n, o, s, e, f⟩⟩
  obtain ⟨k, s, f, g⟩ := r.lies n o e
  exact ⟨k, s, f, OR.mono (Ren.le_refl ρ) (b.block k g.lt) g⟩
theorem keep_mem {c : Nat} : ∀ {l : Log} {q : Nat × Option Nat × Bool}, q ∈ keep c l ↔ q ∈ l ∧ q.1 < c
  | [], q => by
    constructor
    · intro h; cases h
    · rintro ⟨h, _⟩; cases h
  | p :: l, q => by
    show q ∈ ifB (Nat.blt p.1 c) (p :: keep c l) (keep c l) ↔ _
    cases hb : Nat.blt p.1 c with
    | true =>
      rw [blt_dec] at hb
      have hb := of_decide_eq_true hb
      rw [ifB_true, List.mem_cons, keep_mem, List.mem_cons]
      constructor
      · rintro (rfl | ⟨h1, h2⟩)
        · exact ⟨.inl rfl, hb⟩
        · exact ⟨.inr h1, h2⟩
      · rintro ⟨rfl | h1, h2⟩
        · exact .inl rfl
        · exact .inr ⟨h1, h2⟩
    | false =>
      rw [blt_dec] at hb
      have hb := of_decide_eq_false hb
      rw [ifB_false, keep_mem, List.mem_cons]
      constructor
      · rintro ⟨h1, h2⟩; exact ⟨.inr h1, h2⟩
      · rintro ⟨rfl | h1, h2⟩
        · exact absurd h2 hb
        · exact ⟨h1, h2⟩
theorem dropPriv_ok {α : Type} {m : M α} {c c' : Nat} {h h' : H} {a : α} {l : Log} (e : dropPriv m c h = .ok a c' h' l) : ∃ l0, m c h = .ok a c' h' l0 ∧ l = keep c l0 := by
  have e : Rs.rec (motive := fun _ => Rs α) .fail (fun a c1 h1 l => .ok a c1 h1 (keep c l)) (m c h) = Rs.ok a c' h' l := e
  cases q : m c h with
  | fail => rw [q] at e; cases e
  | ok a1 c1 h1 l1 => rw [q] at e; cases e; exact ⟨l1, rfl, rfl⟩
theorem Lo.dropPriv {α : Type} {m : M α} (hm : Lo m) : Lo (dropPriv m) := by
  intro c h a c' h' l e
  obtain ⟨l0, e0, rfl⟩ := dropPriv_ok e
  obtain ⟨p1, p3, p4, p5⟩ := hm c h a c' h' l0 e0
  have hW : ∀ n x, WriC (keep c l0) c c' n x ↔ WriC l0 c c' n x := fun n x => by
    constructor
    · rintro (h | h | ⟨i, h1, h2⟩)
      · exact .inl h
      · exact .inr (.inl (keep_mem.1 h).1)
      · exact .inr (.inr ⟨i, h1, (keep_mem.1 h2).1⟩)
    · rintro (h | h | ⟨i, h1, h2⟩)
      · exact .inl h
      · rcases Nat.lt_or_ge n c with hh | hh
        · exact .inr (.inl (keep_mem.2 ⟨h, hh⟩))
        · exact .inl ⟨hh, p3 _ h⟩
      · rcases Nat.lt_or_ge n c with hh | hh
        · exact .inr (.inr ⟨i, h1, keep_mem.2 ⟨h2, hh⟩⟩)
        · exact .inl ⟨hh, p3 _ h2⟩
  have hT : ∀ n x, TouC l0 c c' n x → TouC (keep c l0) c c' n x := fun n x h => by
    rcases h with h | ⟨b, h | ⟨i, h1, h2⟩⟩
    · exact .inl h
    · rcases Nat.lt_or_ge n c with hh | hh
      · exact .inr ⟨b, .inl (keep_mem.2 ⟨h, hh⟩)⟩
      · exact .inl ⟨hh, p3 _ h⟩
    · rcases Nat.lt_or_ge n c with hh | hh
      · exact .inr ⟨b, .inr ⟨i, h1, keep_mem.2 ⟨h2, hh⟩⟩⟩
      · exact .inl ⟨hh, p3 _ h2⟩
  refine ⟨p1, fun q hq => p3 q (keep_mem.1 hq).1, fun n x hn => p4 n x fun h => hn ((hW n x).2 h), fun g hg => ?_⟩
  obtain ⟨g', k1, k2, k3⟩ := p5 g fun n x h => hg n x (hT n x h)
  refine ⟨g', ?_, fun n x h => k2 n x ((hW n x).1 h), fun n x h => k3 n x fun hh => h ((hW n x).2 hh)⟩
  show Rs.rec (motive := fun _ => Rs α) .fail (fun a c1 h1 l => .ok a c1 h1 (keep c l)) (m c g) = _
  rw [k1]
end
end Go.Sx
