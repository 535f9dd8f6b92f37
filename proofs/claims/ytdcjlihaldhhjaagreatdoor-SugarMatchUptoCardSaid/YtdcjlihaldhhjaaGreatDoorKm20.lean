import Derived.Maps.OwnSet
import Derived.StringKeys
import Derived.Test.YtdcjlihaldhhjaaGreatDoorKm17
namespace Go.Proofs.YtdcjlihaldhhjaaGreatDoor
open _root_.Go.Proofs.Tryz
open Go.RowKit
open Go.ChangeMaps Go.MapKept
open Go.Maps
theorem cx {X : Type} {l : List X} {k : Nat} {x : X} (h : l[k]? = some x) : l.drop k = x :: l.drop (k + 1) := by
 obtain ⟨hk, rfl⟩ := List.getElem?_eq_some_iff.1 h; exact List.drop_eq_getElem_cons hk
theorem oN : Keyed prog 9 := string_keyed underlying9
theorem fe {s : Tx} (h : s.length <= maxLen) : keyOf prog 9 (.string (str s)) = some (.string (str s).data.toList) := Go.WideMaps.keyOf_string_mk underlying9 (by rw [fS]; exact h)
def aL (w : World) (b : Nat) (l : List (Tx × Value)) : Prop :=
 ∃ es clock, w.heap[b]? = some (.map es clock) /\ es.toList.map (λ e => (e.key, e.val)) = l.map (λ p => (Value.string (str p.1), p.2)) /\ (l.map Prod.fst).Nodup /\ (∀ p ∈ l, p.1.length <= maxLen) /\ Stamped es clock
theorem aL.made (w : World) : aL (w.alloc (.map #[] 0)) w.heap.size [] := ⟨#[], 0, heap_alloc_new w _, rfl, by simp, by simp, stamped_empty 0⟩
theorem aL.lt {w : World} {b : Nat} {l : List (Tx × Value)} (h : aL w b l) : b < w.heap.size := by
 obtain ⟨es, clock, hb, _⟩ := h; exact ar hb
theorem aL.block {w w' : World} {b : Nat} {l : List (Tx × Value)} (h : aL w b l) (hk : w'.heap[b]? = w.heap[b]?) : aL w' b l := by
 obtain ⟨es, clock, hb, hr⟩ := h; exact ⟨es, clock, hk.trans hb, hr⟩
theorem aL.under {w w' : World} {b : Nat} {l : List (Tx × Value)} (h : aL w b l) (hb : Below w.heap.size w w') : aL w' b l := h.block (hb.block b h.lt)
theorem im {es : Array MapEntry} {l : List (Tx × Value)} (he : es.toList.map (λ e => (e.key, e.val)) = l.map (λ p => (Value.string (str p.1), p.2))) {e : MapEntry} (h : e ∈ es.toList) : ∃ p ∈ l, e.key = .string (str p.1) /\ e.val = p.2 := by
 have : (e.key, e.val) ∈ l.map (λ p => (Value.string (str p.1), p.2)) := by rw [<- he]; exact List.mem_map.2 ⟨e, h, rfl⟩
 obtain ⟨p, hp, hq⟩ := List.mem_map.1 this; simp only [Prod.mk.injEq] at hq; exact ⟨p, hp, hq.1.symm, hq.2.symm⟩
theorem Dm {es : Array MapEntry} {l : List (Tx × Value)} (he : es.toList.map (λ e => (e.key, e.val)) = l.map (λ p => (Value.string (str p.1), p.2))) {p : Tx × Value} (h : p ∈ l) : ∃ e ∈ es.toList, e.key = .string (str p.1) /\ e.val = p.2 := by
 have : (Value.string (str p.1), p.2) ∈ es.toList.map (λ e => (e.key, e.val)) := by rw [he]; exact List.mem_map.2 ⟨p, h, rfl⟩
 obtain ⟨e, h1, hq⟩ := List.mem_map.1 this; simp only [Prod.mk.injEq] at hq; exact ⟨e, h1, hq.1, hq.2⟩
theorem nT {a b : Tx} (h : Value.string (str a) = .string (str b)) : a = b := CJ.1 (by injection h)
theorem yw {l : List (Tx × Value)} (h : (l.map Prod.fst).Nodup) {p q : Tx × Value} (hp : p ∈ l) (hq : q ∈ l) (he : p.1 = q.1) : p = q := by
 induction l with
 | nil => cases hp
 | cons x r ih =>
   rw [List.map_cons, List.nodup_cons] at h; rcases List.mem_cons.1 hp with hp' | hp' <;> rcases List.mem_cons.1 hq with hq' | hq'
   . rw [hp', hq']
   . exact absurd (by rw [<- hp', he]; exact List.mem_map_of_mem hq') h.1
   . exact absurd (by rw [<- hq', <- he]; exact List.mem_map_of_mem hp') h.1
   . exact ih h.2 hp' hq'
section
variable {w : World} {b : Nat} {l : List (Tx × Value)} {t e : TypeId}
theorem aL.look_no (h : aL w b l) (ht : prog.underlying t = some (.map 9 e)) {z : Value} (hz : (zeroValue e).run prog w = .ok z w) {s : Tx} (hs : s.length <= maxLen) (hn : s ∉ l.map Prod.fst) :
  (Instr.lookup t (.map (some b)) (.string (str s)) true).run prog w = .ok (.tuple #[z, .bool false]) w := by
 obtain ⟨es, clock, hb, he, hd, hk, _⟩ := h; have hkeys : ∀ x ∈ es.toList, ∃ l, keyOf prog 9 x.key = some l := λ x hx => by
  obtain ⟨p, hp, h1, _⟩ := im he hx; exact ⟨_, by rw [h1]; exact fe (hk p hp)⟩
 rcases oN.find w (fe hs) es.toList hkeys with ⟨h1, h2⟩ | ⟨j, e0, h1, h2, h3⟩
 . simp [Instr.lookup, run_underlying ht, MapKept.run_getObj_map hb, oN.check w _ (fe hs), h1, hz, Result.andThen]
 . obtain ⟨p, hp, h4, _⟩ := im he (List.mem_of_getElem? h2); rw [h3] at h4; exact absurd (by rw [nT h4]; exact List.mem_map_of_mem hp) hn
theorem aL.look_yes (h : aL w b l) (ht : prog.underlying t = some (.map 9 e)) {s : Tx} {v : Value} (hs : (s, v) ∈ l) :
  (Instr.lookup t (.map (some b)) (.string (str s)) true).run prog w = .ok (.tuple #[v, .bool true]) w := by
 obtain ⟨es, clock, hb, he, hd, hk, _⟩ := h; have hl := hk _ hs; have hkeys : ∀ x ∈ es.toList, ∃ l, keyOf prog 9 x.key = some l := λ x hx => by
  obtain ⟨p, hp, h1, _⟩ := im he hx; exact ⟨_, by rw [h1]; exact fe (hk p hp)⟩
 rcases oN.find w (fe hl) es.toList hkeys with ⟨h1, h2⟩ | ⟨j, e0, h1, h2, h3⟩
 . obtain ⟨x, hx, h4, _⟩ := Dm he hs; exact absurd h4 (h2 x hx)
 . obtain ⟨p, hp, h4, h5⟩ := im he (List.mem_of_getElem? h2); rw [h3] at h4; have := yw hd hs hp (nT h4); have hv : e0.val = v := (by rw [h5, <- this]); simp [Instr.lookup, run_underlying ht, MapKept.run_getObj_map hb, oN.check w _ (fe hl), h1, hv, Result.andThen]
theorem aL.put (h : aL w b l) (ht : prog.underlying t = some (.map 9 e)) {s : Tx} {v : Value} (hs : s.length <= maxLen) (hn : s ∉ l.map Prod.fst) :
  ∃ w', (Instr.mapUpdate t (.map (some b)) (.string (str s)) v).run prog w = .ok () w' /\ aL w' b (l ++ [(s, v)]) /\ w.grownBy w' (some b) := by
 obtain ⟨es, clock, hb, he, hd, hk, hst⟩ := h; have hkeys : ∀ x ∈ es.toList, ∃ l, keyOf prog 9 x.key = some l := λ x hx => by
  obtain ⟨p, hp, h1, _⟩ := im he hx; exact ⟨_, by rw [h1]; exact fe (hk p hp)⟩
 rcases oN.find w (fe hs) es.toList hkeys with ⟨h1, h2⟩ | ⟨j, e0, h1, h2, h3⟩
 . refine ⟨setBlock w b (.map (es.push ⟨.string (str s), v, clock⟩) (clock + 1)), ?_, ⟨es.push ⟨.string (str s), v, clock⟩, clock + 1, heap_setBlock_same hb _, by simp [he], ?_, ?_, stamped_push hst h2⟩, ⟨rfl, rfl, rfl, by simp [setBlock], λ i _ hi => heap_setBlock_other hb _ (λ e => hi (by rw [e]))⟩⟩
   . simp [Instr.mapUpdate, run_underlying ht, MapKept.run_getObj_map hb, oN.check w false (fe hs), h1, MapKept.run_setObj_map _ hb, Result.andThen, setBlock]
   . rw [List.map_append, List.nodup_append]; refine ⟨hd, by simp, ?_⟩; intro a ha c hc; simp at hc; subst hc; intro e; subst e; exact hn ha
   . intro p hp; rcases List.mem_append.1 hp with hp | hp
     . exact hk p hp
     . simp at hp; subst hp; exact hs
 . obtain ⟨p, hp, h4, _⟩ := im he (List.mem_of_getElem? h2); rw [h3] at h4; exact absurd (by rw [nT h4]; exact List.mem_map_of_mem hp) hn
end
theorem gY (w : World) {ops : Array Oper} {rest : List Oper} {o : Oper} {a : Act} {Q : Exit -> Act -> World -> Prop} (hg : o.guard = none) (m x y : Operand) (t : TypeId) (hop : o.op = Op.mapUpdate t m x y)
  {e : TypeId} (ht : prog.underlying t = some (.map 9 e)) {b : Nat} {l : List (Tx × Value)} {s : Tx} {v : Value} (hm : a.eval m = .map (some b)) (hx : a.eval x = .string (str s)) (hv : a.eval y = v) (h : aL w b l) (hs : s.length <= maxLen) (hn : s ∉ l.map Prod.fst)
  (hK : ∀ w', aL w' b (l ++ [(s, v)]) -> w.grownBy w' (some b) -> wpList prog ops Q rest (a.put o.dst undef) w') : wpList prog ops Q (o :: rest) a w := by
 refine wpList_plain hg λ K' hK' => ?_; obtain ⟨w', hrun, r1, r2⟩ := h.put (v := v) ht hs hn; unfold Oper.wp; simp [execOp, hop, hm, hx, hv, hrun, Result.andThen]; exact hK' _ _ (hK w' r1 r2)
end Go.Proofs.YtdcjlihaldhhjaaGreatDoor
