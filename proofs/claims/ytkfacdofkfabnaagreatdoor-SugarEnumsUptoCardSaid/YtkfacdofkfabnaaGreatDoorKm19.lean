import Derived.Maps.OwnSet
import Derived.StringKeys
import Derived.Test.YtkfacdofkfabnaaGreatDoorKm16
namespace Go.Proofs.YtkfacdofkfabnaaGreatDoor
open _root_.Go.Proofs.Tryz
open Go.RowKit
open Go.ChangeMaps Go.MapKept
open Go.Maps
theorem cU {X : Type} {l : List X} {k : Nat} {x : X} (h : l[k]? = some x) : l.drop k = x :: l.drop (k + 1) := by
 obtain ⟨hk, rfl⟩ := List.getElem?_eq_some_iff.1 h; exact List.drop_eq_getElem_cons hk
theorem qo : Keyed prog 9 := string_keyed underlying9
theorem fS {s : Tx} (h : s.length <= maxLen) : keyOf prog 9 (.string (str s)) = some (.string (str s).data.toList) := Go.WideMaps.keyOf_string_mk underlying9 (by rw [fX]; exact h)
def aP (w : World) (b : Nat) (l : List (Tx × Value)) : Prop :=
 ∃ es clock, w.heap[b]? = some (.map es clock) /\ es.toList.map (λ e => (e.key, e.val)) = l.map (λ p => (Value.string (str p.1), p.2)) /\ (l.map Prod.fst).Nodup /\ (∀ p ∈ l, p.1.length <= maxLen) /\ Stamped es clock
theorem aP.made (w : World) : aP (w.alloc (.map #[] 0)) w.heap.size [] := ⟨#[], 0, heap_alloc_new w _, rfl, by simp, by simp, stamped_empty 0⟩
theorem aP.lt {w : World} {b : Nat} {l : List (Tx × Value)} (h : aP w b l) : b < w.heap.size := by
 obtain ⟨es, clock, hb, _⟩ := h; exact ak hb
theorem aP.block {w w' : World} {b : Nat} {l : List (Tx × Value)} (h : aP w b l) (hk : w'.heap[b]? = w.heap[b]?) : aP w' b l := by
 obtain ⟨es, clock, hb, hr⟩ := h; exact ⟨es, clock, hk.trans hb, hr⟩
theorem aP.under {w w' : World} {b : Nat} {l : List (Tx × Value)} (h : aP w b l) (hb : Below w.heap.size w w') : aP w' b l := h.block (hb.block b h.lt)
theorem jo {es : Array MapEntry} {l : List (Tx × Value)} (he : es.toList.map (λ e => (e.key, e.val)) = l.map (λ p => (Value.string (str p.1), p.2))) {e : MapEntry} (h : e ∈ es.toList) : ∃ p ∈ l, e.key = .string (str p.1) /\ e.val = p.2 := by
 have : (e.key, e.val) ∈ l.map (λ p => (Value.string (str p.1), p.2)) := by rw [<- he]; exact List.mem_map.2 ⟨e, h, rfl⟩
 obtain ⟨p, hp, hq⟩ := List.mem_map.1 this; simp only [Prod.mk.injEq] at hq; exact ⟨p, hp, hq.1.symm, hq.2.symm⟩
theorem GI {es : Array MapEntry} {l : List (Tx × Value)} (he : es.toList.map (λ e => (e.key, e.val)) = l.map (λ p => (Value.string (str p.1), p.2))) {p : Tx × Value} (h : p ∈ l) : ∃ e ∈ es.toList, e.key = .string (str p.1) /\ e.val = p.2 := by
 have : (Value.string (str p.1), p.2) ∈ es.toList.map (λ e => (e.key, e.val)) := by rw [he]; exact List.mem_map.2 ⟨p, h, rfl⟩
 obtain ⟨e, h1, hq⟩ := List.mem_map.1 this; simp only [Prod.mk.injEq] at hq; exact ⟨e, h1, hq.1, hq.2⟩
theorem pH {a b : Tx} (h : Value.string (str a) = .string (str b)) : a = b := FZ.1 (by injection h)
theorem BT {l : List (Tx × Value)} (h : (l.map Prod.fst).Nodup) {p q : Tx × Value} (hp : p ∈ l) (hq : q ∈ l) (he : p.1 = q.1) : p = q := by
 induction l with
 | nil => cases hp
 | cons x r ih =>
   rw [List.map_cons, List.nodup_cons] at h; rcases List.mem_cons.1 hp with hp' | hp' <;> rcases List.mem_cons.1 hq with hq' | hq'
   . rw [hp', hq']
   . exact absurd (by rw [<- hp', he]; exact List.mem_map_of_mem hq') h.1
   . exact absurd (by rw [<- hq', <- he]; exact List.mem_map_of_mem hp') h.1
   . exact ih h.2 hp' hq'
section
variable {w : World} {b : Nat} {l : List (Tx × Value)} {t e : TypeId}
theorem aP.look_no (h : aP w b l) (ht : prog.underlying t = some (.map 9 e)) {z : Value} (hz : (zeroValue e).run prog w = .ok z w) {s : Tx} (hs : s.length <= maxLen) (hn : s ∉ l.map Prod.fst) :
  (Instr.lookup t (.map (some b)) (.string (str s)) true).run prog w = .ok (.tuple #[z, .bool false]) w := by
 obtain ⟨es, clock, hb, he, hd, hk, _⟩ := h; have hkeys : ∀ x ∈ es.toList, ∃ l, keyOf prog 9 x.key = some l := λ x hx => by
  obtain ⟨p, hp, h1, _⟩ := jo he hx; exact ⟨_, by rw [h1]; exact fS (hk p hp)⟩
 rcases qo.find w (fS hs) es.toList hkeys with ⟨h1, h2⟩ | ⟨j, e0, h1, h2, h3⟩
 . simp [Instr.lookup, run_underlying ht, MapKept.run_getObj_map hb, qo.check w _ (fS hs), h1, hz, Result.andThen]
 . obtain ⟨p, hp, h4, _⟩ := jo he (List.mem_of_getElem? h2); rw [h3] at h4; exact absurd (by rw [pH h4]; exact List.mem_map_of_mem hp) hn
theorem aP.look_yes (h : aP w b l) (ht : prog.underlying t = some (.map 9 e)) {s : Tx} {v : Value} (hs : (s, v) ∈ l) :
  (Instr.lookup t (.map (some b)) (.string (str s)) true).run prog w = .ok (.tuple #[v, .bool true]) w := by
 obtain ⟨es, clock, hb, he, hd, hk, _⟩ := h; have hl := hk _ hs; have hkeys : ∀ x ∈ es.toList, ∃ l, keyOf prog 9 x.key = some l := λ x hx => by
  obtain ⟨p, hp, h1, _⟩ := jo he hx; exact ⟨_, by rw [h1]; exact fS (hk p hp)⟩
 rcases qo.find w (fS hl) es.toList hkeys with ⟨h1, h2⟩ | ⟨j, e0, h1, h2, h3⟩
 . obtain ⟨x, hx, h4, _⟩ := GI he hs; exact absurd h4 (h2 x hx)
 . obtain ⟨p, hp, h4, h5⟩ := jo he (List.mem_of_getElem? h2); rw [h3] at h4; have := BT hd hs hp (pH h4); have hv : e0.val = v := (by rw [h5, <- this]); simp [Instr.lookup, run_underlying ht, MapKept.run_getObj_map hb, qo.check w _ (fS hl), h1, hv, Result.andThen]
theorem aP.put (h : aP w b l) (ht : prog.underlying t = some (.map 9 e)) {s : Tx} {v : Value} (hs : s.length <= maxLen) (hn : s ∉ l.map Prod.fst) :
  ∃ w', (Instr.mapUpdate t (.map (some b)) (.string (str s)) v).run prog w = .ok () w' /\ aP w' b (l ++ [(s, v)]) /\ w.grownBy w' (some b) := by
 obtain ⟨es, clock, hb, he, hd, hk, hst⟩ := h; have hkeys : ∀ x ∈ es.toList, ∃ l, keyOf prog 9 x.key = some l := λ x hx => by
  obtain ⟨p, hp, h1, _⟩ := jo he hx; exact ⟨_, by rw [h1]; exact fS (hk p hp)⟩
 rcases qo.find w (fS hs) es.toList hkeys with ⟨h1, h2⟩ | ⟨j, e0, h1, h2, h3⟩
 . refine ⟨setBlock w b (.map (es.push ⟨.string (str s), v, clock⟩) (clock + 1)), ?_, ⟨es.push ⟨.string (str s), v, clock⟩, clock + 1, heap_setBlock_same hb _, by simp [he], ?_, ?_, stamped_push hst h2⟩, ⟨rfl, rfl, rfl, by simp [setBlock], λ i _ hi => heap_setBlock_other hb _ (λ e => hi (by rw [e]))⟩⟩
   . simp [Instr.mapUpdate, run_underlying ht, MapKept.run_getObj_map hb, qo.check w false (fS hs), h1, MapKept.run_setObj_map _ hb, Result.andThen, setBlock]
   . rw [List.map_append, List.nodup_append]; refine ⟨hd, by simp, ?_⟩; intro a ha c hc; simp at hc; subst hc; intro e; subst e; exact hn ha
   . intro p hp; rcases List.mem_append.1 hp with hp | hp
     . exact hk p hp
     . simp at hp; subst hp; exact hs
 . obtain ⟨p, hp, h4, _⟩ := jo he (List.mem_of_getElem? h2); rw [h3] at h4; exact absurd (by rw [pH h4]; exact List.mem_map_of_mem hp) hn
end
theorem iZ (w : World) {ops : Array Oper} {rest : List Oper} {o : Oper} {a : Act} {Q : Exit -> Act -> World -> Prop} (hg : o.guard = none) (m x y : Operand) (t : TypeId) (hop : o.op = Op.mapUpdate t m x y)
  {e : TypeId} (ht : prog.underlying t = some (.map 9 e)) {b : Nat} {l : List (Tx × Value)} {s : Tx} {v : Value} (hm : a.eval m = .map (some b)) (hx : a.eval x = .string (str s)) (hv : a.eval y = v) (h : aP w b l) (hs : s.length <= maxLen) (hn : s ∉ l.map Prod.fst)
  (hK : ∀ w', aP w' b (l ++ [(s, v)]) -> w.grownBy w' (some b) -> wpList prog ops Q rest (a.put o.dst undef) w') : wpList prog ops Q (o :: rest) a w := by
 refine wpList_plain hg λ K' hK' => ?_; obtain ⟨w', hrun, r1, r2⟩ := h.put (v := v) ht hs hn; unfold Oper.wp; simp [execOp, hop, hm, hx, hv, hrun, Result.andThen]; exact hK' _ _ (hK w' r1 r2)
end Go.Proofs.YtkfacdofkfabnaaGreatDoor
