import Derived.Maps.Keyed
import Derived.Test.YtiholfmmphcbeaaGreatDoorKm18
namespace Go.Proofs.YtiholfmmphcbeaaGreatDoor
open _root_.Go.Proofs.Tryz
open Go.RowKit
open Go.ChangeMaps Go.MapKept
open Go.Maps
theorem eP {K : TypeId} (hK : prog.underlying K = some (.int .i64)) {a : Int} (h : (Lit.int .i64 a).wf = true) : keyOf prog K (.int .i64 a) = some (.int .i64 a) := keyOf_int_mk hK h
def aU (w : World) (b : Nat) (l : List (Int × Value)) : Prop :=
 ∃ es clock, w.heap[b]? = some (.map es clock) /\ es.toList.map (λ e => (e.key, e.val)) = l.map (λ p => (Value.int .i64 p.1, p.2)) /\ (l.map Prod.fst).Nodup /\ (∀ p ∈ l, (Lit.int .i64 p.1).wf = true) /\ Stamped es clock
theorem aU.made (w : World) : aU (w.alloc (.map #[] 0)) w.heap.size [] := ⟨#[], 0, heap_alloc_new w _, rfl, by simp, by simp, stamped_empty 0⟩
theorem aU.lt {w : World} {b : Nat} {l : List (Int × Value)} (h : aU w b l) : b < w.heap.size := by
 obtain ⟨es, clock, hb, _⟩ := h; exact ab hb
theorem aU.block {w w' : World} {b : Nat} {l : List (Int × Value)} (h : aU w b l) (hk : w'.heap[b]? = w.heap[b]?) : aU w' b l := by
 obtain ⟨es, clock, hb, hr⟩ := h; exact ⟨es, clock, hk.trans hb, hr⟩
theorem aU.under {w w' : World} {b : Nat} {l : List (Int × Value)} (h : aU w b l) (hb : Below w.heap.size w w') : aU w' b l := h.block (hb.block b h.lt)
theorem gf {es : Array MapEntry} {l : List (Int × Value)} (he : es.toList.map (λ e => (e.key, e.val)) = l.map (λ p => (Value.int .i64 p.1, p.2))) {e : MapEntry} (h : e ∈ es.toList) : ∃ p ∈ l, e.key = .int .i64 p.1 /\ e.val = p.2 := by
 have : (e.key, e.val) ∈ l.map (λ p => (Value.int .i64 p.1, p.2)) := by rw [<- he]; exact List.mem_map.2 ⟨e, h, rfl⟩
 obtain ⟨p, hp, hq⟩ := List.mem_map.1 this; simp only [Prod.mk.injEq] at hq; exact ⟨p, hp, hq.1.symm, hq.2.symm⟩
theorem vW {es : Array MapEntry} {l : List (Int × Value)} (he : es.toList.map (λ e => (e.key, e.val)) = l.map (λ p => (Value.int .i64 p.1, p.2))) {p : Int × Value} (h : p ∈ l) : ∃ e ∈ es.toList, e.key = .int .i64 p.1 /\ e.val = p.2 := by
 have : (Value.int .i64 p.1, p.2) ∈ es.toList.map (λ e => (e.key, e.val)) := by rw [he]; exact List.mem_map.2 ⟨p, h, rfl⟩
 obtain ⟨e, h1, hq⟩ := List.mem_map.1 this; simp only [Prod.mk.injEq] at hq; exact ⟨e, h1, hq.1, hq.2⟩
theorem mP {a b : Int} (h : Value.int .i64 a = .int .i64 b) : a = b := by injection h
theorem qm {l : List (Int × Value)} (h : (l.map Prod.fst).Nodup) {p q : Int × Value} (hp : p ∈ l) (hq : q ∈ l) (he : p.1 = q.1) : p = q := by
 induction l with
 | nil => cases hp
 | cons x r ih =>
   rw [List.map_cons, List.nodup_cons] at h; rcases List.mem_cons.1 hp with hp' | hp' <;> rcases List.mem_cons.1 hq with hq' | hq'
   . rw [hp', hq']
   . exact absurd (by rw [<- hp', he]; exact List.mem_map_of_mem hq') h.1
   . exact absurd (by rw [<- hq', <- he]; exact List.mem_map_of_mem hp') h.1
   . exact ih h.2 hp' hq'
section
variable {w : World} {b : Nat} {l : List (Int × Value)} {t e K : TypeId}
theorem aU.look_no (hK : prog.underlying K = some (.int .i64)) (h : aU w b l) (ht : prog.underlying t = some (.map K e)) {z : Value} (hz : (zeroValue e).run prog w = .ok z w) {s : Int} (hs : (Lit.int .i64 s).wf = true) (hn : s ∉ l.map Prod.fst) :
  (Instr.lookup t (.map (some b)) (.int .i64 s) true).run prog w = .ok (.tuple #[z, .bool false]) w := by
 obtain ⟨es, clock, hb, he, hd, hk, _⟩ := h; have hkeys : ∀ x ∈ es.toList, ∃ l, keyOf prog K x.key = some l := λ x hx => by
  obtain ⟨p, hp, h1, _⟩ := gf he hx; exact ⟨_, by rw [h1]; exact eP hK (hk p hp)⟩
 rcases (int_keyed hK).find w (eP hK hs) es.toList hkeys with ⟨h1, h2⟩ | ⟨j, e0, h1, h2, h3⟩
 . simp [Instr.lookup, run_underlying ht, MapKept.run_getObj_map hb, (int_keyed hK).check w _ (eP hK hs), h1, hz, Result.andThen]
 . obtain ⟨p, hp, h4, _⟩ := gf he (List.mem_of_getElem? h2); rw [h3] at h4; exact absurd (by rw [mP h4]; exact List.mem_map_of_mem hp) hn
theorem aU.look_yes (hK : prog.underlying K = some (.int .i64)) (h : aU w b l) (ht : prog.underlying t = some (.map K e)) {s : Int} {v : Value} (hs : (s, v) ∈ l) :
  (Instr.lookup t (.map (some b)) (.int .i64 s) true).run prog w = .ok (.tuple #[v, .bool true]) w := by
 obtain ⟨es, clock, hb, he, hd, hk, _⟩ := h; have hl := hk _ hs; have hkeys : ∀ x ∈ es.toList, ∃ l, keyOf prog K x.key = some l := λ x hx => by
  obtain ⟨p, hp, h1, _⟩ := gf he hx; exact ⟨_, by rw [h1]; exact eP hK (hk p hp)⟩
 rcases (int_keyed hK).find w (eP hK hl) es.toList hkeys with ⟨h1, h2⟩ | ⟨j, e0, h1, h2, h3⟩
 . obtain ⟨x, hx, h4, _⟩ := vW he hs; exact absurd h4 (h2 x hx)
 . obtain ⟨p, hp, h4, h5⟩ := gf he (List.mem_of_getElem? h2); rw [h3] at h4; have := qm hd hs hp (mP h4); have hv : e0.val = v := (by rw [h5, <- this]); simp [Instr.lookup, run_underlying ht, MapKept.run_getObj_map hb, (int_keyed hK).check w _ (eP hK hl), h1, hv, Result.andThen]
theorem aU.look_one (hK : prog.underlying K = some (.int .i64)) (h : aU w b l) (ht : prog.underlying t = some (.map K e)) {s : Int} {v : Value} (hs : (s, v) ∈ l) :
  (Instr.lookup t (.map (some b)) (.int .i64 s) false).run prog w = .ok v w := by
 obtain ⟨es, clock, hb, he, hd, hk, _⟩ := h; have hl := hk _ hs; have hkeys : ∀ x ∈ es.toList, ∃ l, keyOf prog K x.key = some l := λ x hx => by
  obtain ⟨p, hp, h1, _⟩ := gf he hx; exact ⟨_, by rw [h1]; exact eP hK (hk p hp)⟩
 rcases (int_keyed hK).find w (eP hK hl) es.toList hkeys with ⟨h1, h2⟩ | ⟨j, e0, h1, h2, h3⟩
 . obtain ⟨x, hx, h4, _⟩ := vW he hs; exact absurd h4 (h2 x hx)
 . obtain ⟨p, hp, h4, h5⟩ := gf he (List.mem_of_getElem? h2); rw [h3] at h4; have := qm hd hs hp (mP h4); have hv : e0.val = v := (by rw [h5, <- this]); simp [Instr.lookup, run_underlying ht, MapKept.run_getObj_map hb, (int_keyed hK).check w _ (eP hK hl), h1, hv, Result.andThen]
theorem aU.put (hK : prog.underlying K = some (.int .i64)) (h : aU w b l) (ht : prog.underlying t = some (.map K e)) {s : Int} {v : Value} (hs : (Lit.int .i64 s).wf = true) (hn : s ∉ l.map Prod.fst) :
  ∃ w', (Instr.mapUpdate t (.map (some b)) (.int .i64 s) v).run prog w = .ok () w' /\ aU w' b (l ++ [(s, v)]) /\ w.grownBy w' (some b) := by
 obtain ⟨es, clock, hb, he, hd, hk, hst⟩ := h; have hkeys : ∀ x ∈ es.toList, ∃ l, keyOf prog K x.key = some l := λ x hx => by
  obtain ⟨p, hp, h1, _⟩ := gf he hx; exact ⟨_, by rw [h1]; exact eP hK (hk p hp)⟩
 rcases (int_keyed hK).find w (eP hK hs) es.toList hkeys with ⟨h1, h2⟩ | ⟨j, e0, h1, h2, h3⟩
 . refine ⟨setBlock w b (.map (es.push ⟨.int .i64 s, v, clock⟩) (clock + 1)), ?_, ⟨es.push ⟨.int .i64 s, v, clock⟩, clock + 1, heap_setBlock_same hb _, by simp [he], ?_, ?_, stamped_push hst h2⟩, ⟨rfl, rfl, rfl, by simp [setBlock], λ i _ hi => heap_setBlock_other hb _ (λ e => hi (by rw [e]))⟩⟩
   . simp [Instr.mapUpdate, run_underlying ht, MapKept.run_getObj_map hb, (int_keyed hK).check w false (eP hK hs), h1, MapKept.run_setObj_map _ hb, Result.andThen, setBlock]
   . rw [List.map_append, List.nodup_append]; refine ⟨hd, by simp, ?_⟩; intro a ha c hc; simp at hc; subst hc; intro e; subst e; exact hn ha
   . intro p hp; rcases List.mem_append.1 hp with hp | hp
     . exact hk p hp
     . simp at hp; subst hp; exact hs
 . obtain ⟨p, hp, h4, _⟩ := gf he (List.mem_of_getElem? h2); rw [h3] at h4; exact absurd (by rw [mP h4]; exact List.mem_map_of_mem hp) hn
end
theorem nW {K : TypeId} (hKK : prog.underlying K = some (.int .i64)) (w : World) {ops : Array Oper} {rest : List Oper} {o : Oper} {a : Act} {Q : Exit -> Act -> World -> Prop} (hg : o.guard = none) (m x y : Operand) (t : TypeId) (hop : o.op = Op.mapUpdate t m x y)
  {e : TypeId} (ht : prog.underlying t = some (.map K e)) {b : Nat} {l : List (Int × Value)} {s : Int} {v : Value} (hm : a.eval m = .map (some b)) (hx : a.eval x = .int .i64 s) (hv : a.eval y = v) (h : aU w b l) (hs : (Lit.int .i64 s).wf = true) (hn : s ∉ l.map Prod.fst)
  (hK : ∀ w', aU w' b (l ++ [(s, v)]) -> w.grownBy w' (some b) -> wpList prog ops Q rest (a.put o.dst undef) w') : wpList prog ops Q (o :: rest) a w := by
 refine wpList_plain hg λ K' hK' => ?_; obtain ⟨w', hrun, r1, r2⟩ := h.put hKK (v := v) ht hs hn; unfold Oper.wp; simp [execOp, hop, hm, hx, hv, hrun, Result.andThen]; exact hK' _ _ (hK w' r1 r2)
section
variable {w : World} {b : Nat} {l : List (Tx × Value)} {t e : TypeId}
theorem ax.one_no (h : ax w b l) (ht : prog.underlying t = some (.map 9 e)) {z : Value} (hz : (zeroValue e).run prog w = .ok z w) {s : Tx} (hs : s.length <= maxLen) (hn : s ∉ l.map Prod.fst) :
  (Instr.lookup t (.map (some b)) (.string (str s)) false).run prog w = .ok z w := by
 obtain ⟨es, clock, hb, he, hd, hk, _⟩ := h; have hkeys : ∀ x ∈ es.toList, ∃ l, keyOf prog 9 x.key = some l := λ x hx => by
  obtain ⟨p, hp, h1, _⟩ := fy he hx; exact ⟨_, by rw [h1]; exact dh (hk p hp)⟩
 rcases lR.find w (dh hs) es.toList hkeys with ⟨h1, h2⟩ | ⟨j, e0, h1, h2, h3⟩
 . simp [Instr.lookup, run_underlying ht, MapKept.run_getObj_map hb, lR.check w _ (dh hs), h1, hz, Result.andThen]
 . obtain ⟨p, hp, h4, _⟩ := fy he (List.mem_of_getElem? h2); rw [h3] at h4; exact absurd (by rw [jO h4]; exact List.mem_map_of_mem hp) hn
theorem ax.one_yes (h : ax w b l) (ht : prog.underlying t = some (.map 9 e)) {s : Tx} {v : Value} (hs : (s, v) ∈ l) :
  (Instr.lookup t (.map (some b)) (.string (str s)) false).run prog w = .ok v w := by
 obtain ⟨es, clock, hb, he, hd, hk, _⟩ := h; have hl := hk _ hs; have hkeys : ∀ x ∈ es.toList, ∃ l, keyOf prog 9 x.key = some l := λ x hx => by
  obtain ⟨p, hp, h1, _⟩ := fy he hx; exact ⟨_, by rw [h1]; exact dh (hk p hp)⟩
 rcases lR.find w (dh hl) es.toList hkeys with ⟨h1, h2⟩ | ⟨j, e0, h1, h2, h3⟩
 . obtain ⟨x, hx, h4, _⟩ := zJ he hs; exact absurd h4 (h2 x hx)
 . obtain ⟨p, hp, h4, h5⟩ := fy he (List.mem_of_getElem? h2); rw [h3] at h4; have := sw hd hs hp (jO h4); have hv : e0.val = v := (by rw [h5, <- this]); simp [Instr.lookup, run_underlying ht, MapKept.run_getObj_map hb, lR.check w _ (dh hl), h1, hv, Result.andThen]
end
end Go.Proofs.YtiholfmmphcbeaaGreatDoor
