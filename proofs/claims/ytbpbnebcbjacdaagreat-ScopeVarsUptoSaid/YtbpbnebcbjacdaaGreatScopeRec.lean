/-
  Maps of the call's own whose keys are strings: what is kept under which name, in the order of its recording; looked up, recorded.
  known and record: whether a name is kept, and to keep a value under names that are not kept yet.
-/
import Derived.Test.YtbpbnebcbjacdaaGreatTreeFld
import Derived.Test.YtbpbnebcbjacdaaGreatTreeExprs
import Derived.Test.YtbpbnebcbjacdaaGreatTreeMade
import Derived.Test.YtbpbnebcbjacdaaGreatTreeSize
import Derived.Maps.OwnSet
import Derived.StringKeys
import Derived.Carry
import Derived.Test.YtbpbnebcbjacdaaGreatScopeSpec
namespace Go.Proofs.YtbpbnebcbjacdaaGreat
open Go.RowKit
open Go.ChangeMaps Go.MapKept
open Go.Maps

theorem drop_consS {X : Type} {l : List X} {k : Nat} {x : X} (h : l[k]? = some x) : l.drop k = x :: l.drop (k + 1) := by
  obtain ⟨hk, rfl⟩ := List.getElem?_eq_some_iff.1 h
  exact List.drop_eq_getElem_cons hk
theorem keyS : Keyed Tryz.prog 9 := string_keyed Tryz.underlying9
theorem key_str {s : Tx} (h : s.length ≤ maxLen) : keyOf Tryz.prog 9 (.string (str s)) = some (.string (str s).data.toList) := Go.WideMaps.keyOf_string_mk Tryz.underlying9 (by rw [str_size]; exact h)
/-- block b is a map that keeps just these values under these names -/
def MapAt (w : World) (b : Nat) (l : List (Tx × Value)) : Prop :=
  ∃ es clock, w.heap[b]? = some (.map es clock) ∧ es.toList.map (fun e => (e.key, e.val)) = l.map (fun p => (Value.string (str p.1), p.2)) ∧ (l.map Prod.fst).Nodup ∧ (∀ p ∈ l, p.1.length ≤ maxLen) ∧ Stamped es clock
theorem MapAt.made (w : World) : MapAt (w.alloc (.map #[] 0)) w.heap.size [] := ⟨#[], 0, heap_alloc_new w _, rfl, by simp, by simp, stamped_empty 0⟩
theorem MapAt.lt {w : World} {b : Nat} {l : List (Tx × Value)} (h : MapAt w b l) : b < w.heap.size := by
  obtain ⟨es, clock, hb, _⟩ := h
  exact lt_of_heap hb
theorem MapAt.block {w w' : World} {b : Nat} {l : List (Tx × Value)} (h : MapAt w b l) (hk : w'.heap[b]? = w.heap[b]?) : MapAt w' b l := by
  obtain ⟨es, clock, hb, hr⟩ := h
  exact ⟨es, clock, hk.trans hb, hr⟩
theorem MapAt.under {w w' : World} {b : Nat} {l : List (Tx × Value)} (h : MapAt w b l) (hb : Below w.heap.size w w') : MapAt w' b l := h.block (hb.block b h.lt)
theorem MapAt.keys {w : World} {b : Nat} {l : List (Tx × Value)} (h : MapAt w b l) : ∀ p ∈ l, p.1.length ≤ maxLen := by
  obtain ⟨es, clock, _, _, _, h, _⟩ := h
  exact h
theorem ent_mem {es : Array MapEntry} {l : List (Tx × Value)} (he : es.toList.map (fun e => (e.key, e.val)) = l.map (fun p => (Value.string (str p.1), p.2))) {e : MapEntry} (h : e ∈ es.toList) : ∃ p ∈ l, e.key = .string (str p.1) ∧ e.val = p.2 := by
  have : (e.key, e.val) ∈ l.map (fun p => (Value.string (str p.1), p.2)) := by rw [← he]; exact List.mem_map.2 ⟨e, h, rfl⟩
  obtain ⟨p, hp, hq⟩ := List.mem_map.1 this
  simp only [Prod.mk.injEq] at hq
  exact ⟨p, hp, hq.1.symm, hq.2.symm⟩
theorem mem_ent {es : Array MapEntry} {l : List (Tx × Value)} (he : es.toList.map (fun e => (e.key, e.val)) = l.map (fun p => (Value.string (str p.1), p.2))) {p : Tx × Value} (h : p ∈ l) : ∃ e ∈ es.toList, e.key = .string (str p.1) ∧ e.val = p.2 := by
  have : (Value.string (str p.1), p.2) ∈ es.toList.map (fun e => (e.key, e.val)) := by rw [he]; exact List.mem_map.2 ⟨p, h, rfl⟩
  obtain ⟨e, h1, hq⟩ := List.mem_map.1 this
  simp only [Prod.mk.injEq] at hq
  exact ⟨e, h1, hq.1, hq.2⟩
theorem str_inj' {a b : Tx} (h : Value.string (str a) = .string (str b)) : a = b := str_inj.1 (by injection h)
theorem nodup_val {l : List (Tx × Value)} (h : (l.map Prod.fst).Nodup) {p q : Tx × Value} (hp : p ∈ l) (hq : q ∈ l) (he : p.1 = q.1) : p = q := by
  induction l with
  | nil => cases hp
  | cons x r ih =>
    rw [List.map_cons, List.nodup_cons] at h
    rcases List.mem_cons.1 hp with hp' | hp' <;> rcases List.mem_cons.1 hq with hq' | hq'
    · rw [hp', hq']
    · exact absurd (by rw [← hp', he]; exact List.mem_map_of_mem hq') h.1
    · exact absurd (by rw [← hq', ← he]; exact List.mem_map_of_mem hp') h.1
    · exact ih h.2 hp' hq'
section
variable {w : World} {b : Nat} {l : List (Tx × Value)} {t e : TypeId}
theorem MapAt.look_no (h : MapAt w b l) (ht : Tryz.prog.underlying t = some (.map 9 e)) {z : Value} (hz : (zeroValue e).run Tryz.prog w = .ok z w) {s : Tx} (hs : s.length ≤ maxLen) (hn : s ∉ l.map Prod.fst) :
    (Instr.lookup t (.map (some b)) (.string (str s)) true).run Tryz.prog w = .ok (.tuple #[z, .bool false]) w := by
  obtain ⟨es, clock, hb, he, hd, hk, _⟩ := h
  have hkeys : ∀ x ∈ es.toList, ∃ l, keyOf Tryz.prog 9 x.key = some l := fun x hx => by
    obtain ⟨p, hp, h1, _⟩ := ent_mem he hx
    exact ⟨_, by rw [h1]; exact key_str (hk p hp)⟩
  rcases keyS.find w (key_str hs) es.toList hkeys with ⟨h1, h2⟩ | ⟨j, e0, h1, h2, h3⟩
  · simp [Instr.lookup, run_underlying ht, MapKept.run_getObj_map hb, keyS.check w _ (key_str hs), h1, hz, Result.andThen]
  · obtain ⟨p, hp, h4, _⟩ := ent_mem he (List.mem_of_getElem? h2)
    rw [h3] at h4
    exact absurd (by rw [str_inj' h4]; exact List.mem_map_of_mem hp) hn
theorem MapAt.look_yes (h : MapAt w b l) (ht : Tryz.prog.underlying t = some (.map 9 e)) {s : Tx} {v : Value} (hs : (s, v) ∈ l) :
    (Instr.lookup t (.map (some b)) (.string (str s)) true).run Tryz.prog w = .ok (.tuple #[v, .bool true]) w := by
  obtain ⟨es, clock, hb, he, hd, hk, _⟩ := h
  have hl := hk _ hs
  have hkeys : ∀ x ∈ es.toList, ∃ l, keyOf Tryz.prog 9 x.key = some l := fun x hx => by
    obtain ⟨p, hp, h1, _⟩ := ent_mem he hx
    exact ⟨_, by rw [h1]; exact key_str (hk p hp)⟩
  rcases keyS.find w (key_str hl) es.toList hkeys with ⟨h1, h2⟩ | ⟨j, e0, h1, h2, h3⟩
  · obtain ⟨x, hx, h4, _⟩ := mem_ent he hs
    exact absurd h4 (h2 x hx)
  · obtain ⟨p, hp, h4, h5⟩ := ent_mem he (List.mem_of_getElem? h2)
    rw [h3] at h4
    have := nodup_val hd hs hp (str_inj' h4)
    have hv : e0.val = v := by rw [h5, ← this]
    simp [Instr.lookup, run_underlying ht, MapKept.run_getObj_map hb, keyS.check w _ (key_str hl), h1, hv, Result.andThen]
theorem MapAt.put (h : MapAt w b l) (ht : Tryz.prog.underlying t = some (.map 9 e)) {s : Tx} {v : Value} (hs : s.length ≤ maxLen) (hn : s ∉ l.map Prod.fst) :
    ∃ w', (Instr.mapUpdate t (.map (some b)) (.string (str s)) v).run Tryz.prog w = .ok () w' ∧ MapAt w' b (l ++ [(s, v)]) ∧ w.grownBy w' (some b) := by
  obtain ⟨es, clock, hb, he, hd, hk, hst⟩ := h
  have hkeys : ∀ x ∈ es.toList, ∃ l, keyOf Tryz.prog 9 x.key = some l := fun x hx => by
    obtain ⟨p, hp, h1, _⟩ := ent_mem he hx
    exact ⟨_, by rw [h1]; exact key_str (hk p hp)⟩
  rcases keyS.find w (key_str hs) es.toList hkeys with ⟨h1, h2⟩ | ⟨j, e0, h1, h2, h3⟩
  · refine ⟨setBlock w b (.map (es.push ⟨.string (str s), v, clock⟩) (clock + 1)), ?_, ⟨es.push ⟨.string (str s), v, clock⟩, clock + 1, heap_setBlock_same hb _, by simp [he], ?_, ?_, stamped_push hst h2⟩, ⟨rfl, rfl, rfl, by simp [setBlock], fun i _ hi => heap_setBlock_other hb _ (fun e => hi (by rw [e]))⟩⟩
    · simp [Instr.mapUpdate, run_underlying ht, MapKept.run_getObj_map hb, keyS.check w false (key_str hs), h1, MapKept.run_setObj_map _ hb, Result.andThen, setBlock]
    · rw [List.map_append, List.nodup_append]
      refine ⟨hd, by simp, ?_⟩
      intro a ha c hc
      simp at hc
      subst hc
      intro e
      subst e
      exact hn ha
    · intro p hp
      rcases List.mem_append.1 hp with hp | hp
      · exact hk p hp
      · simp at hp; subst hp; exact hs
  · obtain ⟨p, hp, h4, _⟩ := ent_mem he (List.mem_of_getElem? h2)
    rw [h3] at h4
    exact absurd (by rw [str_inj' h4]; exact List.mem_map_of_mem hp) hn
end
/-- 'm[s] = v' at the operation, for the walk -/
theorem wpList_put (w : World) {ops : Array Oper} {rest : List Oper} {o : Oper} {a : Act} {Q : Exit → Act → World → Prop} (hg : o.guard = none) (m x y : Operand) (t : TypeId) (hop : o.op = Op.mapUpdate t m x y)
    {e : TypeId} (ht : Tryz.prog.underlying t = some (.map 9 e)) {b : Nat} {l : List (Tx × Value)} {s : Tx} {v : Value} (hm : a.eval m = .map (some b)) (hx : a.eval x = .string (str s)) (hv : a.eval y = v) (h : MapAt w b l) (hs : s.length ≤ maxLen) (hn : s ∉ l.map Prod.fst)
    (hK : ∀ w', MapAt w' b (l ++ [(s, v)]) → w.grownBy w' (some b) → wpList Tryz.prog ops Q rest (a.put o.dst undef) w') : wpList Tryz.prog ops Q (o :: rest) a w := by
  refine wpList_plain hg fun K' hK' => ?_
  obtain ⟨w', hrun, r1, r2⟩ := h.put (v := v) ht hs hn
  unfold Oper.wp
  simp [execOp, hop, hm, hx, hv, hrun, Result.andThen]
  exact hK' _ _ (hK w' r1 r2)
/-- w' is w but for the blocks M, which are the call's own -/
structure KeptM (M : List Nat) (w w' : World) : Prop where
  os : w'.os = w.os
  tape : w'.tape = w.tape
  output : w'.output = w.output
  size : w.heap.size ≤ w'.heap.size
  block : ∀ k, k < w.heap.size → k ∉ M → w'.heap[k]? = w.heap[k]?
theorem KeptM.refl (M : List Nat) (w : World) : KeptM M w w := ⟨rfl, rfl, rfl, Nat.le_refl _, fun _ _ _ => rfl⟩
theorem KeptM.trans {M : List Nat} {a b c : World} (h : KeptM M a b) (g : KeptM M b c) : KeptM M a c :=
  ⟨g.os.trans h.os, g.tape.trans h.tape, g.output.trans h.output, Nat.le_trans h.size g.size, fun k hk hm => (g.block k (Nat.lt_of_lt_of_le hk h.size) hm).trans (h.block k hk hm)⟩
theorem KeptM.of_below {M : List Nat} {w w' : World} (h : Below w.heap.size w w') : KeptM M w w' := ⟨h.os, h.tape, h.output, h.size, fun k hk _ => h.block k hk⟩
theorem KeptM.of_grown {M : List Nat} {b : Nat} {w w' : World} (h : w.grownBy w' (some b)) (hb : b ∈ M) : KeptM M w w' := ⟨h.os, h.tape, h.output, h.size, fun k hk hm => h.block k hk (fun e => hm (by cases e; exact hb))⟩
theorem KeptM.mono {M M' : List Nat} {w w' : World} (h : KeptM M w w') (hs : ∀ x ∈ M, x ∈ M') : KeptM M' w w' := ⟨h.os, h.tape, h.output, h.size, fun k hk hm => h.block k hk (fun e => hm (hs k e))⟩
theorem KeptM.below {M : List Nat} {B : Nat} {w w' : World} (h : KeptM M w w') (hM : ∀ b ∈ M, B ≤ b) (hB : B ≤ w.heap.size) : Below B w w' :=
  ⟨h.os, h.tape, h.output, h.size, fun k hk => h.block k (Nat.lt_of_lt_of_le hk hB) (fun e => absurd (hM k e) (by omega))⟩
theorem KeptM.cell {M : List Nat} {w w' : World} (h : KeptM M w w') {a : Addr} (ha : a.block < w.heap.size) (hm : a.block ∉ M) : w'.cell? a = w.cell? a := World.cell?_of_block (h.block _ ha hm)
end Go.Proofs.YtbpbnebcbjacdaaGreat
namespace Go.Proofs.YtbpbnebcbjacdaaGreat
open Go.RowKit
open Go.ChangeMaps Go.MapKept
open Go.Maps

def keysOf (l : List (Tx × Value)) : List Tx := l.map Prod.fst
def withV (v : Value) (l : List Tx) : List (Tx × Value) := l.map fun s => (s, v)
theorem keysOf_app (l m : List (Tx × Value)) : keysOf (l ++ m) = keysOf l ++ keysOf m := by simp [keysOf]
theorem keysOf_with (v : Value) (l : List Tx) : keysOf (withV v l) = l := by
  unfold keysOf withV
  rw [List.map_map]
  induction l with
  | nil => rfl
  | cons x r ih => rw [List.map_cons, ih]; rfl
def RecPost (b : Nat) (l : List (Tx × Value)) (v : Value) (names : List Tx) (w : World) (e : Ending) (w' : World) : Prop :=
  e = .returned (.bool (recOk (keysOf l) names)) ∧ KeptM [b] w w' ∧ (recOk (keysOf l) names = true → MapAt w' b (l ++ withV v names))
theorem MapAt.notcell {w : World} {b : Nat} {l : List (Tx × Value)} (h : MapAt w b l) {a : Addr} {u : Value} (hc : w.cell? a = some u) : a.block ≠ b := by
  obtain ⟨es, clock, hb, _⟩ := h
  intro e
  unfold World.cell? at hc
  rw [e, hb] at hc
  simp at hc
theorem StrsAt.kept {w w' : World} {b : Nat} {l : List (Tx × Value)} {v : Value} {names : List Tx} (ha : StrsAt w v names) (hm : MapAt w b l) (hk : KeptM [b] w w') : StrsAt w' v names := by
  obtain ⟨A, c, rfl, h1, h2, h3⟩ := ha
  refine ⟨A, c, rfl, h1, h2, fun i x hx => ?_⟩
  obtain ⟨L, ⟨a, ea, hc⟩, hR⟩ := h3 i x hx
  refine ⟨L, ⟨a, ea, fun j u hu => ?_⟩, hR⟩
  have h0 := hc j u hu
  rw [hk.cell (World.block_lt_of_cell? w _ h0) (by simpa using hm.notcell h0)]
  exact h0
theorem rec_take {names : List Tx} {k : Nat} {s : Tx} (h : names[k]? = some s) (v : Value) : withV v (names.take (k + 1)) = withV v (names.take k) ++ [(s, v)] := by
  unfold withV; rw [take_snoc h]; simp
theorem row1 {w : World} {N : Nat} {T0 : TypeId} {v0 : Value} (h : w.heap[N]? = some (.cells #[v0] T0 (0, 0))) : w.cell? ⟨N, 0, none⟩ = some v0 := by simp [World.cell?, h]
theorem box_kept {M : List Nat} {w w1 : World} {g : Nat} {o : Obj} (hb : KeptM M w w1) (hg : g ∉ M) (h : w.heap[g]? = some o) : w1.heap[g]? = some o := (hb.block g (lt_of_heap h) hg).trans h
/-! struct {} -/
def ShS (v : Value) : Prop := v = .agg #[]
theorem zeroS (w : World) : (zeroValue 88).run Tryz.prog w = .ok (.agg #[]) w := by kernel_rfl
set_option maxHeartbeats 1000000 in
theorem knownS_yes {w : World} {b : Nat} {l : List (Tx × Value)} (h : MapAt w b l) {s : Tx} (hs : (s, .agg #[]) ∈ l) : Calls Tryz.prog 71 #[.map (some b), .string (str s)] w (BoolPost true w) := by
  have hrun := h.look_yes Tryz.underlying81 hs
  clear h hs
  go_enter Tryz.func71, Tryz.ntmps71
  go_wp2_with fail
  go_ret
  first | exact ⟨rfl, (Below.refl _ _).alloc (Nat.le_refl _) _⟩ | exact ⟨rfl, Below.refl _ _⟩
set_option maxHeartbeats 1000000 in
theorem knownS_no {w : World} {b : Nat} {l : List (Tx × Value)} (h : MapAt w b l) {s : Tx} (hl : s.length ≤ maxLen) (hs : s ∉ l.map Prod.fst) : Calls Tryz.prog 71 #[.map (some b), .string (str s)] w (BoolPost false w) := by
  have hrun := h.look_no Tryz.underlying81 (zeroS w) hl hs
  clear h hs hl
  go_enter Tryz.func71, Tryz.ntmps71
  go_wp2_with fail
  go_ret
  first | exact ⟨rfl, (Below.refl _ _).alloc (Nat.le_refl _) _⟩ | exact ⟨rfl, Below.refl _ _⟩
theorem knownS_any {w : World} {b : Nat} {l : List (Tx × Value)} (h : MapAt w b l) (hv : ∀ p ∈ l, ShS p.2) {s : Tx} (hl : s.length ≤ maxLen) : Calls Tryz.prog 71 #[.map (some b), .string (str s)] w (BoolPost ((keysOf l).contains s) w) := by
  by_cases hs : s ∈ l.map Prod.fst
  · obtain ⟨⟨s', v⟩, hp, rfl⟩ := List.mem_map.1 hs
    have hc : (keysOf l).contains s' = true := by rw [List.contains_iff_mem]; exact hs
    show Calls _ _ _ _ (BoolPost ((keysOf l).contains s') w)
    rw [hc]
    have := hv _ hp
    obtain rfl := this
    exact knownS_yes h hp
  · have hc : (keysOf l).contains s = false := by rw [Bool.eq_false_iff]; intro h; exact hs (List.contains_iff_mem.1 h)
    rw [hc]
    exact knownS_no h hl hs
set_option maxHeartbeats 2000000 in
theorem recordS_any {w : World} {b : Nat} {l : List (Tx × Value)} (h : MapAt w b l) (hv : ∀ p ∈ l, ShS p.2) {va : Value} {names : List Tx} (ha : StrsAt w va names) :
    Calls Tryz.prog 43 #[.map (some b), .agg #[], va] w (RecPost b l (.agg #[]) names w) := by
  have hbl := h.lt
  have HH := Lib.hid h
  have HA := Lib.hid ha
  have HV := Lib.hid hv
  obtain ⟨A, c, rfl, hc, hm, _⟩ := ha
  have hll : names.length ≤ 9223372036854775807 := by unfold maxLen at hm; omega
  clear h hv hc hm
  go_enter Tryz.func43, Tryz.ntmps43
  go_wp2_with fail
  go_loopg [11] names.length (fun g v wr => ∃ k : Nat, k + g = names.length ∧ v = .int .i64 k ∧ MapAt wr b (l ++ withV (.agg #[]) (names.take k)) ∧ KeptM [b] w wr ∧ recOk (keysOf l) names = recOk (keysOf l ++ names.take k) (names.drop k) ∧ wr.heap[w.heap.size]? = some (.cells #[] 88 (0, 0)))
  case atStart =>
    have hb0 : Below w.heap.size w (w.alloc (.cells #[] 88)) := (Below.refl _ _).alloc (Nat.le_refl _) _
    exact ⟨0, by omega, rfl, by simpa [withV] using HH.out.under hb0, KeptM.of_below hb0, by simp, heap_alloc_new w _⟩
  case round =>
    obtain ⟨k, hkg, rfl, hma, hkm, hr, hbox⟩ := hrel
    obtain ⟨wq, rfl⟩ : ∃ W, W = wr := ⟨_, rfl⟩
    have HK := Lib.hid hkg
    have HMA := Lib.hid hma
    have HKM := Lib.hid hkm
    have HR := Lib.hid hr
    have BX := Lib.hid hbox
    have hkl : k ≤ names.length := by omega
    clear hkg hma hkm hr hbox
    by_cases hlt : k < names.length
    · obtain ⟨s, hs⟩ : ∃ s, names[k]? = some s := ⟨_, List.getElem?_eq_getElem hlt⟩
      have HSA := Lib.hid (HA.out.kept HH.out HKM.out)
      obtain ⟨A9, c9, e9, _, _, he9⟩ := HSA.out
      obtain ⟨L9, hE9, rfl, hsl⟩ := he9 k s hs
      injection e9 with e9 e10 e11
      clear e10 e11
      obtain ⟨a9, ea9, _, hzc, q9⟩ := elem1 hE9
      rw [ea9] at e9
      subst e9
      simp only [Nat.mul_one] at q9
      have HSL := Lib.hid hsl
      have HT := Lib.hid (rec_take hs (.agg #[]))
      have HD := Lib.hid (drop_consS hs)
      have HTS := Lib.hid (take_snoc hs)
      have HKN := Lib.hid (knownS_any HMA.out (fun p hp => (List.mem_append.1 hp).elim (HV.out p) (fun hq => by obtain ⟨_, _, rfl⟩ := List.mem_map.1 hq; exact rfl)) hsl)
      rw [keysOf_app, keysOf_with] at HKN
      clear hs he9 hE9 ea9 hzc hsl
      cases hc : (keysOf l ++ names.take k).contains s
      · rw [hc] at HKN
        have HC := Lib.hid hc
        clear hc
        have HRN := Lib.hid (show recOk (keysOf l) names = recOk (keysOf l ++ names.take (k + 1)) (names.drop (k + 1)) by rw [HR.out, HD.out, recOk_cons, HC.out, HTS.out, ← List.append_assoc]; rfl)
        go_wp2_with (first
          | (go_at_call 71
             (with_reducible refine HKN.out.mono ?_)
             rintro e w1 ⟨rfl, hb1⟩
             obtain ⟨v1, rfl⟩ : ∃ W, W = w1 := ⟨_, rfl⟩
             have HM1 := Lib.hid (HMA.out.under hb1)
             have BX1 := Lib.hid (box_next hb1 BX.out)
             have HK1 := Lib.hid (HKM.out.trans (KeptM.of_below hb1))
             clear hb1)
          | (at_mapUpdate; refine wpList_put _ rfl _ _ _ 81 rfl Tryz.underlying81 rfl rfl rfl HM1.out HSL.out ?_ ?_; (simpa [keysOf, withV, List.contains_iff_mem, Function.comp_def] using HC.out); (intro w2 hm2 hg2; obtain ⟨v2, rfl⟩ : ∃ W, W = w2 := ⟨_, rfl⟩; have HM2 := Lib.hid hm2; have HK2 := Lib.hid (HK1.out.trans (KeptM.of_grown hg2 (by simp))); have BX2 := Lib.hid (box_kept (KeptM.of_grown hg2 (List.mem_singleton.2 rfl)) (by simp; omega) BX1.out); clear hm2 hg2)))
        go_roundg (names.length - (k + 1))
        case measure => have := HK.out; omega
        case rel => exact ⟨k + 1, by omega, by go_num, by rw [HT.out, ← List.append_assoc]; exact HM2.out, HK2.out, HRN.out, BX2.out⟩
      · rw [hc] at HKN
        have HC := Lib.hid hc
        clear hc
        have HRN := Lib.hid (show recOk (keysOf l) names = false by rw [HR.out, HD.out, recOk_cons, HC.out]; rfl)
        go_wp2_with (go_at_call 71; (with_reducible refine HKN.out.mono ?_); rintro e w1 ⟨rfl, hb1⟩)
        go_ret
        exact ⟨ret_bool HRN.out.symm, HKM.out.trans (KeptM.of_below hb1), fun h => by rw [HRN.out] at h; cases h⟩
    · have hke : k = names.length := by omega
      have HRN := Lib.hid (show recOk (keysOf l) names = true by rw [HR.out, hke, List.drop_length]; rfl)
      have HM3 := Lib.hid (show MapAt wq b (l ++ withV (.agg #[]) names) by have := HMA.out; rwa [hke, List.take_length] at this)
      clear hke
      go_wp2_with fail
      go_ret
      exact ⟨ret_bool HRN.out.symm, HKM.out, fun _ => HM3.out⟩
/-! int -/
def ShI (v : Value) : Prop := ∃ n1 : Int, v = .int .i64 n1
theorem zeroI (w : World) : (zeroValue 3).run Tryz.prog w = .ok (.int .i64 0) w := by kernel_rfl
set_option maxHeartbeats 1000000 in
theorem knownI_yes {w : World} {b : Nat} {l : List (Tx × Value)} (h : MapAt w b l) {s : Tx} {n1 : Int} (hs : (s, .int .i64 n1) ∈ l) : Calls Tryz.prog 96 #[.map (some b), .string (str s)] w (BoolPost true w) := by
  have hrun := h.look_yes Tryz.underlying90 hs
  clear h hs
  go_enter Tryz.func96, Tryz.ntmps96
  go_wp2_with fail
  go_ret
  first | exact ⟨rfl, (Below.refl _ _).alloc (Nat.le_refl _) _⟩ | exact ⟨rfl, Below.refl _ _⟩
set_option maxHeartbeats 1000000 in
theorem knownI_no {w : World} {b : Nat} {l : List (Tx × Value)} (h : MapAt w b l) {s : Tx} (hl : s.length ≤ maxLen) (hs : s ∉ l.map Prod.fst) : Calls Tryz.prog 96 #[.map (some b), .string (str s)] w (BoolPost false w) := by
  have hrun := h.look_no Tryz.underlying90 (zeroI w) hl hs
  clear h hs hl
  go_enter Tryz.func96, Tryz.ntmps96
  go_wp2_with fail
  go_ret
  first | exact ⟨rfl, (Below.refl _ _).alloc (Nat.le_refl _) _⟩ | exact ⟨rfl, Below.refl _ _⟩
theorem knownI_any {w : World} {b : Nat} {l : List (Tx × Value)} (h : MapAt w b l) (hv : ∀ p ∈ l, ShI p.2) {s : Tx} (hl : s.length ≤ maxLen) : Calls Tryz.prog 96 #[.map (some b), .string (str s)] w (BoolPost ((keysOf l).contains s) w) := by
  by_cases hs : s ∈ l.map Prod.fst
  · obtain ⟨⟨s', v⟩, hp, rfl⟩ := List.mem_map.1 hs
    have hc : (keysOf l).contains s' = true := by rw [List.contains_iff_mem]; exact hs
    show Calls _ _ _ _ (BoolPost ((keysOf l).contains s') w)
    rw [hc]
    have := hv _ hp
    obtain ⟨n1, rfl⟩ := this
    exact knownI_yes h hp
  · have hc : (keysOf l).contains s = false := by rw [Bool.eq_false_iff]; intro h; exact hs (List.contains_iff_mem.1 h)
    rw [hc]
    exact knownI_no h hl hs
set_option maxHeartbeats 2000000 in
theorem recordI_any {w : World} {b : Nat} {l : List (Tx × Value)} (h : MapAt w b l) (hv : ∀ p ∈ l, ShI p.2) {n1 : Int} {va : Value} {names : List Tx} (ha : StrsAt w va names) :
    Calls Tryz.prog 76 #[.map (some b), .int .i64 n1, va] w (RecPost b l (.int .i64 n1) names w) := by
  have hbl := h.lt
  have HH := Lib.hid h
  have HA := Lib.hid ha
  have HV := Lib.hid hv
  obtain ⟨A, c, rfl, hc, hm, _⟩ := ha
  have hll : names.length ≤ 9223372036854775807 := by unfold maxLen at hm; omega
  clear h hv hc hm
  go_enter Tryz.func76, Tryz.ntmps76
  go_wp2_with fail
  go_loopg [11] names.length (fun g v wr => ∃ k : Nat, k + g = names.length ∧ v = .int .i64 k ∧ MapAt wr b (l ++ withV (.int .i64 n1) (names.take k)) ∧ KeptM [b] w wr ∧ recOk (keysOf l) names = recOk (keysOf l ++ names.take k) (names.drop k))
  case atStart =>
    exact ⟨0, by omega, rfl, by simpa [withV] using HH.out, KeptM.refl _ _, by simp⟩
  case round =>
    obtain ⟨k, hkg, rfl, hma, hkm, hr⟩ := hrel
    obtain ⟨wq, rfl⟩ : ∃ W, W = wr := ⟨_, rfl⟩
    have HK := Lib.hid hkg
    have HMA := Lib.hid hma
    have HKM := Lib.hid hkm
    have HR := Lib.hid hr
    have hkl : k ≤ names.length := by omega
    clear hkg hma hkm hr
    by_cases hlt : k < names.length
    · obtain ⟨s, hs⟩ : ∃ s, names[k]? = some s := ⟨_, List.getElem?_eq_getElem hlt⟩
      have HSA := Lib.hid (HA.out.kept HH.out HKM.out)
      obtain ⟨A9, c9, e9, _, _, he9⟩ := HSA.out
      obtain ⟨L9, hE9, rfl, hsl⟩ := he9 k s hs
      injection e9 with e9 e10 e11
      clear e10 e11
      obtain ⟨a9, ea9, _, hzc, q9⟩ := elem1 hE9
      rw [ea9] at e9
      subst e9
      simp only [Nat.mul_one] at q9
      have HSL := Lib.hid hsl
      have HT := Lib.hid (rec_take hs (.int .i64 n1))
      have HD := Lib.hid (drop_consS hs)
      have HTS := Lib.hid (take_snoc hs)
      have HKN := Lib.hid (knownI_any HMA.out (fun p hp => (List.mem_append.1 hp).elim (HV.out p) (fun hq => by obtain ⟨_, _, rfl⟩ := List.mem_map.1 hq; exact ⟨_, rfl⟩)) hsl)
      rw [keysOf_app, keysOf_with] at HKN
      clear hs he9 hE9 ea9 hzc hsl
      cases hc : (keysOf l ++ names.take k).contains s
      · rw [hc] at HKN
        have HC := Lib.hid hc
        clear hc
        have HRN := Lib.hid (show recOk (keysOf l) names = recOk (keysOf l ++ names.take (k + 1)) (names.drop (k + 1)) by rw [HR.out, HD.out, recOk_cons, HC.out, HTS.out, ← List.append_assoc]; rfl)
        go_wp2_with (first
          | (go_at_call 96
             (with_reducible refine HKN.out.mono ?_)
             rintro e w1 ⟨rfl, hb1⟩
             obtain ⟨v1, rfl⟩ : ∃ W, W = w1 := ⟨_, rfl⟩
             have HM1 := Lib.hid (HMA.out.under hb1)
             have HK1 := Lib.hid (HKM.out.trans (KeptM.of_below hb1))
             clear hb1)
          | (at_mapUpdate; refine wpList_put _ rfl _ _ _ 90 rfl Tryz.underlying90 rfl rfl rfl HM1.out HSL.out ?_ ?_; (simpa [keysOf, withV, List.contains_iff_mem, Function.comp_def] using HC.out); (intro w2 hm2 hg2; obtain ⟨v2, rfl⟩ : ∃ W, W = w2 := ⟨_, rfl⟩; have HM2 := Lib.hid hm2; have HK2 := Lib.hid (HK1.out.trans (KeptM.of_grown hg2 (by simp))); clear hm2 hg2)))
        go_roundg (names.length - (k + 1))
        case measure => have := HK.out; omega
        case rel => exact ⟨k + 1, by omega, by go_num, by rw [HT.out, ← List.append_assoc]; exact HM2.out, HK2.out, HRN.out⟩
      · rw [hc] at HKN
        have HC := Lib.hid hc
        clear hc
        have HRN := Lib.hid (show recOk (keysOf l) names = false by rw [HR.out, HD.out, recOk_cons, HC.out]; rfl)
        go_wp2_with (go_at_call 96; (with_reducible refine HKN.out.mono ?_); rintro e w1 ⟨rfl, hb1⟩)
        go_ret
        exact ⟨ret_bool HRN.out.symm, HKM.out.trans (KeptM.of_below hb1), fun h => by rw [HRN.out] at h; cases h⟩
    · have hke : k = names.length := by omega
      have HRN := Lib.hid (show recOk (keysOf l) names = true by rw [HR.out, hke, List.drop_length]; rfl)
      have HM3 := Lib.hid (show MapAt wq b (l ++ withV (.int .i64 n1) names) by have := HMA.out; rwa [hke, List.take_length] at this)
      clear hke
      go_wp2_with fail
      go_ret
      exact ⟨ret_bool HRN.out.symm, HKM.out, fun _ => HM3.out⟩
/-! api.Enum -/
def ShE (v : Value) : Prop := ∃ s1 : ByteArray, ∃ A1 : Option Addr, ∃ m1 j1 : Nat, v = .agg #[.string s1, .slice A1 m1 j1]
theorem zeroE (w : World) : (zeroValue 46).run Tryz.prog w = .ok (.agg #[.string ⟨#[]⟩, .slice none 0 0]) w := by kernel_rfl
set_option maxHeartbeats 1000000 in
theorem knownE_yes {w : World} {b : Nat} {l : List (Tx × Value)} (h : MapAt w b l) {s : Tx} {s1 : ByteArray} {A1 : Option Addr} {m1 j1 : Nat} (hs : (s, .agg #[.string s1, .slice A1 m1 j1]) ∈ l) : Calls Tryz.prog 70 #[.map (some b), .string (str s)] w (BoolPost true w) := by
  have hrun := h.look_yes Tryz.underlying82 hs
  clear h hs
  go_enter Tryz.func70, Tryz.ntmps70
  go_wp2_with fail
  go_ret
  first | exact ⟨rfl, (Below.refl _ _).alloc (Nat.le_refl _) _⟩ | exact ⟨rfl, Below.refl _ _⟩
set_option maxHeartbeats 1000000 in
theorem knownE_no {w : World} {b : Nat} {l : List (Tx × Value)} (h : MapAt w b l) {s : Tx} (hl : s.length ≤ maxLen) (hs : s ∉ l.map Prod.fst) : Calls Tryz.prog 70 #[.map (some b), .string (str s)] w (BoolPost false w) := by
  have hrun := h.look_no Tryz.underlying82 (zeroE w) hl hs
  clear h hs hl
  go_enter Tryz.func70, Tryz.ntmps70
  go_wp2_with fail
  go_ret
  first | exact ⟨rfl, (Below.refl _ _).alloc (Nat.le_refl _) _⟩ | exact ⟨rfl, Below.refl _ _⟩
theorem knownE_any {w : World} {b : Nat} {l : List (Tx × Value)} (h : MapAt w b l) (hv : ∀ p ∈ l, ShE p.2) {s : Tx} (hl : s.length ≤ maxLen) : Calls Tryz.prog 70 #[.map (some b), .string (str s)] w (BoolPost ((keysOf l).contains s) w) := by
  by_cases hs : s ∈ l.map Prod.fst
  · obtain ⟨⟨s', v⟩, hp, rfl⟩ := List.mem_map.1 hs
    have hc : (keysOf l).contains s' = true := by rw [List.contains_iff_mem]; exact hs
    show Calls _ _ _ _ (BoolPost ((keysOf l).contains s') w)
    rw [hc]
    have := hv _ hp
    obtain ⟨s1, A1, m1, j1, rfl⟩ := this
    exact knownE_yes h hp
  · have hc : (keysOf l).contains s = false := by rw [Bool.eq_false_iff]; intro h; exact hs (List.contains_iff_mem.1 h)
    rw [hc]
    exact knownE_no h hl hs
set_option maxHeartbeats 2000000 in
theorem recordE_any {w : World} {b : Nat} {l : List (Tx × Value)} (h : MapAt w b l) (hv : ∀ p ∈ l, ShE p.2) {s1 : ByteArray} {A1 : Option Addr} {m1 j1 : Nat} {va : Value} {names : List Tx} (ha : StrsAt w va names) :
    Calls Tryz.prog 42 #[.map (some b), .agg #[.string s1, .slice A1 m1 j1], va] w (RecPost b l (.agg #[.string s1, .slice A1 m1 j1]) names w) := by
  have hbl := h.lt
  have HH := Lib.hid h
  have HA := Lib.hid ha
  have HV := Lib.hid hv
  obtain ⟨A, c, rfl, hc, hm, _⟩ := ha
  have hll : names.length ≤ 9223372036854775807 := by unfold maxLen at hm; omega
  clear h hv hc hm
  go_enter Tryz.func42, Tryz.ntmps42
  go_wp2_with fail
  go_loopg [11] names.length (fun g v wr => ∃ k : Nat, k + g = names.length ∧ v = .int .i64 k ∧ MapAt wr b (l ++ withV (.agg #[.string s1, .slice A1 m1 j1]) (names.take k)) ∧ KeptM [b] w wr ∧ recOk (keysOf l) names = recOk (keysOf l ++ names.take k) (names.drop k) ∧ wr.heap[w.heap.size]? = some (.cells #[.string s1, .slice A1 m1 j1] 46 (0, 0)))
  case atStart =>
    have hb0 : Below w.heap.size w (w.alloc (.cells #[.string s1, .slice A1 m1 j1] 46)) := (Below.refl _ _).alloc (Nat.le_refl _) _
    exact ⟨0, by omega, rfl, by simpa [withV] using HH.out.under hb0, KeptM.of_below hb0, by simp, heap_alloc_new w _⟩
  case round =>
    obtain ⟨k, hkg, rfl, hma, hkm, hr, hbox⟩ := hrel
    obtain ⟨wq, rfl⟩ : ∃ W, W = wr := ⟨_, rfl⟩
    have HK := Lib.hid hkg
    have HMA := Lib.hid hma
    have HKM := Lib.hid hkm
    have HR := Lib.hid hr
    have BX := Lib.hid hbox
    have hkl : k ≤ names.length := by omega
    clear hkg hma hkm hr hbox
    by_cases hlt : k < names.length
    · obtain ⟨s, hs⟩ : ∃ s, names[k]? = some s := ⟨_, List.getElem?_eq_getElem hlt⟩
      have HSA := Lib.hid (HA.out.kept HH.out HKM.out)
      obtain ⟨A9, c9, e9, _, _, he9⟩ := HSA.out
      obtain ⟨L9, hE9, rfl, hsl⟩ := he9 k s hs
      injection e9 with e9 e10 e11
      clear e10 e11
      obtain ⟨a9, ea9, _, hzc, q9⟩ := elem1 hE9
      rw [ea9] at e9
      subst e9
      simp only [Nat.mul_one] at q9
      have HSL := Lib.hid hsl
      have HT := Lib.hid (rec_take hs (.agg #[.string s1, .slice A1 m1 j1]))
      have HD := Lib.hid (drop_consS hs)
      have HTS := Lib.hid (take_snoc hs)
      have HKN := Lib.hid (knownE_any HMA.out (fun p hp => (List.mem_append.1 hp).elim (HV.out p) (fun hq => by obtain ⟨_, _, rfl⟩ := List.mem_map.1 hq; exact ⟨_, _, _, _, rfl⟩)) hsl)
      rw [keysOf_app, keysOf_with] at HKN
      clear hs he9 hE9 ea9 hzc hsl
      cases hc : (keysOf l ++ names.take k).contains s
      · rw [hc] at HKN
        have HC := Lib.hid hc
        clear hc
        have HRN := Lib.hid (show recOk (keysOf l) names = recOk (keysOf l ++ names.take (k + 1)) (names.drop (k + 1)) by rw [HR.out, HD.out, recOk_cons, HC.out, HTS.out, ← List.append_assoc]; rfl)
        go_wp2_with (first
          | (go_at_call 70
             (with_reducible refine HKN.out.mono ?_)
             rintro e w1 ⟨rfl, hb1⟩
             obtain ⟨v1, rfl⟩ : ∃ W, W = w1 := ⟨_, rfl⟩
             have HM1 := Lib.hid (HMA.out.under hb1)
             have BX1 := Lib.hid (box_next hb1 BX.out)
             obtain ⟨x0, x1⟩ := row2 BX1.out
             have HK1 := Lib.hid (HKM.out.trans (KeptM.of_below hb1))
             clear hb1)
          | (at_mapUpdate; refine wpList_put _ rfl _ _ _ 82 rfl Tryz.underlying82 rfl rfl rfl HM1.out HSL.out ?_ ?_; (simpa [keysOf, withV, List.contains_iff_mem, Function.comp_def] using HC.out); (intro w2 hm2 hg2; obtain ⟨v2, rfl⟩ : ∃ W, W = w2 := ⟨_, rfl⟩; have HM2 := Lib.hid hm2; have HK2 := Lib.hid (HK1.out.trans (KeptM.of_grown hg2 (by simp))); have BX2 := Lib.hid (box_kept (KeptM.of_grown hg2 (List.mem_singleton.2 rfl)) (by simp; omega) BX1.out); clear hm2 hg2)))
        go_roundg (names.length - (k + 1))
        case measure => have := HK.out; omega
        case rel => exact ⟨k + 1, by omega, by go_num, by rw [HT.out, ← List.append_assoc]; exact HM2.out, HK2.out, HRN.out, BX2.out⟩
      · rw [hc] at HKN
        have HC := Lib.hid hc
        clear hc
        have HRN := Lib.hid (show recOk (keysOf l) names = false by rw [HR.out, HD.out, recOk_cons, HC.out]; rfl)
        go_wp2_with (go_at_call 70; (with_reducible refine HKN.out.mono ?_); rintro e w1 ⟨rfl, hb1⟩)
        go_ret
        exact ⟨ret_bool HRN.out.symm, HKM.out.trans (KeptM.of_below hb1), fun h => by rw [HRN.out] at h; cases h⟩
    · have hke : k = names.length := by omega
      have HRN := Lib.hid (show recOk (keysOf l) names = true by rw [HR.out, hke, List.drop_length]; rfl)
      have HM3 := Lib.hid (show MapAt wq b (l ++ withV (.agg #[.string s1, .slice A1 m1 j1]) names) by have := HMA.out; rwa [hke, List.take_length] at this)
      clear hke
      go_wp2_with fail
      go_ret
      exact ⟨ret_bool HRN.out.symm, HKM.out, fun _ => HM3.out⟩
/-! api.Node -/
def ShN (v : Value) : Prop := ∃ s1 : ByteArray, ∃ A1 A2 A3 A4 : Option Addr, ∃ m1 j1 m2 j2 m3 j3 m4 j4 : Nat, v = .agg #[.string s1, .slice A1 m1 j1, .slice A2 m2 j2, .slice A3 m3 j3, .slice A4 m4 j4]
theorem zeroN (w : World) : (zeroValue 41).run Tryz.prog w = .ok (.agg #[.string ⟨#[]⟩, .slice none 0 0, .slice none 0 0, .slice none 0 0, .slice none 0 0]) w := by kernel_rfl
set_option maxHeartbeats 1000000 in
theorem knownN_yes {w : World} {b : Nat} {l : List (Tx × Value)} (h : MapAt w b l) {s : Tx} {s1 : ByteArray} {A1 A2 A3 A4 : Option Addr} {m1 j1 m2 j2 m3 j3 m4 j4 : Nat} (hs : (s, .agg #[.string s1, .slice A1 m1 j1, .slice A2 m2 j2, .slice A3 m3 j3, .slice A4 m4 j4]) ∈ l) : Calls Tryz.prog 73 #[.map (some b), .string (str s)] w (BoolPost true w) := by
  have hrun := h.look_yes Tryz.underlying83 hs
  clear h hs
  go_enter Tryz.func73, Tryz.ntmps73
  go_wp2_with fail
  go_ret
  first | exact ⟨rfl, (Below.refl _ _).alloc (Nat.le_refl _) _⟩ | exact ⟨rfl, Below.refl _ _⟩
set_option maxHeartbeats 1000000 in
theorem knownN_no {w : World} {b : Nat} {l : List (Tx × Value)} (h : MapAt w b l) {s : Tx} (hl : s.length ≤ maxLen) (hs : s ∉ l.map Prod.fst) : Calls Tryz.prog 73 #[.map (some b), .string (str s)] w (BoolPost false w) := by
  have hrun := h.look_no Tryz.underlying83 (zeroN w) hl hs
  clear h hs hl
  go_enter Tryz.func73, Tryz.ntmps73
  go_wp2_with fail
  go_ret
  first | exact ⟨rfl, (Below.refl _ _).alloc (Nat.le_refl _) _⟩ | exact ⟨rfl, Below.refl _ _⟩
theorem knownN_any {w : World} {b : Nat} {l : List (Tx × Value)} (h : MapAt w b l) (hv : ∀ p ∈ l, ShN p.2) {s : Tx} (hl : s.length ≤ maxLen) : Calls Tryz.prog 73 #[.map (some b), .string (str s)] w (BoolPost ((keysOf l).contains s) w) := by
  by_cases hs : s ∈ l.map Prod.fst
  · obtain ⟨⟨s', v⟩, hp, rfl⟩ := List.mem_map.1 hs
    have hc : (keysOf l).contains s' = true := by rw [List.contains_iff_mem]; exact hs
    show Calls _ _ _ _ (BoolPost ((keysOf l).contains s') w)
    rw [hc]
    have := hv _ hp
    obtain ⟨s1, A1, A2, A3, A4, m1, j1, m2, j2, m3, j3, m4, j4, rfl⟩ := this
    exact knownN_yes h hp
  · have hc : (keysOf l).contains s = false := by rw [Bool.eq_false_iff]; intro h; exact hs (List.contains_iff_mem.1 h)
    rw [hc]
    exact knownN_no h hl hs
set_option maxHeartbeats 2000000 in
theorem recordN_any {w : World} {b : Nat} {l : List (Tx × Value)} (h : MapAt w b l) (hv : ∀ p ∈ l, ShN p.2) {s1 : ByteArray} {A1 A2 A3 A4 : Option Addr} {m1 j1 m2 j2 m3 j3 m4 j4 : Nat} {va : Value} {names : List Tx} (ha : StrsAt w va names) :
    Calls Tryz.prog 48 #[.map (some b), .agg #[.string s1, .slice A1 m1 j1, .slice A2 m2 j2, .slice A3 m3 j3, .slice A4 m4 j4], va] w (RecPost b l (.agg #[.string s1, .slice A1 m1 j1, .slice A2 m2 j2, .slice A3 m3 j3, .slice A4 m4 j4]) names w) := by
  have hbl := h.lt
  have HH := Lib.hid h
  have HA := Lib.hid ha
  have HV := Lib.hid hv
  obtain ⟨A, c, rfl, hc, hm, _⟩ := ha
  have hll : names.length ≤ 9223372036854775807 := by unfold maxLen at hm; omega
  clear h hv hc hm
  go_enter Tryz.func48, Tryz.ntmps48
  go_wp2_with fail
  go_loopg [11] names.length (fun g v wr => ∃ k : Nat, k + g = names.length ∧ v = .int .i64 k ∧ MapAt wr b (l ++ withV (.agg #[.string s1, .slice A1 m1 j1, .slice A2 m2 j2, .slice A3 m3 j3, .slice A4 m4 j4]) (names.take k)) ∧ KeptM [b] w wr ∧ recOk (keysOf l) names = recOk (keysOf l ++ names.take k) (names.drop k) ∧ wr.heap[w.heap.size]? = some (.cells #[.string s1, .slice A1 m1 j1, .slice A2 m2 j2, .slice A3 m3 j3, .slice A4 m4 j4] 41 (0, 0)))
  case atStart =>
    have hb0 : Below w.heap.size w (w.alloc (.cells #[.string s1, .slice A1 m1 j1, .slice A2 m2 j2, .slice A3 m3 j3, .slice A4 m4 j4] 41)) := (Below.refl _ _).alloc (Nat.le_refl _) _
    exact ⟨0, by omega, rfl, by simpa [withV] using HH.out.under hb0, KeptM.of_below hb0, by simp, heap_alloc_new w _⟩
  case round =>
    obtain ⟨k, hkg, rfl, hma, hkm, hr, hbox⟩ := hrel
    obtain ⟨wq, rfl⟩ : ∃ W, W = wr := ⟨_, rfl⟩
    have HK := Lib.hid hkg
    have HMA := Lib.hid hma
    have HKM := Lib.hid hkm
    have HR := Lib.hid hr
    have BX := Lib.hid hbox
    have hkl : k ≤ names.length := by omega
    clear hkg hma hkm hr hbox
    by_cases hlt : k < names.length
    · obtain ⟨s, hs⟩ : ∃ s, names[k]? = some s := ⟨_, List.getElem?_eq_getElem hlt⟩
      have HSA := Lib.hid (HA.out.kept HH.out HKM.out)
      obtain ⟨A9, c9, e9, _, _, he9⟩ := HSA.out
      obtain ⟨L9, hE9, rfl, hsl⟩ := he9 k s hs
      injection e9 with e9 e10 e11
      clear e10 e11
      obtain ⟨a9, ea9, _, hzc, q9⟩ := elem1 hE9
      rw [ea9] at e9
      subst e9
      simp only [Nat.mul_one] at q9
      have HSL := Lib.hid hsl
      have HT := Lib.hid (rec_take hs (.agg #[.string s1, .slice A1 m1 j1, .slice A2 m2 j2, .slice A3 m3 j3, .slice A4 m4 j4]))
      have HD := Lib.hid (drop_consS hs)
      have HTS := Lib.hid (take_snoc hs)
      have HKN := Lib.hid (knownN_any HMA.out (fun p hp => (List.mem_append.1 hp).elim (HV.out p) (fun hq => by obtain ⟨_, _, rfl⟩ := List.mem_map.1 hq; exact ⟨_, _, _, _, _, _, _, _, _, _, _, _, _, rfl⟩)) hsl)
      rw [keysOf_app, keysOf_with] at HKN
      clear hs he9 hE9 ea9 hzc hsl
      cases hc : (keysOf l ++ names.take k).contains s
      · rw [hc] at HKN
        have HC := Lib.hid hc
        clear hc
        have HRN := Lib.hid (show recOk (keysOf l) names = recOk (keysOf l ++ names.take (k + 1)) (names.drop (k + 1)) by rw [HR.out, HD.out, recOk_cons, HC.out, HTS.out, ← List.append_assoc]; rfl)
        go_wp2_with (first
          | (go_at_call 73
             (with_reducible refine HKN.out.mono ?_)
             rintro e w1 ⟨rfl, hb1⟩
             obtain ⟨v1, rfl⟩ : ∃ W, W = w1 := ⟨_, rfl⟩
             have HM1 := Lib.hid (HMA.out.under hb1)
             have BX1 := Lib.hid (box_next hb1 BX.out)
             obtain ⟨x0, x1, x2, x3, x4⟩ := row5 BX1.out
             have HK1 := Lib.hid (HKM.out.trans (KeptM.of_below hb1))
             clear hb1)
          | (at_mapUpdate; refine wpList_put _ rfl _ _ _ 83 rfl Tryz.underlying83 rfl rfl rfl HM1.out HSL.out ?_ ?_; (simpa [keysOf, withV, List.contains_iff_mem, Function.comp_def] using HC.out); (intro w2 hm2 hg2; obtain ⟨v2, rfl⟩ : ∃ W, W = w2 := ⟨_, rfl⟩; have HM2 := Lib.hid hm2; have HK2 := Lib.hid (HK1.out.trans (KeptM.of_grown hg2 (by simp))); have BX2 := Lib.hid (box_kept (KeptM.of_grown hg2 (List.mem_singleton.2 rfl)) (by simp; omega) BX1.out); clear hm2 hg2)))
        go_roundg (names.length - (k + 1))
        case measure => have := HK.out; omega
        case rel => exact ⟨k + 1, by omega, by go_num, by rw [HT.out, ← List.append_assoc]; exact HM2.out, HK2.out, HRN.out, BX2.out⟩
      · rw [hc] at HKN
        have HC := Lib.hid hc
        clear hc
        have HRN := Lib.hid (show recOk (keysOf l) names = false by rw [HR.out, HD.out, recOk_cons, HC.out]; rfl)
        go_wp2_with (go_at_call 73; (with_reducible refine HKN.out.mono ?_); rintro e w1 ⟨rfl, hb1⟩)
        go_ret
        exact ⟨ret_bool HRN.out.symm, HKM.out.trans (KeptM.of_below hb1), fun h => by rw [HRN.out] at h; cases h⟩
    · have hke : k = names.length := by omega
      have HRN := Lib.hid (show recOk (keysOf l) names = true by rw [HR.out, hke, List.drop_length]; rfl)
      have HM3 := Lib.hid (show MapAt wq b (l ++ withV (.agg #[.string s1, .slice A1 m1 j1, .slice A2 m2 j2, .slice A3 m3 j3, .slice A4 m4 j4]) names) by have := HMA.out; rwa [hke, List.take_length] at this)
      clear hke
      go_wp2_with fail
      go_ret
      exact ⟨ret_bool HRN.out.symm, HKM.out, fun _ => HM3.out⟩
end Go.Proofs.YtbpbnebcbjacdaaGreat
