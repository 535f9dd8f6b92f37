/-
  addNode: a node's own scope, and the node behind the others.
-/
import Derived.Test.YtbpbnebcbjacdaaGreatScopeHead
import Derived.Test.YtbpbnebcbjacdaaGreatScopeItem
namespace Go.Proofs.YtbpbnebcbjacdaaGreat
open Go.RowKit
open Go.ChangeMaps Go.MapKept
open Go.Maps

/-- what a node that may be keeps small -/
def NodeFit (made : Bool) (n : QNode) : Prop := (n.funs ++ n.ins).length ≤ 2097152 ∧ n.outs.length ≤ 2097152 ∧ ∀ i ∈ n.items, rightItem made i = true ∧ (definedQ i).length ≤ 2097152 ∧ i.states.length ≤ 2097152
theorem step_head {s : SProg} {n : QNode} (h : headOk s n = false) : nodeStep s n = .inr (-1) := by simp [nodeStep, h]
theorem step_items {s : SProg} {n : QNode} (h : headOk s n = true) {b : Int} (hi : itemsF 0 s n.ins n.items = .inr b) : nodeStep s n = .inr b := by simp [nodeStep, h, hi]
theorem step_outs {s s' : SProg} {n : QNode} {vars : List Tx} (h : headOk s n = true) (hi : itemsF 0 s n.ins n.items = .inl (s', vars)) (ho : (n.outs.all (n.items.flatMap definedQ).contains) = false) : nodeStep s n = .inr (-1) := by
  have ho' : ¬ (n.outs.all fun o => (n.items.flatMap definedQ).contains o) = true := by rw [Bool.not_eq_true]; exact ho
  rw [nodeStep, if_pos h, hi]
  simp only
  rw [if_neg ho']
theorem step_uses {s s' : SProg} {n : QNode} {vars : List Tx} (h : headOk s n = true) (hi : itemsF 0 s n.ins n.items = .inl (s', vars)) (ho : (n.outs.all (n.items.flatMap definedQ).contains) = true) {b : Int} (hu : usesF ⟨s', n.funs, vars⟩ 0 n.items = some b) : nodeStep s n = .inr b := by
  have ho' : (n.outs.all fun o => (n.items.flatMap definedQ).contains o) = true := ho
  rw [nodeStep, if_pos h, hi]
  simp only
  rw [if_pos ho', hu]
theorem step_ok {s s' : SProg} {n : QNode} {vars : List Tx} (h : headOk s n = true) (hi : itemsF 0 s n.ins n.items = .inl (s', vars)) (ho : (n.outs.all (n.items.flatMap definedQ).contains) = true) (hu : usesF ⟨s', n.funs, vars⟩ 0 n.items = none) : nodeStep s n = .inl { s' with nodes := s'.nodes ++ [(n.name, n)] } := by
  have ho' : (n.outs.all fun o => (n.items.flatMap definedQ).contains o) = true := ho
  rw [nodeStep, if_pos h, hi]
  simp only
  rw [if_pos ho', hu]
theorem itemsF_cons (b : Int) (s : SProg) (vars : List Tx) (i : QItem) (r : List QItem) : itemsF b s vars (i :: r) = if itemOk s vars i = true then itemsF (b + 1) (s.addItem i) (vars ++ definedQ i) r else .inr b := rfl
theorem usesF_cons (s : SNode) (b : Int) (i : QItem) (r : List QItem) : usesF s b (i :: r) = if usesItem s i = true then usesF s (b + 1) r else some b := rfl
theorem keys_int (n : Int) (l : List Tx) : keysOf (withV (.int .i64 n) l) = l := keysOf_with _ _
theorem sh_int (n : Int) (l : List Tx) : ∀ p ∈ withV (.int .i64 n) l, ShI p.2 := by
  intro p hp
  obtain ⟨_, _, rfl⟩ := List.mem_map.1 hp
  exact ⟨n, rfl⟩
theorem sh_app {l m : List (Tx × Value)} (h1 : ∀ p ∈ l, ShI p.2) (h2 : ∀ p ∈ m, ShI p.2) : ∀ p ∈ l ++ m, ShI p.2 := by
  intro p hp
  rcases List.mem_append.1 hp with hp | hp
  · exact h1 p hp
  · exact h2 p hp
theorem ValR.ins (l : List Tx) : ValR (withV (.int .i64 (-1)) l) [] := by
  refine ⟨fun p hp => ?_, fun o ho => absurd ho (List.not_mem_nil)⟩
  obtain ⟨_, _, rfl⟩ := List.mem_map.1 hp
  exact ⟨-1, rfl, by simp⟩
theorem ValR.snoc {l : List (Tx × Value)} {D names : List Tx} (h : ValR l D) {b : Int} (hb : 0 ≤ b) (hn : ((keysOf l) ++ names).Nodup) : ValR (l ++ withV (.int .i64 b) names) (D ++ names) := by
  refine ⟨fun p hp => ?_, fun o ho => ?_⟩
  · rcases List.mem_append.1 hp with hp | hp
    · obtain ⟨n, h1, h2⟩ := h.1 p hp
      refine ⟨n, h1, h2.trans ?_⟩
      rw [List.mem_append, not_or]
      refine ⟨fun h => ⟨h, fun hm => ?_⟩, fun h => h.1⟩
      exact (List.nodup_append.1 hn).2.2 p.1 (List.mem_map_of_mem hp) p.1 hm rfl
    · obtain ⟨s, hs, rfl⟩ := List.mem_map.1 hp
      refine ⟨b, rfl, ?_⟩
      constructor
      · intro e; omega
      · intro e; exact absurd (List.mem_append_right _ hs) e
  · rw [List.map_append, List.mem_append]
    rcases List.mem_append.1 ho with ho | ho
    · exact .inl (h.2 o ho)
    · exact .inr (by rw [show (withV (.int .i64 b) names).map Prod.fst = names from keysOf_with _ _]; exact ho)
theorem MapAt.nodup {w : World} {b : Nat} {l : List (Tx × Value)} (h : MapAt w b l) : (keysOf l).Nodup := by
  obtain ⟨_, _, _, _, h, _⟩ := h
  exact h
theorem KeptM.cut {M M' : List Nat} {w V w' : World} (hk : KeptM M V w') (hb : Below w.heap.size w V) (hM : ∀ x ∈ M, x ∈ M' ∨ w.heap.size ≤ x) : KeptM M' w w' := by
  refine ⟨hk.os.trans hb.os, hk.tape.trans hb.tape, hk.output.trans hb.output, Nat.le_trans hb.size hk.size, fun k hlt hm => ?_⟩
  have h2 : k ∉ M := fun h => by
    rcases hM k h with h | h
    · exact hm h
    · omega
  exact (hk.block k (Nat.lt_of_lt_of_le hlt hb.size) h2).trans (hb.block k hlt)
/-- what addNode leaves -/
def NodePost (P e1 c1 n1 t1 : Nat) (s : SProg) (n : QNode) (w : World) (e : Ending) (w' : World) : Prop :=
  (match nodeStep s n with
   | .inr b => e = .returned (.tuple #[.int .i64 b, .bool false])
   | .inl s' => e = .returned (.tuple #[.int .i64 0, .bool true]) ∧ ScopeAt w' P e1 c1 n1 t1 s') ∧ KeptM [n1, t1] w w'
theorem node_no {P e1 c1 n1 t1 : Nat} {s : SProg} {n : QNode} {w w' : World} {b : Int} (h : nodeStep s n = .inr b) (hk : KeptM [n1, t1] w w') : NodePost P e1 c1 n1 t1 s n w (.returned (.tuple #[.int .i64 b, .bool false])) w' :=
  ⟨by rw [h], hk⟩
theorem node_yes {P e1 c1 n1 t1 : Nat} {s s' : SProg} {n : QNode} {w w' : World} (h : nodeStep s n = .inl s') (hs : ScopeAt w' P e1 c1 n1 t1 s') (hk : KeptM [n1, t1] w w') : NodePost P e1 c1 n1 t1 s n w (.returned (.tuple #[.int .i64 0, .bool true])) w' :=
  ⟨by rw [h]; exact ⟨rfl, hs⟩, hk⟩
/-- maps are written, the rest is kept -/
def MapsIn (w : World) (M : List Nat) : Prop := ∀ b ∈ M, ∃ l, MapAt w b l
theorem MapsIn.two {w : World} {a b : Nat} {l m : List (Tx × Value)} (h1 : MapAt w a l) (h2 : MapAt w b m) : MapsIn w [a, b] := by
  intro x hx
  simp only [List.mem_cons, List.not_mem_nil, or_false] at hx
  rcases hx with rfl | rfl
  · exact ⟨_, h1⟩
  · exact ⟨_, h2⟩
theorem MapsIn.box {w w' : World} {M : List Nat} (hM : MapsIn w M) (hk : KeptM M w w') {g : Nat} {cs : Array Value} {T0 : TypeId} (h : w.heap[g]? = some (.cells cs T0 (0, 0))) : w'.heap[g]? = some (.cells cs T0 (0, 0)) :=
  box_kept hk (fun hg => by obtain ⟨l, hl⟩ := hM g hg; exact hl.notbox h rfl) h
theorem MapsIn.strs {w w' : World} {M : List Nat} (hM : MapsIn w M) (hk : KeptM M w w') {v : Value} {names : List Tx} (ha : StrsAt w v names) : StrsAt w' v names := by
  obtain ⟨A, c, rfl, h1, h2, h3⟩ := ha
  refine ⟨A, c, rfl, h1, h2, fun i x hx => ?_⟩
  obtain ⟨L, ⟨a, ea, hc⟩, hR⟩ := h3 i x hx
  refine ⟨L, ⟨a, ea, fun j u hu => ?_⟩, hR⟩
  have h0 := hc j u hu
  rw [hk.cell (World.block_lt_of_cell? w _ h0) (fun hg => by obtain ⟨l, hl⟩ := hM _ hg; exact hl.notcell h0 rfl)]
  exact h0
theorem ScopeAt.others {w w' : World} {P e c n t : Nat} {s : SProg} {M : List Nat} (h : ScopeAt w P e c n t s) (hM : MapsIn w M) (hk : KeptM M w w') (hf : e ∉ M ∧ c ∉ M ∧ n ∉ M ∧ t ∉ M) : ScopeAt w' P e c n t s := by
  obtain ⟨h1, h2, h3, h4⟩ := hf
  obtain ⟨lc, hc, hr⟩ := h.mc
  obtain ⟨ln, hn, hq⟩ := h.mn
  exact ⟨hM.box hk h.box, h.me.keptM hk h1, ⟨lc, hc.keptM hk h2, hr.1, fun i a b ha hb => by obtain ⟨s, A, m, j, e, hs⟩ := hr.2 i a b ha hb; exact ⟨s, A, m, j, e, hM.strs hk hs⟩⟩, ⟨ln, hn.keptM hk h3, hq⟩, h.mt.keptM hk h4, h.nd⟩
theorem NodesR.snoc {l : List (Tx × Value)} {ns : List (Tx × QNode)} (h : NodesR l ns) {s : Tx} {v : Value} {q : QNode} (hv : NodeV v q) : NodesR (l ++ withV v [s]) (ns ++ [(s, q)]) := by
  have hlen : l.length = ns.length := by have := congrArg List.length h.1; simpa [keysOf] using this
  refine ⟨by rw [keysOf_app, h.1, List.map_append]; rfl, fun i a b ha hb => ?_⟩
  by_cases hi : i < l.length
  · rw [List.getElem?_append_left hi] at ha
    rw [List.getElem?_append_left (by omega)] at hb
    exact h.2 i a b ha hb
  · rw [List.getElem?_append_right (by omega)] at ha
    rw [List.getElem?_append_right (by omega)] at hb
    have h1 := List.mem_of_getElem? ha
    have h2 := List.mem_of_getElem? hb
    obtain ⟨x, _, rfl⟩ := List.mem_map.1 h1
    rw [List.mem_singleton] at h2
    subst h2
    exact hv
/-- how far the items have been recorded -/
def ItemsTo (sp : SProg) (n : QNode) (k : Nat) (s : SProg) (lv : List (Tx × Value)) : Prop :=
  itemsF 0 sp n.ins n.items = itemsF k s (keysOf lv) (n.items.drop k) ∧ s.nodes = sp.nodes ∧ (∀ p ∈ lv, ShI p.2) ∧ ValR lv ((n.items.take k).flatMap definedQ)
theorem ItemsTo.zero (sp : SProg) (n : QNode) : ItemsTo sp n 0 sp (withV (.int .i64 (-1)) n.ins) := ⟨by rw [keys_int]; rfl, rfl, sh_int _ _, by simpa using ValR.ins n.ins⟩
theorem ItemsTo.succ {sp s : SProg} {n : QNode} {k : Nat} {lv : List (Tx × Value)} (h : ItemsTo sp n k s lv) {i : QItem} (hi : n.items[k]? = some i) (hok : itemOk s (keysOf lv) i = true) (hnd : (keysOf (lv ++ withV (.int .i64 k) (definedQ i))).Nodup) :
    ItemsTo sp n (k + 1) (s.addItem i) (lv ++ withV (.int .i64 k) (definedQ i)) := by
  obtain ⟨h1, h2, h3, h4⟩ := h
  rw [keysOf_app, keys_int] at hnd
  refine ⟨?_, h2, sh_app h3 (sh_int _ _), ?_⟩
  · rw [h1, drop_consS hi, itemsF_cons, if_pos hok, keysOf_app, keys_int]; rfl
  · rw [take_snoc hi, List.flatMap_append]
    have := h4.snoc (b := k) (by omega) hnd
    simpa using this
theorem ItemsTo.no {sp s : SProg} {n : QNode} {k : Nat} {lv : List (Tx × Value)} (h : ItemsTo sp n k s lv) {i : QItem} (hi : n.items[k]? = some i) (hok : itemOk s (keysOf lv) i = false) : itemsF 0 sp n.ins n.items = .inr k := by
  rw [h.1, drop_consS hi, itemsF_cons, if_neg (by rw [hok]; simp)]
theorem ItemsTo.done {sp s : SProg} {n : QNode} {k : Nat} {lv : List (Tx × Value)} (h : ItemsTo sp n k s lv) (hk : k = n.items.length) : itemsF 0 sp n.ins n.items = .inl (s, keysOf lv) ∧ ValR lv (n.items.flatMap definedQ) := by
  subst hk
  obtain ⟨h1, _, _, h4⟩ := h
  rw [List.take_length] at h4
  exact ⟨by rw [h1, List.drop_length]; rfl, h4⟩
section
variable {P e1 c1 n1 t1 : Nat} {sp : SProg}
set_option maxHeartbeats 16000000 in
set_option maxRecDepth 100000 in
theorem addNode_any {made : Bool} {w0 : World} {L : List Value} {n : QNode} (hL : NodeAt w0 L n) (hfit : NodeFit made n) {w : World} (hb : Below w0.heap.size w0 w) (hS : ScopeAt w P e1 c1 n1 t1 sp) (hn1 : w0.heap.size ≤ n1) (ht1 : w0.heap.size ≤ t1) :
    Calls Tryz.prog 27 #[.pointer (some ⟨P, 0, none⟩), .agg L.toArray] w (NodePost P e1 c1 n1 t1 sp n w) := by
  have hmm := @run_makeMap Tryz.prog
  obtain ⟨hf1, hf2, hf3⟩ := hfit
  have HF1 := Lib.hid hf1
  have HF2 := Lib.hid hf2
  have HF3 := Lib.hid hf3
  have HB := Lib.hid hb
  have HS := Lib.hid hS
  have hsz := hb.size
  obtain ⟨fv, iv, ov, xv, rfl, hnl, hfu, hin, hou, hit⟩ := hL
  have HNL := Lib.hid hnl
  have HFU := Lib.hid hfu
  have HIN := Lib.hid hin
  have HOU := Lib.hid hou
  obtain ⟨fA, fk, rfl, q1, q2, q3⟩ := hfu
  obtain ⟨iA, ik, rfl, q4, q5, q6⟩ := hin
  obtain ⟨oA, ok, rfl, q7, q8, q9⟩ := hou
  obtain ⟨xA, xk, rfl, hxc, hxm, hxe⟩ := hit
  have HXE := Lib.hid hxe
  have hxl : n.items.length ≤ 9223372036854775807 := by have h : n.items.length ≤ xk := hxc; unfold maxLen at hxm; omega
  clear hf1 hf2 hf3 hb hS hnl hxc hxm hxe q1 q2 q3 q4 q5 q6 q7 q8 q9
  go_enter Tryz.func27, Tryz.ntmps27
  go_wp2_with fail
  clear hmm
  generalize hV : (((w.alloc (.cells #[.string (str n.name), .slice fA n.funs.length fk, .slice iA n.ins.length ik, .slice oA n.outs.length ok, .slice xA n.items.length xk] 41)).alloc (.map #[] 0)).alloc (.map #[] 0)).alloc (.cells #[.pointer (some ⟨P, 0, none⟩), .string (str n.name), .slice fA n.funs.length fk, .slice iA n.ins.length ik, .slice oA n.outs.length ok, .slice xA n.items.length xk, .map (some (w.heap.size + 1)), .map (some (w.heap.size + 1 + 1))] 92) = V
  have al : ∀ (W : World) (o : Obj), Below W.heap.size W (W.alloc o) := fun W o => (Below.refl _ W).alloc (Nat.le_refl _) _
  have a1 := al w (.cells #[.string (str n.name), .slice fA n.funs.length fk, .slice iA n.ins.length ik, .slice oA n.outs.length ok, .slice xA n.items.length xk] 41)
  have m2 := MapAt.made (w.alloc (.cells #[.string (str n.name), .slice fA n.funs.length fk, .slice iA n.ins.length ik, .slice oA n.outs.length ok, .slice xA n.items.length xk] 41))
  have m3 := MapAt.made ((w.alloc (.cells #[.string (str n.name), .slice fA n.funs.length fk, .slice iA n.ins.length ik, .slice oA n.outs.length ok, .slice xA n.items.length xk] 41)).alloc (.map #[] 0))
  have m4 := heap_alloc_new (((w.alloc (.cells #[.string (str n.name), .slice fA n.funs.length fk, .slice iA n.ins.length ik, .slice oA n.outs.length ok, .slice xA n.items.length xk] 41)).alloc (.map #[] 0)).alloc (.map #[] 0)) (.cells #[.pointer (some ⟨P, 0, none⟩), .string (str n.name), .slice fA n.funs.length fk, .slice iA n.ins.length ik, .slice oA n.outs.length ok, .slice xA n.items.length xk, .map (some (w.heap.size + 1)), .map (some (w.heap.size + 1 + 1))] 92)
  have m1 := heap_alloc_new w (.cells #[.string (str n.name), .slice fA n.funs.length fk, .slice iA n.ins.length ik, .slice oA n.outs.length ok, .slice xA n.items.length xk] 41)
  simp only [World.size_alloc] at m2 m3 m4
  have HV := Lib.hid (show Below w.heap.size w V by rw [← hV]; exact ((a1.alloc (by simp) _).alloc (by simp <;> omega) _).alloc (by simp <;> omega) _)
  have H1 := Lib.hid (show MapAt V (w.heap.size + 1) [] by rw [← hV]; exact (m2.under (al _ _)).under (al _ _))
  have H2 := Lib.hid (show MapAt V (w.heap.size + 1 + 1) [] by rw [← hV]; exact m3.under (al _ _))
  have BS := Lib.hid (show V.heap[w.heap.size + 1 + 1 + 1]? = some (.cells #[.pointer (some ⟨P, 0, none⟩), .string (str n.name), .slice fA n.funs.length fk, .slice iA n.ins.length ik, .slice oA n.outs.length ok, .slice xA n.items.length xk, .map (some (w.heap.size + 1)), .map (some (w.heap.size + 1 + 1))] 92 (0, 0)) by rw [← hV]; exact m4)
  have BN := Lib.hid (show V.heap[w.heap.size]? = some (.cells #[.string (str n.name), .slice fA n.funs.length fk, .slice iA n.ins.length ik, .slice oA n.outs.length ok, .slice xA n.items.length xk] 41 (0, 0)) by rw [← hV]; exact alloc_below (alloc_below (alloc_below m1)))
  clear hV m1 m2 m3 m4 a1 al
  have HSV := Lib.hid (HS.out.under HV.out)
  have hle1 := HS.out.me.lt
  have hlc1 : c1 < w.heap.size := by obtain ⟨_, h, _⟩ := HS.out.mc; exact h.lt
  have hln1 : n1 < w.heap.size := by obtain ⟨_, h, _⟩ := HS.out.mn; exact h.lt
  have hlt1 := HS.out.mt.lt
  generalize hS0 : w.heap.size + 1 + 1 + 1 = S at *
  generalize hv0 : w.heap.size + 1 + 1 = v1 at *
  generalize hf0 : w.heap.size + 1 = f1 at *
  have hlf : w.heap.size ≤ f1 := by omega
  have hlv : w.heap.size ≤ v1 := by omega
  have hfv : f1 ≠ v1 := by omega
  have HFV := Lib.hid hfv
  have HX1 := Lib.hid hS0
  have HX2 := Lib.hid hv0
  have HX3 := Lib.hid hf0
  have HCUT1 := Lib.hid (show ∀ x ∈ [f1, v1], x ∈ [n1, t1] ∨ w.heap.size ≤ x by intro x hx; simp only [List.mem_cons, List.not_mem_nil, or_false] at hx; rcases hx with rfl | rfl <;> (right; omega))
  have HCUT2 := Lib.hid (show ∀ x ∈ [f1, v1, t1, n1], x ∈ [n1, t1] ∨ w.heap.size ≤ x by
    intro x hx
    simp only [List.mem_cons, List.not_mem_nil, or_false] at hx ⊢
    rcases hx with rfl | rfl | rfl | rfl
    · right; omega
    · right; omega
    · left; right; rfl
    · left; left; rfl)
  have HNV := Lib.hid (show v1 ≠ e1 ∧ v1 ≠ c1 ∧ v1 ≠ n1 ∧ v1 ≠ t1 by omega)
  have HNF := Lib.hid (show f1 ≠ e1 ∧ f1 ≠ c1 ∧ f1 ≠ n1 ∧ f1 ≠ t1 by omega)
  have HOLD := Lib.hid (show e1 ∉ [f1, v1] ∧ c1 ∉ [f1, v1] ∧ n1 ∉ [f1, v1] ∧ t1 ∉ [f1, v1] by simp; omega)
  have HBV := Lib.hid (HB.out.trans (HV.out.mono hsz))
  have hv1w : w0.heap.size ≤ v1 := by omega
  have hf1w : w0.heap.size ≤ f1 := by omega
  clear hS0 hv0 hf0 hfv
  cases hhd : headOk sp n
  · have HHD := Lib.hid hhd
    clear hhd
    go_wp2_with (go_at_call 44
                 (with_reducible refine (addHead_any HSV.out BS.out (HFU.out.under HBV.out) (HIN.out.under HBV.out) (HOU.out.under HBV.out) HNL.out H1.out H2.out HFV.out HF1.out HF2.out).mono ?_)
                 rintro e w7 ⟨he, hk, _⟩
                 rw [HHD.out] at he
                 subst he
                 have HK7 := Lib.hid (hk.cut HV.out HCUT1.out)
                 clear hk)
    go_ret2
    exact node_no (step_head HHD.out) HK7.out
  · have HHD := Lib.hid hhd
    clear hhd
    go_wp2_with (go_at_call 44
                 (with_reducible refine (addHead_any HSV.out BS.out (HFU.out.under HBV.out) (HIN.out.under HBV.out) (HOU.out.under HBV.out) HNL.out H1.out H2.out HFV.out HF1.out HF2.out).mono ?_)
                 rintro e w7 ⟨he, hk, hm⟩
                 rw [HHD.out] at he
                 subst he
                 obtain ⟨V1, rfl⟩ : ∃ W, W = w7 := ⟨_, rfl⟩
                 have MI := MapsIn.two H1.out H2.out
                 have HK1 := Lib.hid hk
                 have HMF1 := Lib.hid (hm HHD.out).1
                 have HMV1 := Lib.hid (hm HHD.out).2
                 have HS1 := Lib.hid (HSV.out.others MI hk HOLD.out)
                 have BS1 := Lib.hid (MI.box hk BS.out)
                 have BN1 := Lib.hid (MI.box hk BN.out)
                 have HB1 := Lib.hid (HBV.out.trans (hk.below (B := w0.heap.size) (by intro x hx; simp only [List.mem_cons, List.not_mem_nil, or_false] at hx; rcases hx with rfl | rfl <;> omega) HBV.out.size))
                 obtain ⟨nb0, nb1, nb2, nb3, nb4⟩ := row5 BN1.out
                 clear hk hm MI)
    have MI1 := Lib.hid (MapsIn.two HS1.out.mt HMV1.out)
    clear nb0 nb1 nb2 nb3
    go_loopg [23] n.items.length (fun g v wr => ∃ (k : Nat) (s : SProg) (lv : List (Tx × Value)), k + g = n.items.length ∧ v = .int .i64 k ∧ ItemsTo sp n k s lv ∧ ScopeAt wr P e1 c1 n1 t1 s ∧ MapAt wr v1 lv ∧ KeptM [t1, v1] V1 wr)
    case atStart => exact ⟨0, sp, _, by omega, rfl, ItemsTo.zero sp n, HS1.out, HMV1.out, KeptM.refl _ _⟩
    case round =>
      obtain ⟨wq, rfl⟩ : ∃ W, W = wr := ⟨_, rfl⟩
      obtain ⟨k, s, lv, hkg, rfl, hto, hsq, hmq, hkq⟩ := hrel
      have HK := Lib.hid hkg
      have HTO := Lib.hid hto
      have HSQ := Lib.hid hsq
      have HMQ := Lib.hid hmq
      have HKQ := Lib.hid hkq
      have BSQ := Lib.hid (MI1.out.box hkq BS1.out)
      have BNQ := Lib.hid (MI1.out.box hkq BN1.out)
      have HBQ := Lib.hid (HB1.out.trans (hkq.below (B := w0.heap.size) (by intro x hx; simp only [List.mem_cons, List.not_mem_nil, or_false] at hx; rcases hx with rfl | rfl <;> omega) HB1.out.size))
      have hkl : k ≤ n.items.length := by omega
      clear hkg hto hsq hmq hkq nb4
      by_cases hlt : k < n.items.length
      · obtain ⟨i, hi⟩ : ∃ i, n.items[k]? = some i := ⟨_, List.getElem?_eq_getElem hlt⟩
        have HI := Lib.hid hi
        obtain ⟨_, hi2, hi3⟩ := HF3.out i (List.mem_of_getElem? hi)
        obtain ⟨Li, hEI, hIi⟩ := HXE.out k i hi
        have HIT := Lib.hid hIi
        obtain ⟨A0, n0, k0, o1, s2, o3, A4, n4, k4, A5, n5, k5, A6, n6, k6, rfl⟩ := hIi.shape
        obtain ⟨a, ea, ha, haa, d0, d1, d2, d3, d4, d5, d6⟩ := elem7 (hEI.under HBQ.out)
        subst ea
        have hal := Lib.hid ((Below.refl wq.heap.size wq).alloc (Nat.le_refl _) (.cells #[.slice A0 n0 k0, .int .i64 o1, .string s2, .int .i64 o3, .slice A4 n4 k4, .slice A5 n5 k5, .slice A6 n6 k6] 55))
        have HBZ := Lib.hid (HBQ.out.trans (hal.out.mono HBQ.out.size))
        have HI2 := Lib.hid hi2
        have HI3 := Lib.hid hi3
        have BSZ := Lib.hid (box_next hal.out BSQ.out)
        have HSZ := Lib.hid (HSQ.out.under hal.out)
        have HMZ := Lib.hid (HMQ.out.under hal.out)
        have HADD := Lib.hid (addItem_any HIT.out HI2.out HI3.out HBZ.out HSZ.out ht1 hv1w HNV.out BSZ.out HMZ.out HTO.out.2.2.1 (k : Int))
        clear hi hEI hIi hi2 hi3
        cases hok : itemOk s (keysOf lv) i
        · have HOK := Lib.hid hok
          clear hok
          go_wp2_with (go_at_call 45
                       (with_reducible refine HADD.out.mono ?_)
                       rintro e w9 ⟨he, hk9, _⟩
                       rw [HOK.out] at he
                       subst he
                       have HK9 := Lib.hid (((HKQ.out.mono (M' := [f1, v1, t1, n1]) (by simp)).trans (KeptM.of_below hal.out)).trans (hk9.mono (by simp)))
                       clear hk9)
          go_ret2
          exact node_no (step_items HHD.out (HTO.out.no HI.out HOK.out)) (((HK1.out.mono (by simp)).trans HK9.out).cut HV.out HCUT2.out)
        · have HOK := Lib.hid hok
          clear hok
          go_wp2_with (go_at_call 45
                       (with_reducible refine HADD.out.mono ?_)
                       rintro e w9 ⟨he, hk9, hs9⟩
                       rw [HOK.out] at he
                       subst he
                       have HK9 := Lib.hid ((HKQ.out.trans (KeptM.of_below hal.out)).trans hk9)
                       have HS9 := Lib.hid (hs9 HOK.out)
                       clear hk9 hs9)
          go_roundg (n.items.length - (k + 1))
          case measure => have := HK.out; omega
          case rel => exact ⟨k + 1, _, _, by omega, by go_num, HTO.out.succ HI.out HOK.out HS9.out.2.nodup, HS9.out.1, HS9.out.2, HK9.out⟩
      · have hke : k = n.items.length := by omega
        obtain ⟨hit1, hval⟩ := HTO.out.done hke
        have HIT1 := Lib.hid hit1
        have HVAL := Lib.hid hval
        have HND := Lib.hid HTO.out.2.1
        have HMFQ := Lib.hid (HMF1.out.keptM HKQ.out (by simp only [List.mem_cons, List.not_mem_nil, or_false, not_or]; exact ⟨HNF.out.2.2.2, HFV.out⟩))
        have HSHQ := Lib.hid HTO.out.2.2.1
        clear hke hit1 hval
        have HOUQ := Lib.hid (HOU.out.under HBQ.out)
        have HKV := Lib.hid ((HK1.out.mono (M' := [f1, v1, t1, n1]) (by simp)).trans (HKQ.out.mono (by simp)))
        cases hou : n.outs.all (n.items.flatMap definedQ).contains
        · have HO := Lib.hid hou
          clear hou
          go_wp2_with (go_at_call 46
                       (with_reducible refine (definesOuts_any BSQ.out HMQ.out HVAL.out HOUQ.out).mono ?_)
                       rintro e w9 ⟨he, hb9⟩
                       rw [HO.out] at he
                       subst he
                       have HK9 := Lib.hid (HKV.out.trans (KeptM.of_below hb9))
                       clear hb9)
          go_ret2
          exact node_no (step_outs HHD.out HIT1.out HO.out) (HK9.out.cut HV.out HCUT2.out)
        · have HO := Lib.hid hou
          clear hou
          go_wp2_with (go_at_call 46
                       (with_reducible refine (definesOuts_any BSQ.out HMQ.out HVAL.out HOUQ.out).mono ?_)
                       rintro e w9 ⟨he, hb9⟩
                       rw [HO.out] at he
                       subst he
                       obtain ⟨V2, rfl⟩ : ∃ W, W = w9 := ⟨_, rfl⟩
                       have HK2 := Lib.hid (HKV.out.trans (KeptM.of_below hb9))
                       have HS2 := Lib.hid (HSQ.out.under hb9)
                       have HM2 := Lib.hid (HMQ.out.under hb9)
                       have HMF2 := Lib.hid (HMFQ.out.under hb9)
                       have BS2 := Lib.hid (box_next hb9 BSQ.out)
                       have BN2 := Lib.hid (box_next hb9 BNQ.out)
                       have HB2 := Lib.hid (HBQ.out.trans (hb9.mono HBQ.out.size))
                       obtain ⟨nb0, nb1, nb2, nb3, nb4⟩ := row5 BN2.out
                       clear hb9)
          have HNS := Lib.hid (show NScope V2 S P e1 c1 n1 t1 f1 v1 (.string (str n.name), .slice fA n.funs.length fk, .slice iA n.ins.length ik, .slice oA n.outs.length ok, .slice xA n.items.length xk) ⟨s, n.funs, keysOf lv⟩ from
            ⟨HS2.out, BS2.out, HMF2.out, ⟨lv, HM2.out, rfl, HSHQ.out⟩, HNF.out, ⟨HNV.out.1, HNV.out.2.1, HNV.out.2.2.1, HNV.out.2.2.2, fun e => HFV.out e.symm⟩⟩)
          generalize hns : (⟨s, n.funs, keysOf lv⟩ : SNode) = nsc at HNS
          have HNSC := Lib.hid hns
          clear hns nb0 nb1 nb2 nb3
          go_loopg [41] n.items.length (fun g v wr => ∃ j : Nat, j + g = n.items.length ∧ v = .int .i64 j ∧ usesF nsc 0 n.items = usesF nsc j (n.items.drop j) ∧ Below V2.heap.size V2 wr)
          case atStart => exact ⟨0, by omega, rfl, rfl, Below.refl _ _⟩
          case round =>
            obtain ⟨wz, rfl⟩ : ∃ W, W = wr := ⟨_, rfl⟩
            obtain ⟨j, hjg, rfl, hus, hbw⟩ := hrel
            have HJ := Lib.hid hjg
            have HUS := Lib.hid hus
            have HWZ := Lib.hid hbw
            have HBW := Lib.hid (HB2.out.trans (hbw.mono HB2.out.size))
            have hjl : j ≤ n.items.length := by omega
            clear hjg hus hbw nb4
            by_cases hlt2 : j < n.items.length
            · obtain ⟨i, hi⟩ : ∃ i, n.items[j]? = some i := ⟨_, List.getElem?_eq_getElem hlt2⟩
              have HDR := Lib.hid (drop_consS hi)
              obtain ⟨hi1, _⟩ := HF3.out i (List.mem_of_getElem? hi)
              have HI1 := Lib.hid hi1
              obtain ⟨Li, hEI, hIi⟩ := HXE.out j i hi
              have HIT := Lib.hid (hIi.under HB2.out)
              obtain ⟨A0, n0, k0, o1, s2, o3, A4, n4, k4, A5, n5, k5, A6, n6, k6, rfl⟩ := hIi.shape
              obtain ⟨a, ea, ha, haa, d0, d1, d2, d3, d4, d5, d6⟩ := elem7 (hEI.under HBW.out)
              subst ea
              have hal := Lib.hid ((Below.refl wz.heap.size wz).alloc (Nat.le_refl _) (.cells #[.slice A0 n0 k0, .int .i64 o1, .string s2, .int .i64 o3, .slice A4 n4 k4, .slice A5 n5 k5, .slice A6 n6 k6] 55))
              have HUZ := Lib.hid (HWZ.out.trans (hal.out.mono HWZ.out.size))
              have HUSE := Lib.hid (uses_any HNS.out HIT.out HI1.out _ HUZ.out)
              clear hi hEI hIi hi1
              cases hok : usesItem nsc i
              · have HOK := Lib.hid hok
                have HNO := Lib.hid (show usesF ⟨s, n.funs, keysOf lv⟩ 0 n.items = some (j : Int) by rw [HNSC.out, HUS.out, HDR.out, usesF_cons, if_neg (by rw [hok]; simp)])
                clear hok
                go_wp2_with (go_at_call 47
                             (with_reducible refine HUSE.out.mono ?_)
                             rintro e w9 ⟨he, hb9⟩
                             rw [HOK.out] at he
                             subst he
                             have HK9 := Lib.hid ((HK2.out.trans (KeptM.of_below HUZ.out)).trans (KeptM.of_below hb9))
                             clear hb9)
                go_ret2
                exact node_no (step_uses HHD.out HIT1.out HO.out HNO.out) (HK9.out.cut HV.out HCUT2.out)
              · have HOK := Lib.hid hok
                have HNX := Lib.hid (show usesF nsc 0 n.items = usesF nsc (j + 1 : Nat) (n.items.drop (j + 1)) by rw [HUS.out, HDR.out, usesF_cons, if_pos hok]; rfl)
                clear hok
                go_wp2_with (go_at_call 47
                             (with_reducible refine HUSE.out.mono ?_)
                             rintro e w9 ⟨he, hb9⟩
                             rw [HOK.out] at he
                             subst he
                             have HB9 := Lib.hid (HUZ.out.trans (hb9.mono HUZ.out.size))
                             clear hb9)
                go_roundg (n.items.length - (j + 1))
                case measure => have := HJ.out; omega
                case rel => exact ⟨j + 1, by omega, by go_num, HNX.out, HB9.out⟩
            · have hje : j = n.items.length := by omega
              have HNO := Lib.hid (show usesF ⟨s, n.funs, keysOf lv⟩ 0 n.items = none by rw [HNSC.out, HUS.out, hje, List.drop_length]; rfl)
              have HSW := Lib.hid (HS2.out.under HWZ.out)
              have BNW := Lib.hid (box_next HWZ.out BN2.out)
              obtain ⟨_, _, x2, _⟩ := HSW.out.row
              obtain ⟨nb0, nb1, nb2, nb3, nb4⟩ := row5 BNW.out
              have hPl := lt_of_heap HSW.out.box
              have hNl := lt_of_heap BNW.out
              obtain ⟨ln, hmn, hrn⟩ := HSW.out.mn
              have HMN := Lib.hid hmn
              have HRN := Lib.hid hrn
              have HROK := Lib.hid (show recOk (keysOf ln) [n.name] = true by
                have h1 := HHD.out
                rw [headOk, Bool.and_eq_true] at h1
                have h2 : keysOf ln = sp.nodeKeys := by rw [hrn.1, HND.out]; rfl
                rw [recOk_cons, h2, h1.1]; rfl)
              clear hje hmn hrn
              go_wp2_with fail
              refine wp_region_held_drew (S := (fun W => W.cell? ⟨P, 2, none⟩ = some (.map (some n1)) ∧ W.cell? ⟨w.heap.size, 0, none⟩ = some (.string (str n.name)) ∧ W.cell? ⟨w.heap.size, 1, none⟩ = some (.slice fA n.funs.length fk) ∧ W.cell? ⟨w.heap.size, 2, none⟩ = some (.slice iA n.ins.length ik) ∧ W.cell? ⟨w.heap.size, 3, none⟩ = some (.slice oA n.outs.length ok) ∧ W.cell? ⟨w.heap.size, 4, none⟩ = some (.slice xA n.items.length xk))) (by kernel_rfl) ?_ (fun hHeld => ?_)
              · (try dsimp only); go_keep
              refine take_now 0 rfl ?_
              try simp only [Act.put, setA, setZ, setS]
              refine take_now 1 rfl ?_
              try simp only [Act.put, setA, setZ, setS]
              refine take_now 2 rfl ?_
              try simp only [Act.put, setA, setZ, setS]
              refine take_now 3 rfl ?_
              try simp only [Act.put, setA, setZ, setS]
              refine take_now 4 rfl ?_
              try simp only [Act.put, setA, setZ, setS]
              refine take_now 5 rfl ?_
              try simp only [Act.put, setA, setZ, setS]
              refine take_now 6 rfl ?_
              try simp only [Act.put, setA, setZ, setS]
              refine only_at 7 (by kernel_rfl) rfl (fun K hK => ?_)
              go_simp
              refine hK.out _ _ ?_ (fun hHeld => ?_)
              · (try dsimp only); go_keep
              clear hK K
              try simp only [Act.put, setA, setZ, setS]
              have B1 := Lib.hid ((Below.refl wz.heap.size wz).alloc (Nat.le_refl _) (.cells #[.string (str n.name)] 9)).drew
              have NX := Lib.hid (show (wz.alloc (.cells #[.string (str n.name)] 9)).drew.heap[wz.heap.size]? = some (.cells #[.string (str n.name)] 9 (0, 0)) from heap_alloc_new wz (.cells #[.string (str n.name)] 9))
              generalize (wz.alloc (.cells #[.string (str n.name)] 9)).drew = Y at *
              refine only_at 8 (by kernel_rfl) rfl (fun K hK => ?_)
              go_simp
              (go_at_call 48
               (with_reducible refine (recordN_any (HMN.out.under B1.out) HRN.out.sh (strs_one NX.out HNL.out)).mono ?_)
               rintro e w9 ⟨he, hk9, hm9⟩
               rw [HROK.out] at he
               subst he
               obtain ⟨V9, rfl⟩ : ∃ W, W = w9 := ⟨_, rfl⟩
               have HK9 := Lib.hid (((HK2.out.trans (KeptM.of_below HWZ.out)).trans (KeptM.of_below B1.out)).trans (hk9.mono (by simp)))
               have HS9 := Lib.hid ((HSW.out.under B1.out).putN (HMN.out.under B1.out) hk9 (hm9 HROK.out) (HRN.out.snoc ⟨_, fA, fk, iA, ik, oA, ok, xA, _, xk, rfl⟩))
               obtain ⟨_, _, x2, _⟩ := HS9.out.row
               obtain ⟨nb0, nb1, nb2, nb3, nb4⟩ := row5 (box_put (HMN.out.under B1.out) hk9 (box_next B1.out BNW.out))
               clear hk9 hm9)
              refine hK.out _ _ ?_ (fun hHeld => ?_)
              · (try dsimp only); go_keep
              clear hK K
              try simp only [Act.put, setA, setZ, setS]
              refine wpAnyH_done (by kernel_rfl) ?_ _
              go_wp2_with fail
              go_ret2
              exact node_yes (step_ok HHD.out HIT1.out HO.out HNO.out) HS9.out (HK9.out.cut HV.out HCUT2.out)
end
end Go.Proofs.YtbpbnebcbjacdaaGreat
