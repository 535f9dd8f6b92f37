/-
  The operations on memory: maps, texts as bytes; calls.
-/
import Derived.Test.YtmceablhndldiaaGreatDoorSx13
namespace Go.Sx
open Go.RowKit

section
variable {P : Program} {o : Oper}
theorem sameNow_ok {f : FK} {d : TypeDesc} (hd : fkFits f d) {ρ : Ren} {p q : AV} {r : Bool} (h : eqCell f p q = some r) {u v : Value} (hu : VR ρ p u) (hv : VR ρ q v) : Instr.sameNow d u v = some r ∧ (r = true → Instr.sameBits 10000 v u = true) := by
  have := eqCell_ok h hu hv
  cases f with
  | int =>
    obtain ⟨i, m, n, rfl, rfl, rfl⟩ := this
    obtain ⟨j, rfl⟩ := hd
    refine ⟨by simp [Instr.sameNow], fun e => ?_⟩
    have e : m = n := by simpa using e
    subst e
    simp [Instr.sameBits]
  | str =>
    obtain ⟨a, b, rfl, rfl, rfl⟩ := this
    have hd : d = .string := hd
    subst hd
    refine ⟨by simp [Instr.sameNow, beq_toListBytes], fun e => ?_⟩
    have e : a.toList = b.toList := by simpa using e
    simp [Instr.sameBits, beq_toListBytes, e]
  | bool =>
    obtain ⟨a, b, rfl, rfl, rfl⟩ := this
    have hd : d = .bool := hd
    subst hd
    refine ⟨by simp [Instr.sameNow], fun e => ?_⟩
    have e : a = b := by simpa using e
    subst e
    simp [Instr.sameBits]
theorem findK_ok {f : FK} {d : TypeDesc} (hd : fkFits f d) {ρ : Ren} {p : AV} {u : Value} (hu : VR ρ p u) : ∀ (es : List (AV × AV × Nat)) (l : List MapEntry) (i : Nat) (r : Option AV), ERs ρ es l → findK f p es = some r →
    match r with
    | none => Instr.findNow d u l i = some none
    | some v => ∃ j y, Instr.findNow d u l i = some (some (j, y)) ∧ VR ρ v y
  | [], l, i, r, hl, hr => by
    cases hr
    have hl : l = [] := hl
    subst hl
    rfl
  | q :: es, l, i, r, hl, hr => by
    obtain ⟨e, t, rfl, h1, h2, h3, h4⟩ := hl
    obtain ⟨b, hb, hr⟩ := ifS_eq (show ifS none (fun t => ifB t (some (some q.2.1)) (findK f p es)) (eqCell f p q.1) = some r from hr)
    obtain ⟨hs, _⟩ := sameNow_ok hd hb hu h1
    cases b with
    | true =>
      cases hr
      exact ⟨i, e.val, by simp only [Instr.findNow, hs], h2⟩
    | false =>
      have := findK_ok hd hu es t (i + 1) r h4 hr
      cases r with
      | none => simp only [Instr.findNow, hs]; exact this
      | some v =>
        obtain ⟨j, y, k1, k2⟩ := this
        exact ⟨j, y, by simp only [Instr.findNow, hs]; exact k1, k2⟩
theorem setK_ok {f : FK} {d : TypeDesc} (hd : fkFits f d) {ρ : Ren} {p x : AV} {u y : Value} (hu : VR ρ p u) (hy : VR ρ x y) {clock : Nat} : ∀ (es : List (AV × AV × Nat)) (l : List MapEntry) (i : Nat) (r : List (AV × AV × Nat) × Nat), ERs ρ es l → setK f p x clock es = some r →
    (Instr.findNow d u l i = some none ∧ r.2 = clock + 1 ∧ ERs ρ r.1 (l ++ [{ key := u, val := y, born := clock }])) ∨
    (∃ j z e, Instr.findNow d u l i = some (some (i + j, z)) ∧ r.2 = clock ∧ l[j]? = some e ∧ Instr.sameBits 10000 e.key u = true ∧ ERs ρ r.1 (l.modify j fun e => { e with key := u, val := y }))
  | [], l, i, r, hl, hr => by
    cases hr
    have hl : l = [] := hl
    subst hl
    exact .inl ⟨rfl, rfl, _, _, rfl, hu, hy, rfl, rfl⟩
  | q :: es, l, i, r, hl, hr => by
    obtain ⟨e, t, rfl, h1, h2, h3, h4⟩ := hl
    obtain ⟨b, hb, hr⟩ := ifS_eq (show ifS none (fun b => ifB b (some ((p, x, q.2.2) :: es, clock)) (ifS none (fun z => some (q :: z.1, z.2)) (setK f p x clock es))) (eqCell f p q.1) = some r from hr)
    obtain ⟨hs, hbits⟩ := sameNow_ok hd hb hu h1
    cases b with
    | true =>
      cases hr
      refine .inr ⟨0, e.val, e, by simp only [Instr.findNow, hs, Nat.add_zero], rfl, rfl, hbits rfl, ?_⟩
      exact ⟨_, _, rfl, hu, hy, h3, h4⟩
    | false =>
      obtain ⟨z, hz, hr⟩ := ifS_eq hr
      cases hr
      rcases setK_ok hd hu hy es t (i + 1) z h4 hz with ⟨k1, k2, k3⟩ | ⟨j, v, e', k1, k2, k3, k4, k5⟩
      · exact .inl ⟨by simp only [Instr.findNow, hs]; exact k1, k2, e, _, rfl, h1, h2, h3, k3⟩
      · refine .inr ⟨j + 1, v, e', ?_, k2, by simpa using k3, k4, e, _, by simp, h1, h2, h3, k5⟩
        simp only [Instr.findNow, hs]
        rw [k1, show i + 1 + j = i + (j + 1) by omega]
theorem mapO_eq {t : TypeId} {q : TypeId × TypeId} (h : mapO P t = some q) : P.underlying t = some (.map q.1 q.2) := by
  unfold mapO at h
  split at h
  · rename_i hu; cases h; exact hu
  · cases h
theorem run_checkKey {k : TypeId} {f : FK} (hf : fkO P k = some f) (b : Bool) (u : Value) (w : World) : (Instr.checkKey b 10000 k u).run P w = .ok () w := by
  obtain ⟨d, hd, hfit⟩ := fkO_eq hf
  have key : ∀ n, (Instr.checkKey b (n + 1) k u).run P w = .ok () w := fun n => by
    unfold Instr.checkKey
    simp only [Sem.run_bind, run_under hd, Result.andThen]
    cases f with
    | int => obtain ⟨j, rfl⟩ := hfit; cases u <;> rfl
    | str => have h : d = .string := hfit; subst h; cases u <;> rfl
    | bool => have h : d = .bool := hfit; subst h; cases u <;> rfl
  exact key 9999
theorem run_findKey {k : TypeId} {d : TypeDesc} (hd : P.underlying k = some d) {u : Value} {l : List MapEntry} {r : Option (Nat × Value)} (h : Instr.findNow d u l 0 = some r) (w : World) : (Instr.findKey k u l).run P w = .ok r w := by
  simp [Instr.findKey, run_under hd, h]
theorem outK_VR {ρ : Ren} {z : AV} {zv : Value} (hz : VR ρ z zv) {r : Option AV} {v : Value} {b ok : Bool} (h : match r with | none => v = zv ∧ b = false | some x => VR ρ x v ∧ b = true) : VR ρ (outK z ok r) (if ok then .tuple #[v, .bool b] else v) := by
  have key : ∀ x, VR ρ x v → VR ρ (.tuple [x, .bool b]) (.tuple #[v, .bool b]) := fun x hx => by
    simp only [VR]
    exact ⟨_, rfl, VRs.cons hx (VRs.cons (VR.bool ρ b) (VRs.nil ρ))⟩
  cases r with
  | none =>
    obtain ⟨rfl, rfl⟩ := h
    cases ok
    · exact hz
    · exact key _ hz
  | some x =>
    obtain ⟨h, rfl⟩ := h
    cases ok
    · exact h
    · exact key _ h
theorem op_lookup {t : TypeId} {x i : Operand} {x' i' : Opd} {ok : Bool} {q : TypeId × TypeId} {f : FK} {z : AV} (ho : o.op = .lookup t x i ok) (kx : cOpd x = some x') (ki : cOpd i = some i') (hq : mapO P t = some q) (hf : fkO P q.1 = some f) (hz : zeroOf P q.2 = some z) : OpOk P o (oLookup f z x' i' ok) := by
  refine OpOk.of_run fun call E c h v c' h' l he ρ w a hr hE hfree => ?_
  have hx := cOpd_VR hE kx
  have hi := cOpd_VR hE ki
  have hu := mapO_eq hq
  obtain ⟨d, hd, hfit⟩ := fkO_eq hf
  obtain ⟨zv, hzrun, hzV, _⟩ := run_zero (w := w) hz ρ
  obtain ⟨m, hm, he⟩ := onMap_ok he
  rw [hm] at hx
  cases m with
  | none =>
    obtain ⟨rfl, rfl, rfl, _⟩ := pure_ok (show M.pure (outK z ok none) c h = _ from he)
    simp only [VR] at hx
    refine ⟨if ok then .tuple #[zv, .bool false] else zv, ρ, w, ?_, outK_VR hzV ⟨rfl, rfl⟩, Post.refl hr⟩
    simp only [execOp, ho]
    refine run_val ?_
    have hk := run_findKey (P := P) hd (u := a.eval i) (l := []) (r := none) rfl w
    simp only [Instr.lookup, Sem.run_bind, run_under hu, Result.andThen, hx, Sem.run_pure, run_checkKey hf, hk, hzrun]
  | some n =>
    simp only [VR] at hx
    obtain ⟨b, s, h1, h2⟩ := hx
    obtain ⟨r, c1, H1, l1, l2, e1, e2, _⟩ := bind_ok (show M.bind (getMap n) _ c h = _ from he)
    obtain ⟨g1, rfl, rfl, _⟩ := getMap_ok e1
    obtain ⟨res, hres, e2⟩ := ifS_ok e2
    obtain ⟨rfl, rfl, rfl, _⟩ := pure_ok e2
    obtain ⟨b', s', m, g2, g3, g4⟩ := getMap_rel hr g1
    rw [h1] at g2
    cases g2
    have hg2 : (getObj b).run P w = .ok (.map m r.2) w := by simp [getObj, Sem.run, g3]
    have hk := findK_ok hfit hi r.1 m.toList 0 res g4 hres
    cases res with
    | none =>
      refine ⟨if ok then .tuple #[zv, .bool false] else zv, ρ, w, ?_, outK_VR hzV ⟨rfl, rfl⟩, Post.refl hr⟩
      simp only [execOp, ho]
      refine run_val ?_
      simp only [Instr.lookup, Sem.run_bind, run_under hu, Result.andThen, h2, hg2, Sem.run_pure, run_checkKey hf, run_findKey hd hk, hzrun]
    | some y =>
      obtain ⟨j, yv, k1, k2⟩ := hk
      refine ⟨if ok then .tuple #[yv, .bool true] else yv, ρ, w, ?_, outK_VR hzV ⟨k2, rfl⟩, Post.refl hr⟩
      simp only [execOp, ho]
      refine run_val ?_
      simp only [Instr.lookup, Sem.run_bind, run_under hu, Result.andThen, h2, hg2, Sem.run_pure, run_checkKey hf, run_findKey hd k1]
theorem op_mapUpdate {t : TypeId} {x i y : Operand} {x' i' y' : Opd} {q : TypeId × TypeId} {f : FK} (ho : o.op = .mapUpdate t x i y ∨ o.op = .insert t x i y) (kx : cOpd x = some x') (ki : cOpd i = some i') (ky : cOpd y = some y') (hq : mapO P t = some q) (hf : fkO P q.1 = some f) : OpOk P o (oMapUpdate f x' i' y') := by
  refine OpOk.of_skip fun call E c h v c' h' l he => ?_
  obtain ⟨m, hm, he⟩ := onMap_ok he
  obtain ⟨n, rfl, he⟩ := ifS_ok he
  obtain ⟨r, c1, H1, l1, l2, e1, e2, _⟩ := bind_ok he
  obtain ⟨g1, rfl, rfl, _⟩ := getMap_ok e1
  obtain ⟨res, hres, e2⟩ := ifS_ok e2
  obtain ⟨u, e3, rfl⟩ := map_ok e2
  obtain ⟨rfl, rfl, _, _⟩ := setMap_ok e3
  refine ⟨rfl, fun ρ w a hr hE hfree => ?_⟩
  have hx := cOpd_VR hE kx
  have hi := cOpd_VR hE ki
  have hy := cOpd_VR hE ky
  have hu := mapO_eq hq
  obtain ⟨d, hd, hfit⟩ := fkO_eq hf
  rw [hm] at hx
  simp only [VR] at hx
  obtain ⟨b, s, h1, h2⟩ := hx
  obtain ⟨b', s', m, g2, g3, g4⟩ := getMap_rel hr g1
  rw [h1] at g2
  cases g2
  have hg2 : (getObj b).run P w = .ok (.map m r.2) w := by simp [getObj, Sem.run, g3]
  have hset : ∀ ob : Obj, (setObj b ob).run P w = .ok () { w with heap := w.heap.setIfInBounds b ob } := fun ob => by simp [setObj, Sem.run, g3]
  have hex : (execOp a.eval o) = (do Instr.mapUpdate t (a.eval x) (a.eval i) (a.eval y); pure .skip) := by
    rcases ho with ho | ho <;> simp only [execOp, ho]
  have hrun : ∀ a' k', (Instr.mapUpdate t (a.eval x) (a.eval i) (a.eval y)).run P w = .ok () { w with heap := w.heap.setIfInBounds b (.map a' k') } → (execOp a.eval o).run P w = .ok .skip { w with heap := w.heap.setIfInBounds b (.map a' k') } := fun a' k' hh => by
    rw [hex]
    simp only [Sem.run_bind, hh, Result.andThen, Sem.run_pure]
  rcases setK_ok hfit hi hy r.1 m.toList 0 res g4 hres with ⟨k1, k2, k3⟩ | ⟨j, z, e, k1, k2, k3, k4, k5⟩
  · obtain ⟨b2, s2, a2, f1, f2, f3, f4⟩ := hr.setMap (c := c') (k' := res.2) (a' := m.push { key := a.eval i, val := a.eval y, born := r.2 }) g1 (by simpa using k3)
    rw [h1] at f1
    cases f1
    refine ⟨ρ, _, hrun _ _ ?_, f4⟩
    simp only [Instr.mapUpdate, Sem.run_bind, run_under hu, Result.andThen, h2, hg2, run_checkKey hf, run_findKey hd k1, hset, k2]
  · obtain ⟨b2, s2, a2, f1, f2, f3, f4⟩ := hr.setMap (c := c') (k' := res.2) (a' := m.modify j fun e => { e with key := a.eval i, val := a.eval y }) g1 (by simpa using k5)
    rw [h1] at f1
    cases f1
    refine ⟨ρ, _, hrun _ _ ?_, f4⟩
    rw [Nat.zero_add] at k1
    rw [Array.getElem?_toList] at k3
    have hkey : (Instr.keyThatStays (((m[j]?).map (·.key)).getD (a.eval i)) (a.eval i)).run P w = .ok (a.eval i) w := by
      rw [k3]
      simp [Instr.keyThatStays, k4]
    simp only [Instr.mapUpdate, Sem.run_bind, run_under hu, Result.andThen, h2, hg2, run_checkKey hf, run_findKey hd k1, hkey, hset, k2]
theorem push_modify (h : Array Obj) (ob : Obj) (f : Obj → Obj) : (h.push ob).modify h.size f = h.push (f ob) := by
  apply Array.ext
  · simp
  · intro i h1 h2
    simp only [Array.size_push] at h2
    rw [Array.getElem_modify]
    by_cases e : h.size = i
    · subst e; simp
    · rw [if_neg e, Array.getElem_push_lt (by omega), Array.getElem_push_lt (by omega)]
theorem run_mark_new (W : World) (arr : Array Value) (el : TypeId) : (markStringish ⟨W.heap.size, 0, none⟩).run P (W.alloc (.cells arr el (0, 0))) = .ok () (W.alloc (.cells arr el (arr.size, arr.size + 1))) := by
  have hs : (W.alloc (.cells arr el (0, 0))).shape? W.heap.size = some (el, arr.size) := by
    have : (W.heap.push (Obj.cells arr el (0, 0)))[W.heap.size]? = some (.cells arr el (0, 0)) := by simp
    show (match (W.heap.push (Obj.cells arr el (0, 0)))[W.heap.size]? with | some (.cells c e _) => some (e, c.size) | _ => none) = _
    rw [this]
  have hf : (W.alloc (.cells arr el (0, 0))).freeze { block := W.heap.size, off := arr.size } 1 = W.alloc (.cells arr el (arr.size, arr.size + 1)) := by
    unfold World.freeze
    rw [if_neg (by decide)]
    show ({ W with heap := (W.heap.push (Obj.cells arr el (0, 0))).modify W.heap.size _ } : World) = { W with heap := W.heap.push _ }
    rw [push_modify]
    rfl
  simp only [markStringish, Sem.run_bind, run_shape, hs, Result.andThen, run_freeze, hf]
theorem op_strBytes {s d el : TypeId} {x : Operand} {y : Opd} (ho : o.op = .convert s d x) (k : cOpd x = some y) (hs : P.underlying s = some .string) (hd : P.underlying d = some (.slice el)) (he : P.underlying el = some (.int .u8)) : OpOk P o (oStrBytes y) := by
  refine OpOk.of_run fun call E c h v c' h' l hk ρ w a hr hE hf => ?_
  obtain ⟨st, hst, hk⟩ := onStr_ok hk
  obtain ⟨m, hk2, rfl⟩ := map_ok hk
  obtain ⟨rfl, rfl, rfl, _⟩ := newO_ok hk2
  have hx := cOpd_VR hE k
  rw [hst] at hx
  simp only [VR] at hx
  obtain ⟨b, hb, hx⟩ := hx
  have hlen := str_len hx
  have hV := u8s_VR ρ hx
  obtain ⟨cap, arr, hcap, harr, hrun⟩ : ∃ cap arr, b.size ≤ cap ∧ arr.toList = (b.data.toList.map fun x => Value.int .u8 x.toNat) ++ List.replicate (cap - b.size) (Value.int .u8 0) ∧ (Conv.stringToBytes el b).run P w = .ok (.slice (some ⟨w.heap.size, 0, none⟩) b.size cap)
      (({ w with drawn := w.drawn + 1 } : World).alloc (.cells arr el (arr.size, arr.size + 1))) := by
    refine ⟨b.size + w.tape w.drawn (.appendCap b.size 0 el) % (2 ^ 63 - b.size), (b.data.map fun b => Value.int .u8 b.toNat) ++ Array.replicate ((b.size + w.tape w.drawn (.appendCap b.size 0 el) % (2 ^ 63 - b.size)) - b.size) (.int .u8 0), Nat.le_add_right _ _, by simp, ?_⟩
    have hm := run_mark_new (P := P) { w with drawn := w.drawn + 1 } ((b.data.map fun b => Value.int .u8 b.toNat) ++ Array.replicate ((b.size + w.tape w.drawn (.appendCap b.size 0 el) % (2 ^ 63 - b.size)) - b.size) (.int .u8 0)) el
    simp only [Conv.stringToBytes, Sem.run_bind, run_choose, Question.forced, Bool.false_eq_true, if_false, Question.cut, Result.andThen, run_newRow, hm, Sem.run_pure]
  have hsz : arr.size = cap := by
    rw [← Array.length_toList, harr]
    simp only [List.length_append, List.length_map, List.length_replicate, Array.length_toList]
    have : b.data.size = b.size := rfl
    omega
  refine ⟨.slice (some ⟨w.heap.size, 0, none⟩) b.size cap, _, _, ?_, ?_, Post.from_drawn ((hr.drew (w.drawn + 1)).newRow hf.one hV arr harr el (arr.size, arr.size + 1) (.inl (Nat.le_refl _)))⟩
  · simp only [execOp, ho]
    refine run_val ?_
    simp only [convert, Sem.run_bind, run_under hs, run_under hd, run_under he, Result.andThen, hb, hrun]
  · simp only [VR]
    exact ⟨w.heap.size, arr.size, 0, cap, Ren.put_same ρ m _, by rw [hlen, len_eq], by rw [len_eq, ← hlen]; exact hcap, by rw [len_eq]; exact Nat.le_refl _, .inr rfl, by omega⟩
theorem op_call {f : Operand} {args : Array Operand} {ts : Array TypeId} {f' : Opd} {l' : List Opd} (ho : o.op = .call { callee := .value f, args, argTypes := ts }) (kf : cOpd f = some f') (kl : cOps args.toList = some l') : OpOk P o (oCall f' l') := by
  intro call hcall e c h v c' h' l he ρ w a hr hE hf next Q hn
  obtain ⟨g, x, y, hg, he⟩ := onFn_ok he
  have hx := cOpd_VR hE kf
  rw [hg] at hx
  simp only [VR] at hx
  obtain ⟨x', y', hv, h1, h2⟩ := hx
  have hargs := cOps_VR hE kl
  obtain ⟨hent, hc⟩ := hcall g _ c h v c' h' l he
  have hc := hc ρ w (x' ++ (args.map a.eval) ++ y') hr (by
    simp only [Array.toList_append, Array.toList_map, List.append_assoc]
    exact h1.append (hargs.append h2)) hf
  have hrun : (execOp a.eval o).run P w = .ok (.enter g (x' ++ (args.map a.eval) ++ y')) w := by
    simp only [execOp, ho, resolve, Deferred.ofValue, hv, Sem.run_bind, Sem.run_pure, Result.andThen, invoke, hent]
  unfold Oper.wp
  rw [hrun, Oper.upon_enter]
  refine Calls.mono hc fun e' w' hR => ?_
  obtain ⟨v', ρ', rfl, hV, hp⟩ := hR
  exact hn v' ρ' w' hV hp
end
end Go.Sx
