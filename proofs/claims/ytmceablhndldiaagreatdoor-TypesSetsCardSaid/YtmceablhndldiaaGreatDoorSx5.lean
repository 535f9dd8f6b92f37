/-
  The operations on values alone.
-/
import Derived.Test.YtmceablhndldiaaGreatDoorSx4
namespace Go.Sx
open Go.RowKit

section
variable {P : Program} {w : World}
theorem run_val {s : Sem Value} {v : Value} {w' : World} (h : s.run P w = .ok v w') : (do pure (Next.value (← s)) : Sem Next).run P w = .ok (.value v) w' := by
  simp [h, Result.andThen]
theorem run_under {t : TypeId} {d : TypeDesc} (h : P.underlying t = some d) : (underlying t).run P w = .ok d w := by
  simp [underlying, h]
theorem run_info {t : TypeId} {i : TypeInfo} (h : P.info? t = some i) : (typeInfo t).run P w = .ok i w := by
  simp [typeInfo, h]
theorem run_size {t : TypeId} {n : Nat} (h : sizeO P t = some n) : (sizeOf t).run P w = .ok n w := by
  obtain ⟨i, h1, h2⟩ := ifS_eq h
  cases h2
  simp [sizeOf, run_info h1]
theorem run_isAgg {t : TypeId} {b : Bool} (h : aggO P t = some b) : (isAgg t).run P w = .ok b w := by
  obtain ⟨d, h1, h2⟩ := ifS_eq h
  cases h2
  simp only [isAgg, Sem.run_bind, run_under h1, Result.andThen]
  unfold isAggD
  split <;> simp_all
theorem zeroOf_eq {t : TypeId} {z : AV} (h : zeroOf P t = some z) : ∃ i v, P.info? t = some i ∧ i.zero = some v ∧ ofV v = some z ∧ z.cells.length = i.size ∧ i.bytes ≤ 1048576 := by
  obtain ⟨i, h1, h⟩ := ifS_eq h
  obtain ⟨v, h2, h⟩ := ifS_eq h
  obtain ⟨z', h3, h⟩ := ifS_eq h
  obtain ⟨hb, h⟩ := ifB_eq h
  cases h
  cases h4 : Nat.beq (len z.cells) i.size with
  | false => rw [h4] at hb; cases hb
  | true =>
    rw [h4] at hb
    have h5 : Nat.ble i.bytes 1048576 = true := hb
    exact ⟨i, v, h1, h2, h3, by rw [← len_eq]; exact Nat.eq_of_beq_eq_true h4, Nat.le_of_ble_eq_true h5⟩
theorem run_zero {t : TypeId} {z : AV} (h : zeroOf P t = some z) (ρ : Ren) : ∃ v, (zeroValue t).run P w = .ok v w ∧ VR ρ z v ∧ VRs ρ z.cells v.cells.toList := by
  obtain ⟨i, v, h1, h2, h3, _, _⟩ := zeroOf_eq h
  refine ⟨v, ?_, ofV_VR ρ h3, (ofV_VR ρ h3).cells⟩
  simp [zeroValue, run_info h1, h2]
theorem zero_size {t : TypeId} {z : AV} (h : zeroOf P t = some z) : (sizeOf t).run P w = .ok (len z.cells) w := by
  obtain ⟨i, v, h1, h2, h3, h4, _⟩ := zeroOf_eq h
  rw [len_eq, h4]
  simp [sizeOf, run_info h1]
end
section
variable {P : Program} {o : Oper}
theorem op_move {x : Operand} {y : Opd} (ho : o.op = .move x ∨ o.op = .assign x) (k : cOpd x = some y) : OpOk P o (oMove y) := by
  refine OpOk.of_val fun call e c h v c' h' l he => ?_
  obtain ⟨rfl, rfl, rfl, _⟩ := pure_ok he
  refine ⟨rfl, rfl, fun ρ w a _ hE => ⟨_, ?_, cOpd_VR hE k⟩⟩
  rcases ho with ho | ho <;> simp [execOp, ho]
theorem op_pick {x y z : Operand} {x' y' z' : Opd} (ho : o.op = .pick x y z) (kx : cOpd x = some x') (ky : cOpd y = some y') (kz : cOpd z = some z') : OpOk P o (oPick x' y' z') := by
  refine OpOk.of_val fun call e c h v c' h' l he => ?_
  obtain ⟨b, hb, he⟩ := onBool_ok he
  obtain ⟨rfl, rfl, rfl, _⟩ := pure_ok he
  refine ⟨rfl, rfl, fun ρ w a _ hE => ?_⟩
  have hx := cOpd_VR hE kx
  rw [hb] at hx
  simp only [VR] at hx
  cases b
  · exact ⟨_, by simp [execOp, ho, hx, asBool], cOpd_VR hE kz⟩
  · exact ⟨_, by simp [execOp, ho, hx, asBool], cOpd_VR hE ky⟩
theorem op_nilCheck {x : Operand} {y : Opd} (ho : o.op = .nilCheck x) (k : cOpd x = some y) : OpOk P o (oNilCheck y) := by
  refine OpOk.of_val fun call e c h v c' h' l he => ?_
  obtain ⟨b, hb, he⟩ := onPtr_ok he
  obtain ⟨p, rfl, he⟩ := ifS_ok he
  obtain ⟨rfl, rfl, rfl, _⟩ := pure_ok he
  refine ⟨rfl, rfl, fun ρ w a _ hE => ?_⟩
  have hx := cOpd_VR hE k
  rw [hb] at hx
  have hx' := hx
  simp only [VR] at hx'
  obtain ⟨b, z, _, hv⟩ := hx'
  exact ⟨_, by simp [execOp, ho, hv], hx⟩
theorem op_iface {x : Operand} {y : Opd} {t : TypeId} (ho : o.op = .makeInterface t x) (k : cOpd x = some y) (hp : plainT P t = true) : OpOk P o (oIface t y) := by
  have hd : ∃ d, P.underlying t = some d ∧ ∀ m, d ≠ .interface m := by
    unfold plainT at hp
    split at hp
    · cases hp
    · rename_i d hn hd
      exact ⟨d, hd, fun m e => hn m e⟩
    · cases hp
  obtain ⟨d, hd, hi⟩ := hd
  refine OpOk.of_val fun call e c h v c' h' l he => ?_
  obtain ⟨rfl, rfl, rfl, _⟩ := pure_ok he
  refine ⟨rfl, rfl, fun ρ w a _ hE => ⟨.iface t (a.eval x), ?_, ?_⟩⟩
  · simp only [execOp, ho]
    refine run_val ?_
    simp only [Instr.makeInterface, Sem.run_bind, run_under hd, Result.andThen]
    cases d <;> first | rfl | exact absurd rfl (hi _)
  · simp only [VR]
    exact ⟨_, rfl, cOpd_VR hE k⟩
theorem op_func {f : FuncId} {x y : Array Operand} {x' y' : List Opd} (ho : o.op = .makeFunc (.func f) x y) (kx : cOps x.toList = some x') (ky : cOps y.toList = some y') : OpOk P o (oFunc f x' y') := by
  refine OpOk.of_val fun call e c h v c' h' l he => ?_
  obtain ⟨rfl, rfl, rfl, _⟩ := pure_ok he
  refine ⟨rfl, rfl, fun ρ w a _ hE => ⟨.func (.func f) (x.map a.eval) (y.map a.eval), ?_, ?_⟩⟩
  · simp [execOp, ho, Instr.makeFunc]
  · simp only [VR]
    exact ⟨_, _, rfl, by rw [Array.toList_map]; exact cOps_VR hE kx, by rw [Array.toList_map]; exact cOps_VR hE ky⟩
theorem VRs.head_drop {ρ : Ren} {l : List AV} {r : List Value} (h : VRs ρ l r) {n : Nat} {v : AV} {t : List AV} (e : dropN n l = v :: t) : ∃ u, r[n]? = some u ∧ VR ρ v u := by
  rw [dropN_eq] at e
  have : l[n]? = some v := by
    have := congrArg List.head? e
    simpa [List.head?_drop] using this
  exact h.get this
theorem op_extract {x : Operand} {y : Opd} {i : Nat} (ho : o.op = .extract x i) (k : cOpd x = some y) : OpOk P o (oExtract y i) := by
  refine OpOk.of_val fun call e c h v c' h' l he => ?_
  obtain ⟨b, hb, he⟩ := onTuple_ok he
  obtain ⟨u, t, hd, he⟩ := ifC_ok he
  obtain ⟨rfl, rfl, rfl, _⟩ := pure_ok he
  refine ⟨rfl, rfl, fun ρ w a _ hE => ?_⟩
  have hx := cOpd_VR hE k
  rw [hb] at hx
  simp only [VR] at hx
  obtain ⟨z, hz, hx⟩ := hx
  obtain ⟨q, hq, hV⟩ := hx.head_drop hd
  refine ⟨q, ?_, hV⟩
  simp only [execOp, ho]
  refine run_val ?_
  rw [Array.getElem?_toList] at hq
  simp [Instr.extract, hz, hq]
theorem addr_add (b o n : Nat) : (⟨b, o, none⟩ : Addr).add n = ⟨b, o + n, none⟩ := by
  unfold Addr.add
  split <;> simp_all
theorem fieldO_eq {s : TypeId} {i : Nat} {f : Field} (h : fieldO P s i = some f) : ∃ fs, P.underlying s = some (.struct fs) ∧ fs[i]? = some f := by
  unfold fieldO at h
  split at h
  · rename_i fs e
    exact ⟨fs, e, h⟩
  · cases h
theorem op_fieldAddr {x : Operand} {y : Opd} {s : TypeId} {i : Nat} {f : Field} (ho : o.op = .fieldAddr s x i) (k : cOpd x = some y) (hf : fieldO P s i = some f) {n : Nat} (hs : sizeO P f.type = some n) (hn : n ≠ 0) : OpOk P o (oFieldAddr f.offset y) := by
  refine OpOk.of_val fun call e c h v c' h' l he => ?_
  obtain ⟨b, hb, he⟩ := onPtr_ok he
  obtain ⟨p, rfl, he⟩ := ifS_ok he
  obtain ⟨rfl, rfl, rfl, _⟩ := pure_ok he
  refine ⟨rfl, rfl, fun ρ w a _ hE => ?_⟩
  have hx := cOpd_VR hE k
  rw [hb] at hx
  simp only [VR] at hx
  obtain ⟨b, z, hz, hv⟩ := hx
  obtain ⟨fs, h1, h2⟩ := fieldO_eq hf
  refine ⟨.pointer (some ⟨b, p.2 + f.offset, none⟩), ?_, ?_⟩
  · simp only [execOp, ho]
    refine run_val ?_
    simp [Instr.fieldAt, run_under h1, h2, hv, Instr.sureAddr, fieldPlace, run_size hs, hn, addr_add]
  · simp only [VR]
    exact ⟨b, z, hz, rfl⟩
theorem run_part1 {t : TypeId} {w : World} {n : Nat} {l : List AV} {v : AV} {u : List AV} {r : Array Value} {ρ : Ren} (ha : aggO P t = some false) (h : VRs ρ l r.toList) (e : dropN n l = v :: u) :
    ∃ q, (part t r n).run P w = .ok q w ∧ VR ρ v q := by
  obtain ⟨q, hq, hV⟩ := h.head_drop e
  rw [Array.getElem?_toList] at hq
  exact ⟨q, by simp [part, run_isAgg ha, hq], hV⟩
theorem run_partN {t : TypeId} {w : World} {n m : Nat} {l u : List AV} {r : Array Value} {ρ : Ren} (ha : aggO P t = some true) (hs : sizeO P t = some m) (h : VRs ρ l r.toList) (e : takeN m (dropN n l) = some u) :
    ∃ q, (part t r n).run P w = .ok q w ∧ VR ρ (.agg u) q := by
  obtain ⟨rfl, _⟩ := takeN_eq _ _ _ e
  rw [dropN_eq]
  refine ⟨.agg (r.extract n (n + m)), by simp [part, run_isAgg ha, run_size hs], ?_⟩
  simp only [VR]
  refine ⟨_, rfl, ?_⟩
  have := VRs.take m (VRs.drop n h)
  rw [Array.toList_extract, List.extract_eq_take_drop]
  rwa [Nat.add_sub_cancel_left]
theorem op_field1 {x : Operand} {y : Opd} {s : TypeId} {i : Nat} {f : Field} (ho : o.op = .field s x i) (k : cOpd x = some y) (hf : fieldO P s i = some f) (ha : aggO P f.type = some false) : OpOk P o (oField1 f.offset y) := by
  refine OpOk.of_val fun call e c h v c' h' l he => ?_
  obtain ⟨b, hb, he⟩ := onAgg_ok he
  obtain ⟨u, t, hd, he⟩ := ifC_ok he
  obtain ⟨rfl, rfl, rfl, _⟩ := pure_ok he
  refine ⟨rfl, rfl, fun ρ w a _ hE => ?_⟩
  have hx := cOpd_VR hE k
  rw [hb] at hx
  simp only [VR] at hx
  obtain ⟨z, hz, hx⟩ := hx
  obtain ⟨fs, h1, h2⟩ := fieldO_eq hf
  obtain ⟨q, hq, hV⟩ := run_part1 (w := w) ha hx hd
  refine ⟨q, ?_, hV⟩
  simp only [execOp, ho]
  refine run_val ?_
  simp [Instr.field, run_under h1, h2, hz, asAgg, hq]
theorem op_fieldN {x : Operand} {y : Opd} {s : TypeId} {i n : Nat} {f : Field} (ho : o.op = .field s x i) (k : cOpd x = some y) (hf : fieldO P s i = some f) (ha : aggO P f.type = some true) (hs : sizeO P f.type = some n) : OpOk P o (oFieldN f.offset n y) := by
  refine OpOk.of_val fun call e c h v c' h' l he => ?_
  obtain ⟨b, hb, he⟩ := onAgg_ok he
  obtain ⟨u, hd, he⟩ := ifS_ok he
  obtain ⟨rfl, rfl, rfl, _⟩ := pure_ok he
  refine ⟨rfl, rfl, fun ρ w a _ hE => ?_⟩
  have hx := cOpd_VR hE k
  rw [hb] at hx
  simp only [VR] at hx
  obtain ⟨z, hz, hx⟩ := hx
  obtain ⟨fs, h1, h2⟩ := fieldO_eq hf
  obtain ⟨q, hq, hV⟩ := run_partN (w := w) ha hs hx hd
  refine ⟨q, ?_, hV⟩
  simp only [execOp, ho]
  refine run_val ?_
  simp [Instr.field, run_under h1, h2, hz, asAgg, hq]
end
end Go.Sx
