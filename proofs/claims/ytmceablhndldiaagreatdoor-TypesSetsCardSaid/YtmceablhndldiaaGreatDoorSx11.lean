/-
  The operations on memory: lists of a length, texts as bytes, maps, lengths; calls.
-/
import Derived.Test.YtmceablhndldiaaGreatDoorSx10
namespace Go.Sx
open Go.RowKit

section
variable {P : Program} {o : Oper}
theorem wrap_lt (k : IntKind) {m : Nat} (h1 : (m : Int) < 2 ^ k.bits) (h2 : k.signed = true → (m : Int) < 2 ^ (k.bits - 1)) : k.wrap (m : Int) = m := by
  have e : (m : Int) % 2 ^ k.bits = m := Int.emod_eq_of_lt (by omega) h1
  simp only [IntKind.wrap, e]
  split
  · rename_i hc
    simp only [Bool.and_eq_true, decide_eq_true_eq] at hc
    exact absurd hc.2 (Int.not_le.2 (h2 hc.1))
  · rfl
theorem wrap_small {n : Nat} (h : n ≤ 1048576) : IntKind.i64.wrap (n : Int) = n :=
  wrap_lt .i64 (by show (n : Int) < 2 ^ 64; omega) (fun _ => by show (n : Int) < 2 ^ 63; omega)
theorem op_makeMap {t : TypeId} (ho : o.op = .makeMap t none) : OpOk P o oMakeMap := by
  refine OpOk.of_run fun call E c h v c' h' l he ρ w a hr _ hf => ?_
  obtain ⟨n, he2, rfl⟩ := map_ok he
  obtain ⟨rfl, rfl, rfl, _⟩ := newO_ok he2
  refine ⟨.map (some w.heap.size), _, _, ?_, ?_, hr.new (s := 0) (obj := .map #[] 0) (o := .mp [] 0) hf.one ⟨#[], by show (w.heap.push _)[w.heap.size]? = _; simp, rfl⟩⟩
  · simp only [execOp, ho]
    refine run_val ?_
    rfl
  · simp only [VR]
    exact ⟨w.heap.size, 0, Ren.put_same ρ n _, rfl⟩
theorem op_makeSlice {t el : TypeId} {x y : Operand} {x' y' : Opd} {z : AV} (ho : o.op = .makeSlice t x y) (he : elemS P t = some el) (hz : zeroOf P el = some z) (kx : cOpd x = some x') (ky : cOpd y = some y') : OpOk P o (oMakeSlice z.cells x' y') := by
  refine OpOk.of_run fun call E c h v c' h' g hk ρ w a hr hE hf => ?_
  obtain ⟨l0, hl, hk⟩ := ifS_ok hk
  obtain ⟨c0, hc, hk⟩ := ifS_ok hk
  obtain ⟨hb, hk⟩ := ifB_ok hk
  obtain ⟨m, hk2, rfl⟩ := map_ok hk
  obtain ⟨rfl, rfl, rfl, _⟩ := newO_ok hk2
  obtain ⟨b1, b2⟩ := le_of_two hb
  obtain ⟨i, zv, h1, h2, h3, h4, h5⟩ := zeroOf_eq hz
  have hV := (ofV_VR ρ h3).cells
  have hu := elemS_eq he
  have hsz : zv.cells.size = z.cells.length := by have := hV.length; rwa [Array.length_toList] at this
  obtain ⟨j1, hx⟩ := asN_VR (cOpd_VR hE kx) hl
  obtain ⟨j2, hy⟩ := asN_VR (cOpd_VR hE ky) hc
  have hR := reps_VR hV c0
  generalize ha : (Array.range (c0 * z.cells.length)).map (fun i => zv.cells[i % zv.cells.size]!) = arr at hR
  have hs : arr.size = c0 * z.cells.length := by rw [← ha, Array.size_map, Array.size_range]
  refine ⟨.slice (some ⟨w.heap.size, 0, none⟩) l0 c0, _, _, ?_, ?_, hr.newRow hf.one hR arr (rest := []) (by simp) el (0, 0) (.inr rfl)⟩
  · simp only [execOp, ho]
    refine run_val ?_
    have hbig : ¬ ((i.bytes : Int) * (c0 : Int) > 2 ^ 48) := by
      have h6 := Nat.mul_le_mul h5 b2
      rw [← Int.natCast_mul]
      generalize i.bytes * c0 = q at h6
      omega
    have hw1 := wrap_small (Nat.le_trans b1 b2)
    have hw2 := wrap_small b2
    have hn1 : ¬ ((c0 : Int) < 0) := by omega
    have hn2 : ¬ ((l0 : Int) < 0) := by omega
    have hn3 : ¬ ((l0 : Int) > (c0 : Int)) := by omega
    have hfill : (Array.range (c0 * i.size)).map ((if c0 * i.size = 0 then (#[] : Array Value) else zv.cells)[· % (if c0 * i.size = 0 then (#[] : Array Value) else zv.cells).size]!) = arr := by
      rw [← ha, ← h4]
      by_cases h0 : c0 * z.cells.length = 0
      · rw [h0]
        have e0 : ∀ f : Nat → Value, (Array.range 0).map f = #[] := fun f => by rw [show Array.range 0 = #[] from rfl]; simp
        rw [e0, e0]
      · rw [if_neg h0]
    have hi1 : (asInt (a.eval x)).run P w = .ok (l0 : Int) w := by rw [hx]; rfl
    have hi2 : (asInt (a.eval y)).run P w = .ok (c0 : Int) w := by rw [hy]; rfl
    simp only [Instr.makeSlice, Sem.run_bind, run_under hu, Result.andThen, hi1, hi2, run_info h1, hw1, hw2]
    simp only [decide_eq_false hn1, decide_eq_false hn2, decide_eq_false hn3, decide_eq_false hbig, Bool.or_self, Bool.false_eq_true, if_false, Int.toNat_natCast, Sem.run_bind, run_askRoom, Result.andThen, sizeOf, run_info h1, Sem.run_pure]
    have hz0 : (zeroValue el).run P w = .ok zv w := by simp [zeroValue, run_info h1, h2]
    by_cases h0 : c0 * i.size = 0
    · rw [if_pos h0]
      simp only [if_pos h0] at hfill
      simp only [Sem.run_bind, Sem.run_pure, Result.andThen, hfill, run_newRow]
    · rw [if_neg h0]
      simp only [if_neg h0] at hfill
      simp only [Sem.run_bind, Sem.run_pure, Result.andThen, hz0, hfill, run_newRow]
  · simp only [VR]
    refine ⟨w.heap.size, arr.size, 0, c0, Ren.put_same ρ m _, rfl, Nat.le_refl _, b1, .inr rfl, ?_⟩
    rw [hs, len_eq]
    omega
theorem getMap_rel {ρ : Ren} {h : H} {w : World} (r : Rel ρ h w) {n k : Nat} {es : List (AV × AV × Nat)} (e : h.get n = some (.mp es k)) :
    ∃ b s a, ρ n = some (b, s) ∧ w.heap[b]? = some (.map a k) ∧ ERs ρ es a.toList := by
  obtain ⟨b, s, f, a, h1, h2⟩ := r.lies n _ e
  exact ⟨b, s, a, f, h1, h2⟩
theorem ERs.length {ρ : Ren} : ∀ {x : List (AV × AV × Nat)} {l : List MapEntry}, ERs ρ x l → l.length = x.length
  | [], _, h => by rw [show _ = _ from h]; rfl
  | _ :: x, _, ⟨e, r, h1, _, _, _, h5⟩ => by rw [h1]; simp [ERs.length h5]
theorem VR.int64 (ρ : Ren) (n : Nat) : VR ρ (int64 n) (goInt n) := VR.int ρ .i64 n
theorem run_builtin {b : Builtin} {args : Array Operand} {ts : Array TypeId} {a : Act} {w w' : World} {v : Value} {s : Sem Value} (ho : o.op = .call { callee := .builtin b, args, argTypes := ts })
    (hb : ∀ cs, builtin b ts o.type cs (args.map a.eval) = do pure (.value (← s))) (h : s.run P w = .ok v w') : (execOp a.eval o).run P w = .ok (.value v) w' := by
  simp only [execOp, ho, resolve, Sem.run_bind, Sem.run_pure, Result.andThen, invoke, hb, h]
theorem op_lenArr {n : Nat} {t : TypeId} {x : Operand} (ho : o.op = .call { callee := .builtin .len, args := #[x], argTypes := #[t] })
    (ht : (∃ e, P.underlying t = some (.array n e)) ∨ ∃ p e, P.underlying t = some (.pointer p) ∧ P.underlying p = some (.array n e)) : OpOk P o (oLenArr n) := by
  refine OpOk.of_val fun call e c h v c' h' l he => ?_
  obtain ⟨rfl, rfl, rfl, _⟩ := pure_ok he
  refine ⟨rfl, rfl, fun ρ w a _ hE => ⟨goInt n, run_builtin ho (fun _ => rfl) ?_, VR.int64 ρ n⟩⟩
  rcases ht with ⟨e, h1⟩ | ⟨p, e, h1, h2⟩
  · simp [Builtin.len_, run_under h1]
  · simp [Builtin.len_, run_under h1, run_under h2]
theorem op_len {t : TypeId} {x : Operand} {y : Opd} (ho : o.op = .call { callee := .builtin .len, args := #[x], argTypes := #[t] }) (k : cOpd x = some y) (d : TypeDesc) (hd : P.underlying t = some d)
    (f : Ev) (ht : (d = .string ∧ f = oLenStr y) ∨ (∃ e, d = .slice e ∧ f = oLenSl y) ∨ (∃ i e, d = .map i e ∧ f = oLenMap y)) : OpOk P o f := by
  rcases ht with ⟨rfl, rfl⟩ | ⟨e0, rfl, rfl⟩ | ⟨i0, e0, rfl, rfl⟩
  · refine OpOk.of_val fun call e c h v c' h' l he => ?_
    obtain ⟨s, hs, he⟩ := onStr_ok he
    obtain ⟨rfl, rfl, rfl, _⟩ := pure_ok he
    refine ⟨rfl, rfl, fun ρ w a _ hE => ?_⟩
    have hx := cOpd_VR hE k
    rw [hs] at hx
    simp only [VR] at hx
    obtain ⟨b, hb, hx⟩ := hx
    refine ⟨goInt s.length, run_builtin ho (fun _ => rfl) ?_, by rw [len_eq]; exact VR.int64 ρ _⟩
    simp [Builtin.len_, run_under hd, hb, str_len hx]
  · refine OpOk.of_val fun call e c h v c' h' l he => ?_
    obtain ⟨p, n, m, z, hs, he⟩ := onSlice_ok he
    obtain ⟨rfl, rfl, rfl, _⟩ := pure_ok he
    refine ⟨rfl, rfl, fun ρ w a _ hE => ⟨goInt n, run_builtin ho (fun _ => rfl) ?_, VR.int64 ρ n⟩⟩
    have hx := cOpd_VR hE k
    rw [hs] at hx
    cases p <;> simp only [VR] at hx
    · simp [Builtin.len_, run_under hd, hx]
    · obtain ⟨_, _, _, _, _, hx, _⟩ := hx
      simp [Builtin.len_, run_under hd, hx]
  · refine OpOk.of_run fun call e c h v c' h' l he ρ w a hr hE hf => ?_
    have hx := cOpd_VR hE k
    obtain ⟨p, hs, he⟩ := onMap_ok he
    rw [hs] at hx
    cases p with
    | none =>
      simp only [VR] at hx
      obtain ⟨rfl, rfl, rfl, _⟩ := pure_ok (show M.pure (int64 0) c h = _ from he)
      exact ⟨goInt 0, ρ, w, run_builtin ho (fun _ => rfl) (by simp [Builtin.len_, run_under hd, hx]), VR.int64 ρ 0, Post.refl hr⟩
    | some n =>
      simp only [VR] at hx
      obtain ⟨b, s, h1, h2⟩ := hx
      obtain ⟨r, hg, rfl⟩ := map_ok (show M.map (fun r => int64 (len r.1)) (getMap n) c h = _ from he)
      obtain ⟨h3, rfl, rfl, _⟩ := getMap_ok hg
      obtain ⟨b', s', m, h4, h5, h6⟩ := getMap_rel hr h3
      rw [h1] at h4
      cases h4
      have hl := h6.length
      rw [Array.length_toList] at hl
      have hg2 : (getObj b).run P w = .ok (.map m r.2) w := by simp [getObj, Sem.run, h5]
      exact ⟨goInt r.1.length, ρ, w, run_builtin ho (fun _ => rfl) (by simp [Builtin.len_, run_under hd, h2, hg2, hl]), by rw [len_eq]; exact VR.int64 ρ _, Post.refl hr⟩
theorem op_cap {t e0 : TypeId} {x : Operand} {y : Opd} (ho : o.op = .call { callee := .builtin .cap, args := #[x], argTypes := #[t] }) (k : cOpd x = some y) (hd : P.underlying t = some (.slice e0)) : OpOk P o (oCap y) := by
  refine OpOk.of_val fun call e c h v c' h' l he => ?_
  obtain ⟨p, n, m, z, hs, he⟩ := onSlice_ok he
  cases p with
  | some p => cases he
  | none =>
    obtain ⟨rfl, rfl, rfl, _⟩ := pure_ok (show M.pure (int64 m) c h = _ from he)
    refine ⟨rfl, rfl, fun ρ w a _ hE => ⟨goInt m, run_builtin ho (fun _ => rfl) ?_, VR.int64 ρ m⟩⟩
    have hx := cOpd_VR hE k
    rw [hs] at hx
    simp only [VR] at hx
    simp [Builtin.cap_, run_under hd, hx]
theorem op_minmax {b : Bool} {ts : Array TypeId} {x y : Operand} {x' y' : Opd} (ho : o.op = .call { callee := .builtin (if b then .max else .min), args := #[x, y], argTypes := ts }) (kx : cOpd x = some x') (ky : cOpd y = some y') : OpOk P o (oMinMax b x' y') := by
  refine OpOk.of_val fun call e c h v c' h' l he => ?_
  obtain ⟨i, m, hs, he⟩ := onInt_ok he
  obtain ⟨j, n, hu, he⟩ := onInt_ok he
  obtain ⟨rfl, rfl, rfl, _⟩ := pure_ok he
  refine ⟨rfl, rfl, fun ρ w a _ hE => ?_⟩
  have hx := cOpd_VR hE kx
  have hy := cOpd_VR hE ky
  rw [hs] at hx
  rw [hu] at hy
  simp only [VR] at hx hy
  refine ⟨.int i (ifB (ifB b (ltI m n) (ltI n m)) n m), ?_, VR.int ρ _ _⟩
  cases b with
  | true =>
    refine run_builtin ho (fun _ => rfl) ?_
    simp only [Builtin.max_, Array.toList_map, List.map_cons, List.map_nil, List.foldlM_cons, List.foldlM_nil, hx, hy, Builtin.max2, Sem.run_bind, Sem.run_pure, Result.andThen, ifB_true, ltI_eq]
    by_cases q : m < n
    · simp [ifB, q]
    · simp [ifB, q]
  | false =>
    refine run_builtin ho (fun _ => rfl) ?_
    simp only [Builtin.min_, Array.toList_map, List.map_cons, List.map_nil, List.foldlM_cons, List.foldlM_nil, hx, hy, Builtin.min2, Sem.run_bind, Sem.run_pure, Result.andThen, ifB_false, ltI_eq]
    by_cases q : n < m
    · simp [ifB, q]
    · simp [ifB, q]
end
end Go.Sx
