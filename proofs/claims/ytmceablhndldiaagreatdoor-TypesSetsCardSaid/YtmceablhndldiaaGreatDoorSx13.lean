/-
  append.
-/
import Derived.Test.YtmceablhndldiaaGreatDoorSx12
namespace Go.Sx
open Go.RowKit

section
variable {P : Program} {o : Oper}
/-- what append does behind its arguments: 'n' cells' worth more, which 's' yields -/
def appS (el : TypeId) (base : Option Addr) (sLen sCap size n : Nat) (s : Value) (zeros : Bool) (x : Value) (app : Sem (Array Value)) : Sem Value := do
  let need := sLen + n
  if need ≤ sCap then
    let new ← app
    if let some a := base then storeCells (a.add (sLen * size)) new.toList
    pure (.slice base need sCap)
  else
    if (need : Int) > IntKind.i64.max ∧ (zeros ∨ (← typeInfo el).bytes = 0) then runtimePanic (.error "growslice: len out of range")
    if Builtin.nextslicecap need sCap * (← typeInfo el).bytes > 2 ^ 48 then (if zeros then runtimePanic (.error "growslice: len out of range") else do
      if !(← Builtin.mayShare size sLen n base x) then mark .noRoom
      unsupported (.resourceLimit "append: a slice or a string whose bytes no memory bears"))
    let newCap ← choose (.appendCap need sCap el)
    askRoom (newCap * (← typeInfo el).bytes)
    let old ← Builtin.firstCells size sLen s
    let new ← app
    let rest := Builtin.zeroCells (← zeroValue el).cells (newCap - need)
    pure (.slice (some (← newRow el (old ++ new ++ rest))) need newCap)
theorem run_append_as {sT eT el ty : TypeId} {d : TypeDesc} {size n k c : Nat} {base : Option Addr} {x : Value} {w : World} (hs : P.underlying sT = some (.slice el)) (he : P.underlying eT = some d) (hd : ∀ i, d ≠ .int i)
    (hz : sizeO P el = some size) (hn : ∀ w', (Builtin.lenOf x).run P w' = .ok k w') :
    (Builtin.append_ #[sT, eT] ty #[.slice base n c, x]).run P w = (appS el base n c size k (.slice base n c) false x (Builtin.firstCells size k x)).run P w := by
  have hm : Builtin.append_ #[sT, eT] ty #[.slice base n c, x] = (do
      let .slice elem ← underlying sT | stuck "append: slice type expected"
      let size ← sizeOf elem
      let zeros ← do pure ((← underlying eT) matches .int _)
      let m ← if zeros then do
          let l := IntKind.i64.wrap (← asInt x)
          if l < 0 then runtimePanic (.error "makeslice: len out of range")
          if l * (← typeInfo elem).bytes > 2 ^ 48 then
            let made ← choose (.extern "append.ofMake.carriedOut" 2)
            runtimePanic (.error (if made == 1 then "makeslice: len out of range" else "growslice: len out of range"))
          pure l.toNat
        else Builtin.lenOf x
      appS elem base n c size m (.slice base n c) zeros x (if !zeros then Builtin.firstCells size m x else if m * size = 0 then pure #[] else do pure (Builtin.zeroCells (← zeroValue elem).cells m))) := by
    rfl
  rw [hm]
  simp only [Sem.run_bind, run_under hs, run_under he, Result.andThen, run_size hz, Sem.run_pure]
  cases d with
  | int i => exact absurd rfl (hd i)
  | _ => simp only [Bool.false_eq_true, if_false, Sem.run_bind, hn, Result.andThen, Bool.not_false, if_true]
theorem run_append_zeros {sT eT el ty : TypeId} {i j : IntKind} {size n k c : Nat} {base : Option Addr} {w : World} (hs : P.underlying sT = some (.slice el)) (he : P.underlying eT = some (.int i))
    (hz : sizeO P el = some size) (hk : k ≤ 1048576) {f : TypeInfo} (hf : P.info? el = some f) (hb : f.bytes ≤ 1048576) :
    (Builtin.append_ #[sT, eT] ty #[.slice base n c, .int j (k : Int)]).run P w = (appS el base n c size k (.slice base n c) true (.int j (k : Int)) (if k * size = 0 then pure #[] else do pure (Builtin.zeroCells (← zeroValue el).cells k))).run P w := by
  have hm : Builtin.append_ #[sT, eT] ty #[.slice base n c, .int j (k : Int)] = (do
      let .slice elem ← underlying sT | stuck "append: slice type expected"
      let size ← sizeOf elem
      let zeros ← do pure ((← underlying eT) matches .int _)
      let m ← if zeros then do
          let l := IntKind.i64.wrap (← asInt (.int j (k : Int)))
          if l < 0 then runtimePanic (.error "makeslice: len out of range")
          if l * (← typeInfo elem).bytes > 2 ^ 48 then
            let made ← choose (.extern "append.ofMake.carriedOut" 2)
            runtimePanic (.error (if made == 1 then "makeslice: len out of range" else "growslice: len out of range"))
          pure l.toNat
        else Builtin.lenOf (.int j (k : Int))
      appS elem base n c size m (.slice base n c) zeros (.int j (k : Int)) (if !zeros then Builtin.firstCells size m (.int j (k : Int)) else if m * size = 0 then pure #[] else do pure (Builtin.zeroCells (← zeroValue elem).cells m))) := by
    rfl
  rw [hm]
  have hi : (asInt (.int j (k : Int))).run P w = .ok (k : Int) w := rfl
  have h6 : ¬ ((k : Int) * (f.bytes : Int) > 2 ^ 48) := by
    have h6 := Nat.mul_le_mul hk hb
    rw [← Int.natCast_mul]
    generalize k * f.bytes = q at h6
    omega
  have h7 : ¬ ((k : Int) < 0) := by omega
  simp only [Sem.run_bind, run_under hs, run_under he, Result.andThen, run_size hz, Sem.run_pure, if_true, hi, wrap_small hk, if_neg h7, run_info hf, if_neg h6, Int.toNat_natCast, Bool.not_true, Bool.false_eq_true, if_false]
theorem appS_in {el : TypeId} {base : Option Addr} {n c size k : Nat} {s x : Value} {zeros : Bool} {app : Sem (Array Value)} {arr : Array Value} {w w' : World} (hle : n + k ≤ c) (ha : app.run P w = .ok arr w)
    (hb : match base with | none => w' = w | some a => (storeCells (a.add (n * size)) arr.toList).run P w = .ok () w') : (appS el base n c size k s zeros x app).run P w = .ok (.slice base (n + k) c) w' := by
  unfold appS
  rw [if_pos hle]
  cases base with
  | none => cases hb; simp only [Sem.run_bind, ha, Result.andThen, Sem.run_pure]
  | some a => simp only [Sem.run_bind, ha, Result.andThen, hb, Sem.run_pure]
theorem appS_in1 {el : TypeId} {a : Addr} {n c size k : Nat} {s x : Value} {zeros : Bool} {app : Sem (Array Value)} {arr : Array Value} {w w' : World} (hle : n + k ≤ c) (ha : app.run P w = .ok arr w)
    (hb : (storeCells (a.add (n * size)) arr.toList).run P w = .ok () w') : (appS el (some a) n c size k s zeros x app).run P w = .ok (.slice (some a) (n + k) c) w' := appS_in hle ha hb
theorem appS_out {el : TypeId} {base : Option Addr} {n c size k : Nat} {s x : Value} {zeros : Bool} {app : Sem (Array Value)} {old arr : Array Value} {w : World} {zv : Value} {f : TypeInfo} (hle : ¬ n + k ≤ c) (hk : n + k ≤ 1048576)
    (hf : P.info? el = some f) (hb : f.bytes ≤ 1048576) (hz : ∀ w' : World, (zeroValue el).run P w' = .ok zv w') (ho : ∀ w' : World, w'.heap = w.heap → (Builtin.firstCells size n s).run P w' = .ok old w') (ha : ∀ w' : World, w'.heap = w.heap → app.run P w' = .ok arr w') :
    ∃ m, n + k ≤ m ∧ (appS el base n c size k s zeros x app).run P w = .ok (.slice (some ⟨w.heap.size, 0, none⟩) (n + k) m) (({ w with drawn := w.drawn + 1 } : World).alloc (.cells (old ++ arr ++ Builtin.zeroCells zv.cells (m - (n + k))) el (0, 0))) := by
  refine ⟨(n + k) + w.tape w.drawn (.appendCap (n + k) c el) % (2 ^ 63 - (n + k)), Nat.le_add_right _ _, ?_⟩
  have h1 : ¬ ((n + k : Nat) : Int) > IntKind.i64.max := by
    have : IntKind.i64.max = 9223372036854775807 := rfl
    rw [this]
    omega
  have h2 : ¬ Builtin.nextslicecap (n + k) c * f.bytes > 2 ^ 48 := by
    have h3 := nextcap_le (n := n + k) (c := c) (by omega) hk
    have h4 := Nat.mul_le_mul h3 hb
    generalize Builtin.nextslicecap (n + k) c * f.bytes = q at h4
    omega
  unfold appS
  rw [if_neg hle]
  have h5 : ¬ (((n + k : Nat) : Int) > IntKind.i64.max ∧ (zeros = true ∨ f.bytes = 0)) := fun h => h1 h.1
  simp only [Sem.run_bind, run_info hf, Result.andThen, if_neg h5, if_neg h2, run_choose, Question.forced, Bool.false_eq_true, if_false, Question.cut, run_askRoom]
  rw [ho { w with drawn := w.drawn + 1 } rfl]
  simp only
  rw [ha { w with drawn := w.drawn + 1 } rfl]
  simp only [hz, run_newRow, Sem.run_pure]
theorem zeroCells_size (z : Array Value) (n : Nat) : (Builtin.zeroCells z n).size = n * z.size := by
  simp [Builtin.zeroCells]
theorem storeCells_nil (a : Addr) (w : World) : (storeCells a []).run P w = .ok () w := rfl
/-- a list that grows into a block of its own -/
theorem grown {ρ : Ren} {h : H} {w : World} {C n k m size : Nat} {o r : List AV} {l : List Value} {arr : Array Value} {zc : Array Value} {el : TypeId} (hr : Rel ρ h w) (hC : ρ C = none) (ho : VRs ρ o l) (hv : VRs ρ r arr.toList)
    (hlo : o.length = n * size) (hlr : r.length = k * size) (hz : zc.size = size) (hm : n + k ≤ m) :
    VR (ρ.put C (w.heap.size, (l.toArray ++ arr ++ Builtin.zeroCells zc (m - (n + k))).size)) (.slice (some (C, 0)) (n + k) (n + k) size) (.slice (some ⟨w.heap.size, 0, none⟩) (n + k) m) ∧
    Post ρ h w C (C + 1) (ρ.put C (w.heap.size, (l.toArray ++ arr ++ Builtin.zeroCells zc (m - (n + k))).size)) (h.set C (some (.row (o ++ r)))) (({ w with drawn := w.drawn + 1 } : World).alloc (.cells (l.toArray ++ arr ++ Builtin.zeroCells zc (m - (n + k))) el (0, 0))) := by
  have h1 := ho.length
  have h2 := hv.length
  rw [Array.length_toList] at h2
  refine ⟨?_, ?_⟩
  · simp only [VR]
    refine ⟨w.heap.size, _, 0, m, Ren.put_same ρ C _, rfl, hm, Nat.le_refl _, .inr rfl, ?_⟩
    simp only [Array.size_append, List.size_toArray, zeroCells_size, h1, h2, hlo, hlr, hz, ← Nat.add_mul]
    rw [Nat.zero_add, show n + k + (m - (n + k)) = m by omega]
    exact Nat.le_refl _
  · exact Post.from_drawn ((hr.drew (w.drawn + 1)).newRow hC (ho.append hv) _ (rest := (Builtin.zeroCells zc (m - (n + k))).toList) (by simp) el (0, 0) (.inr rfl))
theorem app2_rel {ρ : Ren} {h h' : H} {w : World} {a : Option (Nat × Nat)} {n c z k size C c' : Nat} {r : List AV} {v : AV} {g : Log} {S : Value} {app : Sem (Array Value)} {el : TypeId} {Z : AV}
    (e : app2 size a n c z r k C h = .ok v c' h' g) (hr : Rel ρ h w) (hu : VR ρ (.slice a n c z) S) (hsrc : SrcOk P size ρ w k app r) (hZ : zeroOf P el = some Z) (hs : Z.cells.length = size) (hf : Free ρ C c') :
    ∃ base c0, S = .slice base n c0 ∧ ∀ zeros x, ∃ v' ρ' w', (appS el base n c0 size k S zeros x app).run P w = .ok v' w' ∧ VR ρ' v v' ∧ Post ρ h w C c' ρ' h' w' := by
  obtain ⟨hlr, arr, hv, hrun⟩ := hsrc
  obtain ⟨i, zv, z1, z2, z3, z4, z5⟩ := zeroOf_eq hZ
  have hzs : zv.cells.size = size := by
    have := (ofV_VR ρ z3).cells.length
    rw [Array.length_toList] at this
    omega
  have hz0 : ∀ w' : World, (zeroValue el).run P w' = .ok zv w' := fun w' => by simp [zeroValue, run_info z1, z2]
  have h2 := hv.length
  rw [Array.length_toList] at h2
  obtain ⟨hk, e⟩ := ifB_ok e
  have hk := Nat.le_of_ble_eq_true hk
  have hk : n + k ≤ 1048576 := hk
  cases hc : Nat.ble (Nat.add n k) c with
  | true =>
    rw [hc] at e
    have hle : n + k ≤ c := Nat.le_of_ble_eq_true hc
    cases a with
    | none =>
      obtain ⟨rfl, rfl, rfl, _⟩ := pure_ok (show M.pure (AV.slice none (n + k) c z) C h = _ from e)
      simp only [VR] at hu
      exact ⟨none, c, hu, fun zeros x => ⟨_, ρ, w, appS_in hle (hrun w rfl) rfl, by simp only [VR], Post.refl hr⟩⟩
    | some p =>
      obtain ⟨u, e2, rfl⟩ := map_ok (show M.map (fun _ => AV.slice (some p) (n + k) c z) (storeN p.1 (p.2 + n * size) r) C h = _ from e)
      simp only [VR] at hu
      obtain ⟨b, s, o', k', g1, g2, g3, g4, g5, g6⟩ := hu
      obtain ⟨rfl, w', g8, g9⟩ := hr.run_store (P := P) e2 hv g1
      refine ⟨_, k', g2, fun zeros x => ⟨_, ρ, w', appS_in1 (Nat.le_trans hle g3) (hrun w rfl) ?_, ?_, g9⟩⟩
      · rcases g5 with g5 | g5
        · have hn : n = 0 ∧ k = 0 := by omega
          obtain ⟨rfl, rfl⟩ := hn
          have : arr.toList = [] := by
            apply List.length_eq_zero_iff.1
            rw [Array.length_toList, h2, hlr, Nat.zero_mul]
          rw [this] at g8 ⊢
          rw [storeCells_nil] at g8 ⊢
          exact g8
        · rw [g5, addr_add]
          exact g8
      · simp only [VR]
        exact ⟨b, s, o', k', g1, rfl, g3, hle, g5, g6⟩
  | false =>
    rw [hc] at e
    have hnle : ¬ n + k ≤ c := fun q => by
      have := Nat.ble_eq_true_of_le q
      have hc : Nat.ble (n + k) c = false := hc
      rw [hc] at this
      cases this
    cases a with
    | none =>
      obtain ⟨hn, e⟩ := ifB_ok (show ifB (Nat.beq n 0) (grow size (n + k) (newO (.row r))) fail C h = _ from e)
      have hn := Nat.eq_of_beq_eq_true hn
      subst hn
      obtain ⟨m0, e2, rfl⟩ := map_ok e
      obtain ⟨rfl, rfl, rfl, _⟩ := newO_ok e2
      simp only [VR] at hu
      subst hu
      refine ⟨none, c, rfl, fun zeros x => ?_⟩
      obtain ⟨m, q1, q2⟩ := appS_out (P := P) (el := el) (base := none) (size := size) (s := .slice none 0 c) (x := x) (zeros := zeros) (old := #[]) hnle hk z1 z5 hz0 (fun w' _ => rfl) hrun
      obtain ⟨q3, q4⟩ := grown (k := k) (n := 0) (m := m) (size := size) (o := []) (l := []) (zc := zv.cells) (el := el) hr hf.one (VRs.nil ρ) hv (by simp) hlr hzs q1
      exact ⟨_, _, _, q2, q3, q4⟩
    | some p =>
      obtain ⟨hb, e⟩ := ifB_ok (show appOut size p n z r k C h = _ from e)
      have hb3 : p.2 = 0 ∧ z = size ∧ scals r = true := by
        cases b1 : Nat.beq p.2 0 with
        | false => rw [b1] at hb; cases hb
        | true =>
          cases b2 : Nat.beq z size with
          | false => rw [b1, b2] at hb; cases hb
          | true => rw [b1, b2] at hb; exact ⟨Nat.eq_of_beq_eq_true b1, Nat.eq_of_beq_eq_true b2, hb⟩
      obtain ⟨hp0, hzz, hsc⟩ := hb3
      obtain ⟨o, c1, H1, l1, l2, e1, e2, _⟩ := bind_ok e
      obtain ⟨cs, k1, k2, rfl, rfl, _⟩ := killRow_ok e1
      obtain ⟨m0, e3, rfl⟩ := map_ok e2
      obtain ⟨rfl, rfl, rfl, _⟩ := newO_ok e3
      simp only [VR] at hu
      obtain ⟨b, s, o', k', g1, g2, g3, g4, g5, g6⟩ := hu
      rw [hzz] at g6
      have hC := hf.one
      have k2 : takeN (n * size) (dropN 0 cs) = some o := k2
      obtain ⟨ho, hlen⟩ := takeN_eq _ _ _ k2
      rw [dropN_eq, List.drop_zero] at ho hlen
      refine ⟨_, k', g2, fun zeros x => ?_⟩
      by_cases hin : n + k ≤ k'
      · have ho' : o' = 0 := by rcases g5 with g5 | g5 <;> omega
        subst ho'
        obtain ⟨b', s', f1, hpost⟩ := hr.reuse k1 hC hv hlen
        rw [g1] at f1
        cases f1
        have hroom : n * size + arr.toList.length ≤ s := by
          rw [Array.length_toList, h2, hlr, ← Nat.add_mul]
          have := Nat.mul_le_mul_right size hin
          omega
        obtain ⟨b', s', f2, _, hcell, _⟩ := hr.cells k1
        rw [g1] at f2
        cases f2
        have hst := run_storeCells_cells (P := P) b (n * size) arr.toList 0 w (fun j hj => (hcell _ (by omega)).1) (fun j hj => (hcell _ (by omega)).2) (hv.oneCell hsc)
        refine ⟨_, _, _, appS_in1 hin (hrun w rfl) (by rw [addr_add, Nat.zero_add]; simpa using hst), ?_, by rw [ho]; simpa using hpost hroom⟩
        simp only [VR]
        exact ⟨b, s, 0, k', Ren.put_same ρ _ _, rfl, hin, Nat.le_refl _, .inr rfl, g6⟩
      · obtain ⟨b', s', f1, l, f2, f3, f4⟩ := hr.run_loadN (P := P) k1 k2
        rw [g1] at f1
        cases f1
        have hold : ∀ w' : World, w'.heap = w.heap → (Builtin.firstCells size n S).run P w' = .ok l.toArray w' := fun w' hw => by
          rw [g2]
          show (loadCells ⟨b, o', none⟩ (n * size)).run P w' = _
          rcases g5 with g5 | g5
          · have : n = 0 := by omega
            subst this
            rw [Nat.zero_mul] at f2 ⊢
            have : l = [] := List.length_eq_zero_iff.1 f2
            subst this
            rfl
          · rw [g5, hp0]
            exact f4 w' hw
        obtain ⟨m, q1, q2⟩ := appS_out (P := P) (el := el) (base := some ⟨b, o', none⟩) (size := size) (s := S) (x := x) (zeros := zeros) (old := l.toArray) hin hk z1 z5 hz0 hold hrun
        obtain ⟨q3, q4⟩ := grown (k := k) (n := n) (m := m) (size := size) (zc := zv.cells) (el := el) (hr.kill p.1) hC f3 hv (by rw [ho, List.length_take]; omega) hlr hzs q1
        exact ⟨_, _, _, q2, q3, (Post.kill hr p.1 _).trans q4 (Nat.le_refl _) (Nat.le_succ _)⟩
theorem op_append {sT eT el : TypeId} {d : TypeDesc} {x y : Operand} {x' y' : Opd} {Z : AV} (ho : o.op = .call { callee := .builtin .append, args := #[x, y], argTypes := #[sT, eT] }) (kx : cOpd x = some x') (ky : cOpd y = some y')
    (hs : P.underlying sT = some (.slice el)) (he : P.underlying eT = some d) (hd : ∀ i, d ≠ .int i) (hZ : zeroOf P el = some Z) : OpOk P o (oAppend (len Z.cells) x' y') := by
  refine OpOk.of_run fun call E C h v c' h' l hk ρ w a hr hE hf => ?_
  obtain ⟨p, n, c, z, hp, hk⟩ := onSlice_ok hk
  obtain ⟨r, c1, h1, l1, l2, e1, e2, _⟩ := bind_ok hk
  have hx := cOpd_VR hE kx
  have hy := cOpd_VR hE ky
  obtain ⟨rfl, rfl, hlen, hsrc⟩ := srcOf_ok (P := P) e1 hr hy
  rw [hp] at hx
  have hsz : sizeO P el = some (len Z.cells) := by
    obtain ⟨i, zv, z1, z2, z3, z4, z5⟩ := zeroOf_eq hZ
    rw [len_eq, z4]
    unfold sizeO
    rw [z1]
    rfl
  obtain ⟨base, c0, hS, key⟩ := app2_rel e2 hr hx hsrc hZ (len_eq _).symm hf
  obtain ⟨v', ρ', w', q1, q2, q3⟩ := key false (a.eval y)
  refine ⟨v', ρ', w', run_builtin ho (fun _ => rfl) ?_, q2, q3⟩
  have : (#[x, y] : Array Operand).map a.eval = #[.slice base n c0, a.eval y] := by rw [← hS]; simp
  rw [this, run_append_as hs he hd hsz hlen, ← hS]
  exact q1
theorem op_appendZ {sT eT el : TypeId} {i : IntKind} {x y : Operand} {x' y' : Opd} {Z : AV} (ho : o.op = .call { callee := .builtin .append, args := #[x, y], argTypes := #[sT, eT] }) (kx : cOpd x = some x') (ky : cOpd y = some y')
    (hs : P.underlying sT = some (.slice el)) (he : P.underlying eT = some (.int i)) (hZ : zeroOf P el = some Z) : OpOk P o (oAppendZ (len Z.cells) Z.cells x' y') := by
  refine OpOk.of_run fun call E C h v c' h' l hk ρ w a hr hE hf => ?_
  obtain ⟨p, n, c, z, hp, hk⟩ := onSlice_ok hk
  obtain ⟨r, c1, h1, l1, l2, e1, e2, _⟩ := bind_ok hk
  have hx := cOpd_VR hE kx
  obtain ⟨k, hk1, e1⟩ := ifS_ok (show ifS fail (fun k => ifB (Nat.ble k 1048576) (M.pure (reps Z.cells k, k)) fail) (asN (ev E y')) C h = _ from e1)
  obtain ⟨hb, e1⟩ := ifB_ok e1
  obtain ⟨rfl, rfl, rfl, _⟩ := pure_ok e1
  have hb := Nat.le_of_ble_eq_true hb
  obtain ⟨j, hy⟩ := asN_VR (cOpd_VR hE ky) hk1
  rw [hp] at hx
  obtain ⟨f, zv, z1, z2, z3, z4, z5⟩ := zeroOf_eq hZ
  have hsz : sizeO P el = some (len Z.cells) := by
    rw [len_eq, z4]
    unfold sizeO
    rw [z1]
    rfl
  have hV := (ofV_VR ρ z3).cells
  have hzs : zv.cells.size = Z.cells.length := by have := hV.length; rwa [Array.length_toList] at this
  have hz0 : ∀ w' : World, (zeroValue el).run P w' = .ok zv w' := fun w' => by simp [zeroValue, run_info z1, z2]
  have hsrc : SrcOk P (len Z.cells) ρ w k (if k * len Z.cells = 0 then pure #[] else do pure (Builtin.zeroCells (← zeroValue el).cells k)) (reps Z.cells k) := by
    refine ⟨by rw [reps_length, len_eq], ?_⟩
    by_cases h0 : k * len Z.cells = 0
    · rw [if_pos h0]
      refine ⟨#[], ?_, fun w' _ => rfl⟩
      have : reps Z.cells k = [] := by apply List.length_eq_zero_iff.1; rw [reps_length, ← len_eq, h0]
      rw [this]
      exact VRs.nil ρ
    · rw [if_neg h0]
      refine ⟨Builtin.zeroCells zv.cells k, ?_, fun w' _ => by simp [hz0]⟩
      have := reps_VR hV k
      rw [← hzs] at this
      exact this
  obtain ⟨base, c0, hS, key⟩ := app2_rel e2 hr hx hsrc hZ (len_eq _).symm hf
  obtain ⟨v', ρ', w', q1, q2, q3⟩ := key true (a.eval y)
  refine ⟨v', ρ', w', run_builtin ho (fun _ => rfl) ?_, q2, q3⟩
  have : (#[x, y] : Array Operand).map a.eval = #[.slice base n c0, .int j (k : Int)] := by rw [← hS, ← hy]; simp
  rw [this, run_append_zeros hs he hsz hb z1 z5, ← hS, ← hy]
  exact q1
end
end Go.Sx
