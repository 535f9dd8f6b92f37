/-
  The operations on values alone: '==', turns of kind, places in slices, arrays and strings.
-/
import Derived.Test.YtmceablhndldiaaGreatDoorSx6
import Derived.Laws.StructEq
namespace Go.Sx
open Go.RowKit

section
variable {P : Program} {o : Oper}
theorem op_not {t : TypeId} {x : Operand} {y : Opd} (ho : o.op = .unOp .not t x) (k : cOpd x = some y) : OpOk P o (oNot y) := by
  refine OpOk.of_val fun call e c h v c' h' l he => ?_
  obtain ⟨b, hb, he⟩ := onBool_ok he
  obtain ⟨rfl, rfl, rfl, _⟩ := pure_ok he
  refine ⟨rfl, rfl, fun ρ w a _ hE => ?_⟩
  have hx := cOpd_VR hE k
  rw [hb] at hx
  simp only [VR] at hx
  exact ⟨_, by simp [execOp, ho, hx, Op.unary], VR.bool ρ _⟩
theorem op_neg {t : TypeId} {x : Operand} {y : Opd} (ho : o.op = .unOp .neg t x) (k : cOpd x = some y) : OpOk P o (oNeg y) := by
  refine OpOk.of_val fun call e c h v c' h' l he => ?_
  obtain ⟨b, n, hb, he⟩ := onInt_ok he
  obtain ⟨rfl, rfl, rfl, _⟩ := pure_ok he
  refine ⟨rfl, rfl, fun ρ w a _ hE => ?_⟩
  have hx := cOpd_VR hE k
  rw [hb] at hx
  simp only [VR] at hx
  exact ⟨.int b (b.wrap (0 - n)), by simp [execOp, ho, hx, Op.unary, Op.intArith], by rw [wrapA_eq]; exact VR.int ρ b _⟩
theorem op_conv {s d : TypeId} {i j : IntKind} {x : Operand} {y : Opd} (ho : o.op = .convert s d x) (k : cOpd x = some y) (hs : P.underlying s = some (.int i)) (hd : P.underlying d = some (.int j)) : OpOk P o (oConv j y) := by
  refine OpOk.of_val fun call e c h v c' h' l he => ?_
  obtain ⟨b, n, hb, he⟩ := onInt_ok he
  obtain ⟨rfl, rfl, rfl, _⟩ := pure_ok he
  refine ⟨rfl, rfl, fun ρ w a _ hE => ?_⟩
  have hx := cOpd_VR hE k
  rw [hb] at hx
  simp only [VR] at hx
  exact ⟨.int j (j.wrap n), by simp [execOp, ho, hx, convert, run_under hs, run_under hd, Conv.intToInt], by rw [wrapA_eq]; exact VR.int ρ j _⟩
theorem op_convS {s d : TypeId} {x : Operand} {y : Opd} (ho : o.op = .convert s d x) (k : cOpd x = some y) (hs : P.underlying s = some .string) (hd : P.underlying d = some .string) : OpOk P o (oSame y) := by
  refine OpOk.of_val fun call e c h v c' h' l he => ?_
  obtain ⟨b, hb, he⟩ := onStr_ok he
  obtain ⟨rfl, rfl, rfl, _⟩ := pure_ok he
  refine ⟨rfl, rfl, fun ρ w a _ hE => ?_⟩
  have hx := cOpd_VR hE k
  rw [hb] at hx
  have hx' := hx
  simp only [VR] at hx'
  obtain ⟨q, hq, _⟩ := hx'
  exact ⟨_, by simp [execOp, ho, hq, convert, run_under hs, run_under hd], hq ▸ hx⟩
theorem encode_small : ∀ m : Nat, m < 128 → (Utf8.encode m).data.toList.map UInt8.toNat = [m] := by decide +kernel
theorem op_chr {s d : TypeId} {i : IntKind} {x : Operand} {y : Opd} (ho : o.op = .convert s d x) (k : cOpd x = some y) (hs : P.underlying s = some (.int i)) (hd : P.underlying d = some .string) : OpOk P o (oChr y) := by
  refine OpOk.of_val fun call e c h v c' h' l he => ?_
  obtain ⟨b, n, hb, he⟩ := onInt_ok he
  obtain ⟨m, rfl, he⟩ := onNat_ok he
  obtain ⟨hm, he⟩ := ifB_ok he
  obtain ⟨rfl, rfl, rfl, _⟩ := pure_ok he
  refine ⟨rfl, rfl, fun ρ w a _ hE => ?_⟩
  have hx := cOpd_VR hE k
  rw [hb] at hx
  simp only [VR] at hx
  refine ⟨.string (Utf8.encode m), by simp [execOp, ho, hx, convert, run_under hs, run_under hd, Conv.intToString], ?_⟩
  simp only [VR]
  rw [blt_dec] at hm
  exact ⟨_, rfl, encode_small m (of_decide_eq_true hm)⟩
theorem dropS_eq : ∀ (n : Nat) (l : List Nat), dropS n l = l.drop n
  | 0, _ => rfl
  | _ + 1, [] => rfl
  | n + 1, _ :: l => dropS_eq n l
theorem takeS_eq : ∀ (n : Nat) (l : List Nat), takeS n l = l.take n
  | 0, _ => rfl
  | _ + 1, [] => rfl
  | n + 1, a :: l => congrArg (a :: ·) (takeS_eq n l)
theorem asN_VR {ρ : Ren} {v : AV} {u : Value} {n : Nat} (h : VR ρ v u) (e : asN v = some n) : ∃ k, u = .int k (n : Int) := by
  cases v with
  | int k m =>
    cases m with
    | ofNat m => cases e; simp only [VR] at h; exact ⟨k, h⟩
    | negSucc m => cases e
  | _ => cases e
theorem op_indexStr {t : TypeId} {x i : Operand} {x' i' : Opd} (ho : o.op = .index t x i) (kx : cOpd x = some x') (ki : cOpd i = some i') (ht : P.underlying t = some .string) : OpOk P o (oIndexStr x' i') := by
  refine OpOk.of_val fun call e c h v c' h' l he => ?_
  obtain ⟨s, hs, he⟩ := onStr_ok he
  obtain ⟨n, hn, he⟩ := ifS_ok he
  obtain ⟨b, r, hd, he⟩ := ifC_ok he
  obtain ⟨rfl, rfl, rfl, _⟩ := pure_ok he
  refine ⟨rfl, rfl, fun ρ w a _ hE => ?_⟩
  have hx := cOpd_VR hE kx
  have hi := cOpd_VR hE ki
  obtain ⟨k, hi⟩ := asN_VR hi hn
  rw [hs] at hx
  simp only [VR] at hx
  obtain ⟨q, hq, hx⟩ := hx
  refine ⟨.int .u8 b, ?_, VR.int ρ _ _⟩
  simp only [execOp, ho]
  refine run_val ?_
  rw [dropS_eq] at hd
  have hb : s[n]? = some b := by simpa [List.head?_drop] using congrArg List.head? hd
  rw [← hx, List.getElem?_map] at hb
  cases hg : q.data.toList[n]? with
  | none => rw [hg] at hb; cases hb
  | some u =>
    rw [hg] at hb
    have hu : u.toNat = b := by simpa using hb
    have hlt : n < q.data.toList.length := by
      rcases Nat.lt_or_ge n q.data.toList.length with hh | hh
      · exact hh
      · rw [List.getElem?_eq_none hh] at hg; cases hg
    have hq2 : q[n]? = some u := by
      rw [ByteArray.getElem?_lt' q n (show n < q.data.size by rw [← Array.length_toList]; exact hlt)]
      rw [List.getElem?_eq_getElem hlt] at hg
      exact hg
    simp [Instr.index, hi, asIntOf, run_under ht, hq, hq2, hu]
theorem ixA_ok {size n : Nat} {p : Nat × Nat} {i : Option Nat} {c c' : Nat} {h h' : H} {l : Log} {v : AV} (e : ixA size n p i c h = .ok v c' h' l) : ∃ m, i = some m ∧ m < n ∧ v = .ptr (some (p.1, p.2 + m * size)) ∧ c' = c ∧ h' = h := by
  obtain ⟨m, rfl, e⟩ := ifS_ok e
  obtain ⟨hm, e⟩ := ifB_ok e
  obtain ⟨rfl, rfl, rfl, _⟩ := pure_ok e
  rw [blt_dec] at hm
  exact ⟨m, rfl, of_decide_eq_true hm, rfl, rfl, rfl⟩
theorem op_indexSl {t el : TypeId} {z : Nat} {x i : Operand} {x' i' : Opd} (ho : o.op = .indexAddr t x i) (kx : cOpd x = some x') (ki : cOpd i = some i') (ht : P.underlying t = some (.slice el)) (hz : sizeO P el = some z) : OpOk P o (oIndexSl z x' i') := by
  refine OpOk.of_val fun call e c h v c' h' l he => ?_
  obtain ⟨p, n, m, q, hs, he⟩ := onSlice_ok he
  obtain ⟨p, rfl, he⟩ := ifS_ok he
  obtain ⟨i0, hi0, hlt, rfl, rfl, rfl⟩ := ixA_ok he
  refine ⟨rfl, rfl, fun ρ w a _ hE => ?_⟩
  have hx := cOpd_VR hE kx
  have hi := cOpd_VR hE ki
  obtain ⟨k, hi⟩ := asN_VR hi hi0
  rw [hs] at hx
  simp only [VR] at hx
  obtain ⟨b, s, o', k', h1, h2, h3, h4, h5, h6⟩ := hx
  have h5 : o' = p.2 := by
    rcases h5 with h5 | h5
    · omega
    · exact h5
  subst h5
  refine ⟨.pointer (some ⟨b, p.2 + i0 * z, none⟩), ?_, ?_⟩
  · simp only [execOp, ho]
    refine run_val ?_
    have hc : (0 : Int) ≤ (i0 : Int) ∧ (i0 : Int) < (n : Int) := ⟨by omega, by omega⟩
    simp [Instr.indexAt, hi, asIntOf, run_under ht, h2, run_size hz, addr_add, hlt]
  · simp only [VR]
    exact ⟨b, s, h1, rfl⟩
theorem op_indexAr {t el : TypeId} {n z : Nat} {x i : Operand} {x' i' : Opd} (ho : o.op = .indexAddr t x i) (kx : cOpd x = some x') (ki : cOpd i = some i') (ht : P.underlying t = some (.array n el)) (hz : sizeO P el = some z) : OpOk P o (oIndexAr n z x' i') := by
  refine OpOk.of_val fun call e c h v c' h' l he => ?_
  obtain ⟨p, hs, he⟩ := onPtr_ok he
  obtain ⟨p, rfl, he⟩ := ifS_ok he
  obtain ⟨i0, hi0, hlt, rfl, rfl, rfl⟩ := ixA_ok he
  refine ⟨rfl, rfl, fun ρ w a _ hE => ?_⟩
  have hx := cOpd_VR hE kx
  have hi := cOpd_VR hE ki
  obtain ⟨k, hi⟩ := asN_VR hi hi0
  rw [hs] at hx
  simp only [VR] at hx
  obtain ⟨b, s, h1, h2⟩ := hx
  refine ⟨.pointer (some ⟨b, p.2 + i0 * z, none⟩), ?_, ?_⟩
  · simp only [execOp, ho]
    refine run_val ?_
    simp [Instr.indexAt, hi, asIntOf, run_under ht, h2, run_size hz, addr_add, hlt, Instr.sureAddr]
  · simp only [VR]
    exact ⟨b, s, h1, rfl⟩
theorem op_indexVal {t el : TypeId} {n z : Nat} {g : Bool} {x i : Operand} {x' i' : Opd} (ho : o.op = .index t x i) (kx : cOpd x = some x') (ki : cOpd i = some i') (ht : P.underlying t = some (.array n el)) (hz : sizeO P el = some z) (hg : aggO P el = some g) : OpOk P o (oIndexVal n z g x' i') := by
  refine OpOk.of_val fun call e c h v c' h' l he => ?_
  obtain ⟨m, hm, he⟩ := ifS_ok he
  obtain ⟨hlt, he⟩ := ifB_ok he
  rw [blt_dec] at hlt
  have hlt := of_decide_eq_true hlt
  have key : c' = c ∧ h' = h ∧ ∃ r, ev e x' = .agg r ∧ ∀ (ρ : Ren) (w : World) (q : Array Value), VRs ρ r q.toList → ∃ u, (part el q (m * z)).run P w = .ok u w ∧ VR ρ v u := by
    cases g with
    | true =>
      obtain ⟨r, hr, he⟩ := onAgg_ok (show partN (m * z) z (ev e x') c h = _ from he)
      obtain ⟨u, hd, he⟩ := ifS_ok he
      obtain ⟨rfl, rfl, rfl, _⟩ := pure_ok he
      exact ⟨rfl, rfl, r, hr, fun ρ w q hq => run_partN hg hz hq hd⟩
    | false =>
      obtain ⟨r, hr, he⟩ := onAgg_ok (show part1 (m * z) (ev e x') c h = _ from he)
      obtain ⟨u, t, hd, he⟩ := ifC_ok he
      obtain ⟨rfl, rfl, rfl, _⟩ := pure_ok he
      exact ⟨rfl, rfl, r, hr, fun ρ w q hq => run_part1 hg hq hd⟩
  obtain ⟨rfl, rfl, r, hr, key⟩ := key
  refine ⟨rfl, rfl, fun ρ w a _ hE => ?_⟩
  have hx := cOpd_VR hE kx
  have hi := cOpd_VR hE ki
  obtain ⟨k, hi⟩ := asN_VR hi hm
  rw [hr] at hx
  simp only [VR] at hx
  obtain ⟨q, hq, hx⟩ := hx
  obtain ⟨u, h1, h2⟩ := key ρ w q hx
  refine ⟨u, ?_, h2⟩
  simp only [execOp, ho]
  refine run_val ?_
  simp [Instr.index, hi, asIntOf, run_under ht, hq, hlt, run_size hz, h1]
theorem bound_eq {ρ : Ren} {e : Env} {a : Act} (hE : ER ρ e a.tmps) {x : Option Operand} {x' : Option Opd} (k : cOpdO x = some x') {d n : Nat} (hn : evB e d x' = some n) :
    (x = none ∧ n = d) ∨ ∃ y i, x = some y ∧ a.eval y = .int i (n : Int) := by
  rcases cOpdO_VR hE k with ⟨rfl, rfl⟩ | ⟨y, y', rfl, rfl, hV⟩
  · cases hn
    exact .inl ⟨rfl, rfl⟩
  · obtain ⟨i, hi⟩ := asN_VR hV hn
    exact .inr ⟨y, i, rfl, hi⟩
/-- the bounds of a slice expression that are well -/
theorem run_bounds {ρ : Ren} {e : Env} {a : Act} (hE : ER ρ e a.tmps) {lo hi : Option Operand} {lo' hi' : Option Opd} (kl : cOpdO lo = some lo') (kh : cOpdO hi = some hi') {len cap l h : Nat} (hl : evB e 0 lo' = some l) (hh : evB e len hi' = some h)
    (h1 : l ≤ h) (h2 : h ≤ cap) (b : Bool) (w : World) : (Instr.sliceBounds b len cap (lo.map a.eval) (hi.map a.eval) none).run P w = .ok (l, h, cap) w := by
  unfold Instr.sliceBounds
  rcases bound_eq hE kh hh with ⟨rfl, rfl⟩ | ⟨y, i, rfl, hy⟩ <;> rcases bound_eq hE kl hl with ⟨rfl, rfl⟩ | ⟨z, j, rfl, hz⟩ <;>
    simp [Instr.sliceBound, asIntOf, *]
theorem le_of_two {l h m : Nat} (e : ifB (Nat.ble l h) (Nat.ble h m) false = true) : l ≤ h ∧ h ≤ m := by
  cases k : Nat.ble l h with
  | false => rw [k] at e; cases e
  | true => rw [k] at e; exact ⟨Nat.le_of_ble_eq_true k, Nat.le_of_ble_eq_true e⟩
theorem op_sliceStr {t : TypeId} {x : Operand} {lo hi : Option Operand} {x' : Opd} {lo' hi' : Option Opd} (ho : o.op = .slice t x lo hi none) (kx : cOpd x = some x') (kl : cOpdO lo = some lo') (kh : cOpdO hi = some hi') (ht : P.underlying t = some .string) : OpOk P o (oSliceStr x' lo' hi') := by
  refine OpOk.of_val fun call e c h v c' h' l he => ?_
  obtain ⟨s, hs, he⟩ := onStr_ok he
  obtain ⟨l0, hl, he⟩ := ifS_ok he
  obtain ⟨h0, hh, he⟩ := ifS_ok he
  obtain ⟨hb, he⟩ := ifB_ok he
  obtain ⟨rfl, rfl, rfl, _⟩ := pure_ok he
  obtain ⟨h1, h2⟩ := le_of_two hb
  rw [len_eq] at h2 hh
  refine ⟨rfl, rfl, fun ρ w a _ hE => ?_⟩
  have hx := cOpd_VR hE kx
  rw [hs] at hx
  simp only [VR] at hx
  obtain ⟨q, hq, hx⟩ := hx
  have hlen := str_len hx
  refine ⟨.string (q.extract l0 h0), ?_, ?_⟩
  · simp only [execOp, ho]
    refine run_val ?_
    have := run_bounds (P := P) hE kl kh (cap := s.length) hl hh h1 h2 false w
    rw [← hlen] at this
    simp [Instr.sliceAt, Instr.slice, run_under ht, hq, this]
  · simp only [VR]
    refine ⟨_, rfl, ?_⟩
    rw [takeS_eq, dropS_eq, ← hx]
    simp only [ByteArray.data_extract, Array.toList_extract, List.extract_eq_take_drop, List.map_take, List.map_drop]
    rfl
theorem sub2_ok {size c0 c c' : Nat} {p : Option (Nat × Nat)} {l h : Option Nat} {v : AV} {H0 H1 : H} {g : Log} (e : sub2 size p c0 l h c H0 = .ok v c' H1 g) :
    ∃ l0 h0, l = some l0 ∧ h = some h0 ∧ l0 ≤ h0 ∧ h0 ≤ c0 ∧ v = .slice (shiftA (l0 * size) p) (h0 - l0) (c0 - l0) size ∧ c' = c ∧ H1 = H0 := by
  obtain ⟨l0, rfl, e⟩ := ifS_ok (o := l) e
  obtain ⟨h0, rfl, e⟩ := ifS_ok (o := h) e
  obtain ⟨hb, e⟩ := ifB_ok e
  obtain ⟨rfl, rfl, rfl, _⟩ := pure_ok e
  obtain ⟨h1, h2⟩ := le_of_two hb
  exact ⟨l0, h0, rfl, rfl, h1, h2, rfl, rfl, rfl⟩
theorem op_sliceSl {t el : TypeId} {z : Nat} {x : Operand} {lo hi : Option Operand} {x' : Opd} {lo' hi' : Option Opd} (ho : o.op = .slice t x lo hi none) (kx : cOpd x = some x') (kl : cOpdO lo = some lo') (kh : cOpdO hi = some hi') (ht : P.underlying t = some (.slice el)) (hz : sizeO P el = some z) : OpOk P o (oSliceSl z x' lo' hi') := by
  refine OpOk.of_val fun call e c h v c' h' l he => ?_
  obtain ⟨p, n, m, q, hs, he⟩ := onSlice_ok he
  obtain ⟨hq, he⟩ := ifB_ok he
  obtain ⟨l0, h0, hl, hh, h1, h2, rfl, rfl, rfl⟩ := sub2_ok he
  refine ⟨rfl, rfl, fun ρ w a _ hE => ?_⟩
  have hx := cOpd_VR hE kx
  rw [hs] at hx
  cases p with
  | none =>
    simp only [VR] at hx
    have := run_bounds (P := P) hE kl kh (cap := m) hl hh h1 h2 true w
    refine ⟨.slice none (h0 - l0) (m - l0), ?_, by simp only [shiftA, ifS_none, VR]⟩
    simp only [execOp, ho]
    refine run_val ?_
    simp [Instr.sliceAt, Instr.slice, run_under ht, hx, this, run_size hz]
  | some p =>
    simp only [VR] at hx
    obtain ⟨b, s, o', k', g1, g2, g3, g4, g5, g6⟩ := hx
    have hqz : q = z := Nat.eq_of_beq_eq_true hq
    subst hqz
    have := run_bounds (P := P) hE kl kh (cap := k') hl hh h1 (Nat.le_trans h2 g3) true w
    refine ⟨.slice (some (if k' = l0 then ⟨b, o', none⟩ else ⟨b, o' + l0 * q, none⟩)) (h0 - l0) (k' - l0), ?_, ?_⟩
    · simp only [execOp, ho]
      refine run_val ?_
      simp only [Instr.sliceAt, Instr.slice, Sem.run_bind, run_under ht, Result.andThen, g2, Option.map_none, this, run_size hz, Sem.run_pure]
      congr 2
      split <;> simp [addr_add]
    · simp only [shiftA, ifS_some, VR]
      by_cases hk : k' = l0
      · rw [if_pos hk]
        exact ⟨b, s, o', _, g1, rfl, by omega, by omega, .inl (by omega), by rw [hk]; simp; omega⟩
      · rw [if_neg hk]
        refine ⟨b, s, o' + l0 * q, _, g1, rfl, by omega, by omega, .inr ?_, ?_⟩
        · rcases g5 with g5 | g5
          · omega
          · rw [g5]; rfl
        · rw [Nat.add_assoc, ← Nat.add_mul]
          rw [show l0 + (k' - l0) = k' by omega]
          exact g6
end
end Go.Sx
