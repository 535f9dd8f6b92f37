import Derived.Test.YtmceablhndldiaaGreatDoorSx20d
namespace Go.Sx

/-- two environments alike at an operand -/
def AtO (e e' : Env) (x : Operand) : Prop := ∀ t, x = .tmp t → e.get t = e'.get t
section
variable {P : Program} {e e' : Env}
theorem ev_at {x : Operand} {q : Opd} (k : cOpd x = some q) (h : AtO e e' x) : ev e q = ev e' q := by
  unfold cOpd at k
  split at k
  · cases k; exact h _ rfl
  · obtain ⟨v, h1, k⟩ := ifS_eq k
    cases k
    rfl
  · cases k
  · cases k; rfl
theorem allO_mem {α β : Type} {f : α → Option β} : ∀ {l : List α} {r : List β}, allO f l = some r → ∀ b ∈ r, ∃ a ∈ l, f a = some b
  | [], r, h, b, hb => by cases h; cases hb
  | a :: l, r, h, b, hb => by
    obtain ⟨b1, h1, h⟩ := ifS_eq (show ifS none (fun b => ifS none (fun r => some (b :: r)) (allO f l)) (f a) = some r from h)
    obtain ⟨r1, h2, h⟩ := ifS_eq h
    cases h
    rcases List.mem_cons.1 hb with rfl | hb
    · exact ⟨a, List.mem_cons_self, h1⟩
    · obtain ⟨a', h3, h4⟩ := allO_mem h2 b hb
      exact ⟨a', List.mem_cons_of_mem _ h3, h4⟩
theorem evs_at : ∀ {l : List Operand} {r : List Opd}, cOps l = some r → (∀ x ∈ l, AtO e e' x) → evs e r = evs e' r
  | [], _, k, _ => by cases k; rfl
  | x :: l, r, k, h => by
    have k : ifS none (fun b => ifS none (fun r => some (b :: r)) (cOps l)) (cOpd x) = some r := k
    obtain ⟨b, h1, k⟩ := ifS_eq k
    obtain ⟨q, h2, k⟩ := ifS_eq k
    cases k
    show ev e b :: evs e q = ev e' b :: evs e' q
    rw [ev_at h1 (h x List.mem_cons_self), evs_at h2 fun y hy => h y (List.mem_cons_of_mem _ hy)]
theorem evB_at {x : Option Operand} {q : Option Opd} (k : cOpdO x = some q) (h : ∀ y, x = some y → AtO e e' y) (d : Nat) : evB e d q = evB e' d q := by
  cases x with
  | none => cases k; rfl
  | some y =>
    obtain ⟨z, h1, k⟩ := ifS_eq (show ifS none (fun y => some (some y)) (cOpd y) = some q from k)
    cases k
    show asN (ev e z) = asN (ev e' z)
    rw [ev_at h1 (h y rfl)]
theorem fillA_at : ∀ {ps : List (Nat × Nat × Opd)}, (∀ p ∈ ps, ev e p.2.2 = ev e' p.2.2) → ∀ z, fillA e ps z = fillA e' ps z
  | [], _, z => rfl
  | p :: ps, h, z => by
    show ifB (Nat.beq (ev e p.2.2).cells.length p.2.1) (ifS none (fillA e ps) (putAt (ev e p.2.2).cells p.1 z)) none = ifB (Nat.beq (ev e' p.2.2).cells.length p.2.1) (ifS none (fillA e' ps) (putAt (ev e' p.2.2).cells p.1 z)) none
    rw [h p List.mem_cons_self, show fillA e ps = fillA e' ps from funext (fillA_at fun q hq => h q (List.mem_cons_of_mem _ hq))]
theorem partA_at {s : Nat} {q : Nat × Operand} {p : Nat × Nat × Opd} (k : partA s q = some p) (h : AtO e e' q.2) : ev e p.2.2 = ev e' p.2.2 := by
  obtain ⟨x, h1, k⟩ := ifS_eq (show ifS none (fun x => some (q.1 * s, s, x)) (cOpd q.2) = some p from k)
  cases k
  exact ev_at h1 h
theorem partS_at {pl : List (Nat × Nat)} {q : Nat × Operand} {p : Nat × Nat × Opd} (k : partS pl q = some p) (h : AtO e e' q.2) : ev e p.2.2 = ev e' p.2.2 := by
  obtain ⟨y, h0, k⟩ := ifS_eq (show ifS none (fun p => ifS none (fun x => some (p.1, p.2, x)) (cOpd q.2)) pl[q.1]? = some p from k)
  obtain ⟨x, h1, k⟩ := ifS_eq k
  cases k
  exact ev_at h1 h
theorem cBuiltin_at {b : Builtin} {ts : List TypeId} {l : List Opd} {f : Ev} (h : cBuiltin P b l ts = some f) (hl : evs e l = evs e' l) (call : Ctx) : f call e = f call e' := by
  unfold cBuiltin at h
  split at h
  · rename_i x' y' sT eT
    have hl : [ev e x', ev e y'] = [ev e' x', ev e' y'] := hl
    injection hl with hx hl
    injection hl with hy hl
    obtain ⟨el, he, h⟩ := ifS_eq h
    obtain ⟨Z, hZ, h⟩ := ifS_eq h
    obtain ⟨d, hd, h⟩ := ifS_eq h
    split at h
    · cases h; simp only [oAppendZ, hx, hy]
    · rename_i hn; cases h; simp only [oAppend, hx, hy]
  · rename_i x' t
    have hl : [ev e x'] = [ev e' x'] := hl
    injection hl with hx hl
    unfold cLen at h
    split at h
    · cases h; rfl
    · split at h
      · cases h; rfl
      · cases h
    · cases h; simp only [oLenStr, hx]
    · cases h; simp only [oLenSl, hx]
    · cases h; simp only [oLenMap, hx]
    · cases h
  · rename_i x' t
    have hl : [ev e x'] = [ev e' x'] := hl
    injection hl with hx hl
    obtain ⟨el, he, h⟩ := ifS_eq h
    cases h
    simp only [oCap, hx]
  · rename_i x' y'
    have hl : [ev e x', ev e y'] = [ev e' x', ev e' y'] := hl
    injection hl with hx hl
    injection hl with hy hl
    cases h
    simp only [oMinMax, hx, hy]
  · rename_i x' y'
    have hl : [ev e x', ev e y'] = [ev e' x', ev e' y'] := hl
    injection hl with hx hl
    injection hl with hy hl
    cases h
    simp only [oMinMax, hx, hy]
  · cases h
/-- an operation's run hangs on the environment at its operands alone -/
theorem cOp_at {op : Op} {f : Ev} (h : cOp P op = some f) (H : ∀ x ∈ op.operands, AtO e e' x) (call : Ctx) : f call e = f call e' := by
  unfold cOp at h
  split at h
  · obtain ⟨x', kx, h⟩ := ifS_eq h
    have hx := ev_at kx (H _ (by simp [Op.operands]))
    cases h; simp only [oMove, hx]
  · obtain ⟨x', kx, h⟩ := ifS_eq h
    have hx := ev_at kx (H _ (by simp [Op.operands]))
    cases h; simp only [oMove, hx]
  · obtain ⟨c', kc, h⟩ := ifS_eq h
    obtain ⟨a', ka, h⟩ := ifS_eq h
    obtain ⟨b', kb, h⟩ := ifS_eq h
    have hc := ev_at kc (H _ (by simp [Op.operands]))
    have ha := ev_at ka (H _ (by simp [Op.operands]))
    have hb := ev_at kb (H _ (by simp [Op.operands]))
    cases h
    simp only [oPick, hc, ha, hb]
  · obtain ⟨z, hz, h⟩ := ifS_eq h; cases h; rfl
  · obtain ⟨x', kx, h⟩ := ifS_eq h
    have hx := ev_at kx (H _ (by simp [Op.operands]))
    cases h; simp only [oBox, hx]
  · rename_i t ps
    have H : ∀ q ∈ ps.toList, AtO e e' q.2 := fun q hq => H _ (by simp only [Op.operands, List.mem_toArray, List.mem_map]; exact ⟨q, hq, rfl⟩)
    obtain ⟨z, hz, h⟩ := ifS_eq h
    unfold cBuild at h
    split at h
    · obtain ⟨pl, hpl, h⟩ := ifS_eq h
      obtain ⟨l, hl, h⟩ := ifS_eq h
      cases h
      simp only [oBuild]
      rw [fillA_at fun p hp => by obtain ⟨q, h1, h2⟩ := allO_mem hl p hp; exact partS_at h2 (H q h1)]
    · obtain ⟨s, hs, h⟩ := ifS_eq h
      obtain ⟨l, hl, h⟩ := ifS_eq h
      cases h
      simp only [oBuild]
      rw [fillA_at fun p hp => by obtain ⟨q, h1, h2⟩ := allO_mem hl p hp; exact partA_at h2 (H q h1)]
    · cases h
  · rename_i t n ps
    have H : ∀ q ∈ ps.toList, AtO e e' q.2 := fun q hq => H _ (by simp only [Op.operands, List.mem_toArray, List.mem_map]; exact ⟨q, hq, rfl⟩)
    obtain ⟨el, he, h⟩ := ifS_eq h
    obtain ⟨z, hz, h⟩ := ifS_eq h
    obtain ⟨hn, h⟩ := ifB_eq h
    obtain ⟨l, hl, h⟩ := ifS_eq h
    cases h
    simp only [oBuildSlice]
    rw [fillA_at fun p hp => by obtain ⟨q, h1, h2⟩ := allO_mem hl p hp; exact partA_at h2 (H q h1)]
  · obtain ⟨a', ka, h⟩ := ifS_eq h
    have ha := ev_at ka (H _ (by simp [Op.operands]))
    obtain ⟨b, hb, h⟩ := ifS_eq h
    cases b with
    | true =>
      obtain ⟨n, hn, h⟩ := ifS_eq (show ifS none (fun n => some (oLoadN n a')) _ = some f from h)
      cases h
      simp only [oLoadN, ha]
    | false => cases h; simp only [oLoad1, ha]
  · obtain ⟨a', ka, h⟩ := ifS_eq h
    obtain ⟨x', kx, h⟩ := ifS_eq h
    have ha := ev_at ka (H _ (by simp [Op.operands]))
    have hx := ev_at kx (H _ (by simp [Op.operands]))
    obtain ⟨n, hn, h⟩ := ifS_eq h
    cases h
    simp only [oStore, ha, hx]
  · obtain ⟨x', kx, h⟩ := ifS_eq h
    have hx := ev_at kx (H _ (by simp [Op.operands]))
    cases h; simp only [oNilCheck, hx]
  · obtain ⟨a', ka, h⟩ := ifS_eq h
    obtain ⟨b', kb, h⟩ := ifS_eq h
    have ha := ev_at ka (H _ (by simp [Op.operands]))
    have hb := ev_at kb (H _ (by simp [Op.operands]))
    unfold cBin at h
    cases hs : isScal P _ with
    | true => rw [hs] at h; cases h; simp only [oBin, ha, hb]
    | false =>
      rw [hs, ifB_false] at h
      split at h
      · obtain ⟨g, hg, h⟩ := ifS_eq h; cases h; simp only [oEq, ha, hb]
      · obtain ⟨g, hg, h⟩ := ifS_eq h; cases h; simp only [oEq, ha, hb]
      · cases h
  · obtain ⟨x', kx, h⟩ := ifS_eq h
    have hx := ev_at kx (H _ (by simp [Op.operands]))
    cases h; simp only [oNot, hx]
  · obtain ⟨x', kx, h⟩ := ifS_eq h
    have hx := ev_at kx (H _ (by simp [Op.operands]))
    cases h; simp only [oNeg, hx]
  · obtain ⟨x', kx, h⟩ := ifS_eq h
    have hx := ev_at kx (H _ (by simp [Op.operands]))
    obtain ⟨d1, h1, h⟩ := ifS_eq h
    obtain ⟨d2, h2, h⟩ := ifS_eq h
    unfold cConvB at h
    split at h
    · split at h
      · cases h; simp only [oStrBytes, hx]
      · cases h
    · unfold cConv at h
      split at h
      · cases h; simp only [oConv, hx]
      · cases h; simp only [oChr, hx]
      · cases h; simp only [oSame, hx]
      · cases h
  · obtain ⟨x', kx, h⟩ := ifS_eq h
    have hx := ev_at kx (H _ (by simp [Op.operands]))
    obtain ⟨hp, h⟩ := ifB_eq h
    cases h
    simp only [oIface, hx]
  · rename_i g a b
    obtain ⟨a', ka, h⟩ := ifS_eq h
    obtain ⟨b', kb, h⟩ := ifS_eq h
    have ha := evs_at ka fun x hx => H x (by simp only [Op.operands, Array.mem_append]; exact .inl (Array.mem_toList_iff.1 hx))
    have hb := evs_at kb fun x hx => H x (by simp only [Op.operands, Array.mem_append]; exact .inr (Array.mem_toList_iff.1 hx))
    cases h
    simp only [oFunc, ha, hb]
  · cases h; rfl
  · obtain ⟨el, he, h⟩ := ifS_eq h
    obtain ⟨z, hz, h⟩ := ifS_eq h
    obtain ⟨l', kl, h⟩ := ifS_eq h
    obtain ⟨c', kc, h⟩ := ifS_eq h
    have hl := ev_at kl (H _ (by simp [Op.operands]))
    have hc := ev_at kc (H _ (by simp [Op.operands]))
    cases h
    simp only [oMakeSlice, hl, hc]
  · obtain ⟨x', kx, h⟩ := ifS_eq h
    obtain ⟨lo', kl, h⟩ := ifS_eq h
    obtain ⟨hi', kh, h⟩ := ifS_eq h
    have hx := ev_at kx (H _ (by simp [Op.operands]))
    have hl := fun d => evB_at (d := d) kl fun y hy => H y (by subst hy; simp [Op.operands])
    have hh := fun d => evB_at (d := d) kh fun y hy => H y (by subst hy; simp [Op.operands])
    unfold cSlice at h
    split at h
    · cases h; simp only [oSliceStr, hx, hl, hh]
    · obtain ⟨n, hn, h⟩ := ifS_eq h
      cases h
      simp only [oSliceSl, hx, hl, hh]
    · cases h
  · obtain ⟨x', kx, h⟩ := ifS_eq h
    have hx := ev_at kx (H _ (by simp [Op.operands]))
    obtain ⟨fd, hf, h⟩ := ifS_eq h
    obtain ⟨n, hn, h⟩ := ifS_eq h
    obtain ⟨h0, h⟩ := ifN_eq h
    cases h
    simp only [oFieldAddr, hx]
  · obtain ⟨x', kx, h⟩ := ifS_eq h
    have hx := ev_at kx (H _ (by simp [Op.operands]))
    obtain ⟨fd, hf, h⟩ := ifS_eq h
    obtain ⟨b, hb, h⟩ := ifS_eq h
    cases b with
    | true =>
      obtain ⟨n, hn, h⟩ := ifS_eq (show ifS none (fun n => some (oFieldN fd.offset n x')) _ = some f from h)
      cases h
      simp only [oFieldN, hx]
    | false => cases h; simp only [oField1, hx]
  · obtain ⟨x', kx, h⟩ := ifS_eq h
    obtain ⟨i', ki, h⟩ := ifS_eq h
    have hx := ev_at kx (H _ (by simp [Op.operands]))
    have hi := ev_at ki (H _ (by simp [Op.operands]))
    unfold cIndexAddr at h
    split at h
    · obtain ⟨z, hz, h⟩ := ifS_eq h
      cases h
      simp only [oIndexAr, hx, hi]
    · obtain ⟨z, hz, h⟩ := ifS_eq h
      cases h
      simp only [oIndexSl, hx, hi]
    · cases h
  · obtain ⟨x', kx, h⟩ := ifS_eq h
    obtain ⟨i', ki, h⟩ := ifS_eq h
    have hx := ev_at kx (H _ (by simp [Op.operands]))
    have hi := ev_at ki (H _ (by simp [Op.operands]))
    unfold cIndex at h
    split at h
    · obtain ⟨z, hz, h⟩ := ifS_eq h
      obtain ⟨b, hb, h⟩ := ifS_eq h
      cases h
      simp only [oIndexVal, hx, hi]
    · cases h; simp only [oIndexStr, hx, hi]
    · cases h
  · obtain ⟨m', km, h⟩ := ifS_eq h
    obtain ⟨k', kk, h⟩ := ifS_eq h
    have hm := ev_at km (H _ (by simp [Op.operands]))
    have hk := ev_at kk (H _ (by simp [Op.operands]))
    obtain ⟨q, hq, h⟩ := ifS_eq h
    obtain ⟨fk, hf, h⟩ := ifS_eq h
    obtain ⟨z, hz, h⟩ := ifS_eq h
    cases h
    simp only [oLookup, hm, hk]
  · obtain ⟨m', km, h⟩ := ifS_eq h
    obtain ⟨k', kk, h⟩ := ifS_eq h
    obtain ⟨x', kx, h⟩ := ifS_eq h
    have hm := ev_at km (H _ (by simp [Op.operands]))
    have hk := ev_at kk (H _ (by simp [Op.operands]))
    have hx := ev_at kx (H _ (by simp [Op.operands]))
    obtain ⟨q, hq, h⟩ := ifS_eq h
    obtain ⟨fk, hf, h⟩ := ifS_eq h
    cases h
    simp only [oMapUpdate, hm, hk, hx]
  · obtain ⟨m', km, h⟩ := ifS_eq h
    obtain ⟨k', kk, h⟩ := ifS_eq h
    obtain ⟨x', kx, h⟩ := ifS_eq h
    have hm := ev_at km (H _ (by simp [Op.operands]))
    have hk := ev_at kk (H _ (by simp [Op.operands]))
    have hx := ev_at kx (H _ (by simp [Op.operands]))
    obtain ⟨q, hq, h⟩ := ifS_eq h
    obtain ⟨fk, hf, h⟩ := ifS_eq h
    cases h
    simp only [oMapUpdate, hm, hk, hx]
  · obtain ⟨x', kx, h⟩ := ifS_eq h
    have hx := ev_at kx (H _ (by simp [Op.operands]))
    cases h; simp only [oExtract, hx]
  · rename_i c
    obtain ⟨l, kl, h⟩ := ifS_eq h
    obtain ⟨callee, args, ts⟩ := c
    have hl := evs_at kl fun x hx => H x (by simp only [Op.operands, Call.operands, Array.mem_append]; exact .inr (Array.mem_toList_iff.1 hx))
    unfold cCall at h
    split at h
    · rename_i g hc
      obtain ⟨g', kg, h⟩ := ifS_eq h
      cases h
      cases hc
      have hg := ev_at kg (H _ (by simp [Op.operands, Call.operands]))
      simp only [oCall, hg, hl]
    · rename_i b hc
      cases hc
      exact cBuiltin_at h hl call
    · cases h
  · cases h
end
end Go.Sx
