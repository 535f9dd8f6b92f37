/-
  What is made of an operation is what it does.
-/
import Derived.Test.YtmceablhndldiaaGreatDoorSx14
namespace Go.Sx
open Go.RowKit

section
variable {P : Program} {o : Oper} {f : Ev}
theorem toArray_eq {α : Type} {a : Array α} {l : List α} (h : a.toList = l) : a = l.toArray := by
  subst h
  simp
theorem cOps_one {l : List Operand} {a : Opd} (h : cOps l = some [a]) : ∃ x, l = [x] ∧ cOpd x = some a := by
  cases l with
  | nil => cases h
  | cons x l =>
    obtain ⟨b, h1, h⟩ := ifS_eq (show ifS none (fun b => ifS none (fun r => some (b :: r)) (cOps l)) (cOpd x) = some [a] from h)
    obtain ⟨r, h2, h⟩ := ifS_eq h
    cases h
    cases l with
    | nil => exact ⟨x, rfl, h1⟩
    | cons y l =>
      obtain ⟨b, _, h2⟩ := ifS_eq (show ifS none (fun b => ifS none (fun r => some (b :: r)) (cOps l)) (cOpd y) = some [] from h2)
      obtain ⟨r, _, h2⟩ := ifS_eq h2
      cases h2
theorem cOps_two {l : List Operand} {a b : Opd} (h : cOps l = some [a, b]) : ∃ x y, l = [x, y] ∧ cOpd x = some a ∧ cOpd y = some b := by
  cases l with
  | nil => cases h
  | cons x l =>
    obtain ⟨q, h1, h⟩ := ifS_eq (show ifS none (fun b => ifS none (fun r => some (b :: r)) (cOps l)) (cOpd x) = some [a, b] from h)
    obtain ⟨r, h2, h⟩ := ifS_eq h
    cases h
    obtain ⟨y, rfl, h3⟩ := cOps_one h2
    exact ⟨x, y, rfl, h1, h3⟩
theorem cBuiltin_ok {b : Builtin} {args : Array Operand} {ts : Array TypeId} {l : List Opd} (ho : o.op = .call { callee := .builtin b, args, argTypes := ts }) (kl : cOps args.toList = some l) (h : cBuiltin P b l ts.toList = some f) : OpOk P o f := by
  unfold cBuiltin at h
  split at h
  · rename_i x' y' sT eT hts
    obtain ⟨x, y, hl, kx, ky⟩ := cOps_two kl
    have hl := toArray_eq hl
    have hts := toArray_eq hts
    subst hl
    subst hts
    obtain ⟨el, he, h⟩ := ifS_eq h
    obtain ⟨Z, hZ, h⟩ := ifS_eq h
    obtain ⟨d, hd, h⟩ := ifS_eq h
    split at h
    · cases h; exact op_appendZ ho kx ky (elemS_eq he) hd hZ
    · rename_i hn; cases h; exact op_append ho kx ky (elemS_eq he) hd (fun i e => hn i e) hZ
  · rename_i x' t hts
    obtain ⟨x, hl, kx⟩ := cOps_one kl
    have hl := toArray_eq hl
    have hts := toArray_eq hts
    subst hl
    subst hts
    unfold cLen at h
    split at h
    · rename_i n e hu; cases h; exact op_lenArr ho (.inl ⟨_, hu⟩)
    · rename_i p hu
      split at h
      · rename_i n e hp; cases h; exact op_lenArr ho (.inr ⟨_, _, hu, hp⟩)
      · cases h
    · rename_i hu; cases h; exact op_len ho kx _ hu _ (.inl ⟨rfl, rfl⟩)
    · rename_i e hu; cases h; exact op_len ho kx _ hu _ (.inr (.inl ⟨_, rfl, rfl⟩))
    · rename_i i e hu; cases h; exact op_len ho kx _ hu _ (.inr (.inr ⟨_, _, rfl, rfl⟩))
    · cases h
  · rename_i x' t hts
    obtain ⟨x, hl, kx⟩ := cOps_one kl
    have hl := toArray_eq hl
    have hts := toArray_eq hts
    subst hl
    subst hts
    obtain ⟨el, he, h⟩ := ifS_eq h
    cases h
    exact op_cap ho kx (elemS_eq he)
  · obtain ⟨x, y, hl, kx, ky⟩ := cOps_two kl
    have hl := toArray_eq hl
    subst hl
    cases h
    exact op_minmax (b := false) ho kx ky
  · obtain ⟨x, y, hl, kx, ky⟩ := cOps_two kl
    have hl := toArray_eq hl
    subst hl
    cases h
    exact op_minmax (b := true) ho kx ky
  · cases h
theorem cOp_ok (h : cOp P o.op = some f) : OpOk P o f := by
  generalize hop : o.op = op at h
  unfold cOp at h
  split at h
  · obtain ⟨x', kx, h⟩ := ifS_eq h; cases h; exact op_move (.inl hop) kx
  · obtain ⟨x', kx, h⟩ := ifS_eq h; cases h; exact op_move (.inr hop) kx
  · obtain ⟨c', kc, h⟩ := ifS_eq h
    obtain ⟨a', ka, h⟩ := ifS_eq h
    obtain ⟨b', kb, h⟩ := ifS_eq h
    cases h
    exact op_pick hop kc ka kb
  · obtain ⟨z, hz, h⟩ := ifS_eq h; cases h; exact op_alloc hop hz
  · obtain ⟨x', kx, h⟩ := ifS_eq h; cases h; exact op_box hop kx
  · obtain ⟨z, hz, h⟩ := ifS_eq h; exact op_build hop hz h
  · obtain ⟨el, he, h⟩ := ifS_eq h
    obtain ⟨z, hz, h⟩ := ifS_eq h
    obtain ⟨hn, h⟩ := ifB_eq h
    obtain ⟨l, hl, h⟩ := ifS_eq h
    cases h
    exact op_buildSlice hop he hz (Nat.le_of_ble_eq_true hn) hl
  · obtain ⟨a', ka, h⟩ := ifS_eq h
    obtain ⟨b, hb, h⟩ := ifS_eq h
    cases b with
    | true =>
      obtain ⟨n, hn, h⟩ := ifS_eq (show ifS none (fun n => some (oLoadN n a')) _ = some f from h)
      cases h
      exact op_loadN hop ka hb hn
    | false => cases h; exact op_load1 hop ka hb
  · obtain ⟨a', ka, h⟩ := ifS_eq h
    obtain ⟨x', kx, h⟩ := ifS_eq h
    obtain ⟨n, hn, h⟩ := ifS_eq h
    cases h
    exact op_store hop ka kx hn
  · obtain ⟨x', kx, h⟩ := ifS_eq h; cases h; exact op_nilCheck hop kx
  · obtain ⟨a', ka, h⟩ := ifS_eq h
    obtain ⟨b', kb, h⟩ := ifS_eq h
    exact op_cBin hop ka kb h
  · obtain ⟨x', kx, h⟩ := ifS_eq h; cases h; exact op_not hop kx
  · obtain ⟨x', kx, h⟩ := ifS_eq h; cases h; exact op_neg hop kx
  · obtain ⟨x', kx, h⟩ := ifS_eq h
    obtain ⟨d1, h1, h⟩ := ifS_eq h
    obtain ⟨d2, h2, h⟩ := ifS_eq h
    unfold cConvB at h
    split at h
    · rename_i e
      split at h
      · rename_i hu; cases h; exact op_strBytes hop kx h1 h2 hu
      · cases h
    · unfold cConv at h
      split at h
      · cases h; exact op_conv hop kx h1 h2
      · cases h; exact op_chr hop kx h1 h2
      · cases h; exact op_convS hop kx h1 h2
      · cases h
  · obtain ⟨x', kx, h⟩ := ifS_eq h
    obtain ⟨hp, h⟩ := ifB_eq h
    cases h
    exact op_iface hop kx hp
  · obtain ⟨a', ka, h⟩ := ifS_eq h
    obtain ⟨b', kb, h⟩ := ifS_eq h
    cases h
    exact op_func hop ka kb
  · cases h; exact op_makeMap hop
  · obtain ⟨el, he, h⟩ := ifS_eq h
    obtain ⟨z, hz, h⟩ := ifS_eq h
    obtain ⟨l', kl, h⟩ := ifS_eq h
    obtain ⟨c', kc, h⟩ := ifS_eq h
    cases h
    exact op_makeSlice hop he hz kl kc
  · obtain ⟨x', kx, h⟩ := ifS_eq h
    obtain ⟨lo', kl, h⟩ := ifS_eq h
    obtain ⟨hi', kh, h⟩ := ifS_eq h
    unfold cSlice at h
    split at h
    · rename_i hu; cases h; exact op_sliceStr hop kx kl kh hu
    · rename_i el hu
      obtain ⟨n, hn, h⟩ := ifS_eq h
      cases h
      exact op_sliceSl hop kx kl kh hu hn
    · cases h
  · obtain ⟨x', kx, h⟩ := ifS_eq h
    obtain ⟨fd, hf, h⟩ := ifS_eq h
    obtain ⟨n, hn, h⟩ := ifS_eq h
    obtain ⟨h0, h⟩ := ifN_eq h
    cases h
    exact op_fieldAddr hop kx hf hn fun e => by subst e; cases h0
  · obtain ⟨x', kx, h⟩ := ifS_eq h
    obtain ⟨fd, hf, h⟩ := ifS_eq h
    obtain ⟨b, hb, h⟩ := ifS_eq h
    cases b with
    | true =>
      obtain ⟨n, hn, h⟩ := ifS_eq (show ifS none (fun n => some (oFieldN fd.offset n x')) _ = some f from h)
      cases h
      exact op_fieldN hop kx hf hb hn
    | false => cases h; exact op_field1 hop kx hf hb
  · obtain ⟨x', kx, h⟩ := ifS_eq h
    obtain ⟨i', ki, h⟩ := ifS_eq h
    unfold cIndexAddr at h
    split at h
    · rename_i n el hu
      obtain ⟨z, hz, h⟩ := ifS_eq h
      cases h
      exact op_indexAr hop kx ki hu hz
    · rename_i el hu
      obtain ⟨z, hz, h⟩ := ifS_eq h
      cases h
      exact op_indexSl hop kx ki hu hz
    · cases h
  · obtain ⟨x', kx, h⟩ := ifS_eq h
    obtain ⟨i', ki, h⟩ := ifS_eq h
    unfold cIndex at h
    split at h
    · rename_i n el hu
      obtain ⟨z, hz, h⟩ := ifS_eq h
      obtain ⟨b, hb, h⟩ := ifS_eq h
      cases h
      exact op_indexVal hop kx ki hu hz hb
    · rename_i hu; cases h; exact op_indexStr hop kx ki hu
    · cases h
  · obtain ⟨m', km, h⟩ := ifS_eq h
    obtain ⟨k', kk, h⟩ := ifS_eq h
    obtain ⟨q, hq, h⟩ := ifS_eq h
    obtain ⟨fk, hf, h⟩ := ifS_eq h
    obtain ⟨z, hz, h⟩ := ifS_eq h
    cases h
    exact op_lookup hop km kk hq hf hz
  · obtain ⟨m', km, h⟩ := ifS_eq h
    obtain ⟨k', kk, h⟩ := ifS_eq h
    obtain ⟨x', kx, h⟩ := ifS_eq h
    obtain ⟨q, hq, h⟩ := ifS_eq h
    obtain ⟨fk, hf, h⟩ := ifS_eq h
    cases h
    exact op_mapUpdate (.inl hop) km kk kx hq hf
  · obtain ⟨m', km, h⟩ := ifS_eq h
    obtain ⟨k', kk, h⟩ := ifS_eq h
    obtain ⟨x', kx, h⟩ := ifS_eq h
    obtain ⟨q, hq, h⟩ := ifS_eq h
    obtain ⟨fk, hf, h⟩ := ifS_eq h
    cases h
    exact op_mapUpdate (.inr hop) km kk kx hq hf
  · obtain ⟨x', kx, h⟩ := ifS_eq h; cases h; exact op_extract hop kx
  · rename_i c
    obtain ⟨l, kl, h⟩ := ifS_eq h
    obtain ⟨callee, args, ts⟩ := c
    unfold cCall at h
    split at h
    · rename_i g hc
      obtain ⟨g', kg, h⟩ := ifS_eq h
      cases h
      cases hc
      exact op_call hop kg kl
    · rename_i b hc
      cases hc
      exact cBuiltin_ok hop kl h
    · cases h
  · cases h
end
end Go.Sx
