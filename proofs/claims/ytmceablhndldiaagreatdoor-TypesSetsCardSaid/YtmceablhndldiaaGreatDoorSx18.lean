/-
  Each operation's run hangs on the cells of its log alone.
-/
import Derived.Test.YtmceablhndldiaaGreatDoorSx17
namespace Go.Sx

def CtxLo (call : Ctx) : Prop := ∀ f args, Lo (call f args)
class LoF (f : Ev) : Prop where
  lo : ∀ call, CtxLo call → ∀ e, Lo (f call e)
section
theorem Lo.boolRec {α : Type} {b : Bool} {m k : M α} (h1 : Lo m) (h2 : Lo k) : Lo (Bool.rec m k b : M α) := by cases b <;> assumption
instance (x : Opd) : LoF (oMove x) := ⟨fun _ _ _ => Lo.pure _⟩
instance (c a b : Opd) : LoF (oPick c a b) := ⟨fun _ _ _ => Lo.onBool Lo.fail fun _ => Lo.pure _⟩
instance (z : List AV) : LoF (oAlloc z) := ⟨fun _ _ _ => Lo.map (Lo.newO _)⟩
instance (x : Opd) : LoF (oBox x) := ⟨fun _ _ _ => Lo.map (Lo.newO _)⟩
instance (z : List AV) (ps : List (Nat × Nat × Opd)) : LoF (oBuild z ps) := ⟨fun _ _ _ => Lo.ifS Lo.fail fun _ => Lo.pure _⟩
instance (k : Nat) (z : List AV) (n : Nat) (ps : List (Nat × Nat × Opd)) : LoF (oBuildSlice k z n ps) := ⟨fun _ _ _ => Lo.ifS Lo.fail fun _ => Lo.map (Lo.newO _)⟩
theorem load1At_lo (v : AV) : Lo (load1At v) := Lo.onPtr Lo.fail fun _ => Lo.ifS Lo.fail fun _ => Lo.load1 _ _
theorem loadNAt_lo (n : Nat) (v : AV) : Lo (loadNAt n v) := Lo.onPtr Lo.fail fun _ => Lo.ifS Lo.fail fun _ => Lo.map (Lo.loadN _ _ _)
instance (x : Opd) : LoF (oLoad1 x) := ⟨fun _ _ _ => load1At_lo _⟩
instance (n : Nat) (x : Opd) : LoF (oLoadN n x) := ⟨fun _ _ _ => loadNAt_lo _ _⟩
instance (n : Nat) (a x : Opd) : LoF (oStore n a x) := ⟨fun _ _ _ => Lo.ifB (Lo.onPtr Lo.fail fun _ => Lo.ifS Lo.fail fun _ => Lo.map (Lo.storeN _ _ _)) Lo.fail⟩
instance (x : Opd) : LoF (oNilCheck x) := ⟨fun _ _ _ => Lo.onPtr Lo.fail fun _ => Lo.ifS Lo.fail fun _ => Lo.pure _⟩
instance (op : BinOp) (x y : Opd) : LoF (oBin op x y) := ⟨fun _ _ _ => Lo.ifS Lo.fail fun _ => Lo.pure _⟩
instance (f : AV → AV → Option Bool) (b : Bool) (x y : Opd) : LoF (oEq f b x y) := ⟨fun _ _ _ => Lo.ifS Lo.fail fun _ => Lo.pure _⟩
instance (x : Opd) : LoF (oNot x) := ⟨fun _ _ _ => Lo.onBool Lo.fail fun _ => Lo.pure _⟩
instance (x : Opd) : LoF (oNeg x) := ⟨fun _ _ _ => Lo.onInt Lo.fail fun _ _ => Lo.pure _⟩
instance (k : IntKind) (x : Opd) : LoF (oConv k x) := ⟨fun _ _ _ => Lo.onInt Lo.fail fun _ _ => Lo.pure _⟩
instance (x : Opd) : LoF (oChr x) := ⟨fun _ _ _ => Lo.onInt Lo.fail fun _ _ => Lo.onNat Lo.fail fun _ => Lo.ifB (Lo.pure _) Lo.fail⟩
instance (x : Opd) : LoF (oSame x) := ⟨fun _ _ _ => Lo.onStr Lo.fail fun _ => Lo.pure _⟩
instance (x : Opd) : LoF (oStrBytes x) := ⟨fun _ _ _ => Lo.onStr Lo.fail fun _ => Lo.map (Lo.newO _)⟩
instance (t : Nat) (x : Opd) : LoF (oIface t x) := ⟨fun _ _ _ => Lo.pure _⟩
instance (f : Nat) (a b : List Opd) : LoF (oFunc f a b) := ⟨fun _ _ _ => Lo.pure _⟩
instance : LoF oMakeMap := ⟨fun _ _ _ => Lo.map (Lo.newO _)⟩
instance (z : List AV) (l c : Opd) : LoF (oMakeSlice z l c) := ⟨fun _ _ _ => Lo.ifS Lo.fail fun _ => Lo.ifS Lo.fail fun _ => Lo.ifB (Lo.map (Lo.newO _)) Lo.fail⟩
instance (x : Opd) (lo hi : Option Opd) : LoF (oSliceStr x lo hi) := ⟨fun _ _ _ => Lo.onStr Lo.fail fun _ => Lo.ifS Lo.fail fun _ => Lo.ifS Lo.fail fun _ => Lo.ifB (Lo.pure _) Lo.fail⟩
instance (z : Nat) (x : Opd) (lo hi : Option Opd) : LoF (oSliceSl z x lo hi) := ⟨fun _ _ _ => Lo.onSlice Lo.fail fun _ _ _ _ => Lo.ifB (Lo.ifS Lo.fail fun _ => Lo.ifS Lo.fail fun _ => Lo.ifB (Lo.pure _) Lo.fail) Lo.fail⟩
instance (n : Nat) (x : Opd) : LoF (oFieldAddr n x) := ⟨fun _ _ _ => Lo.onPtr Lo.fail fun _ => Lo.ifS Lo.fail fun _ => Lo.pure _⟩
theorem part1_lo (n : Nat) (v : AV) : Lo (part1 n v) := Lo.onAgg Lo.fail fun _ => Lo.ifC Lo.fail fun _ _ => Lo.pure _
theorem partN_lo (n m : Nat) (v : AV) : Lo (partN n m v) := Lo.onAgg Lo.fail fun _ => Lo.ifS Lo.fail fun _ => Lo.pure _
instance (n : Nat) (x : Opd) : LoF (oField1 n x) := ⟨fun _ _ _ => part1_lo _ _⟩
instance (n m : Nat) (x : Opd) : LoF (oFieldN n m x) := ⟨fun _ _ _ => partN_lo _ _ _⟩
theorem ixA_lo (z n : Nat) (a : Nat × Nat) (i : Option Nat) : Lo (ixA z n a i) := Lo.ifS Lo.fail fun _ => Lo.ifB (Lo.pure _) Lo.fail
instance (z : Nat) (x i : Opd) : LoF (oIndexSl z x i) := ⟨fun _ _ _ => Lo.onSlice Lo.fail fun _ _ _ _ => Lo.ifS Lo.fail fun _ => ixA_lo _ _ _ _⟩
instance (n z : Nat) (x i : Opd) : LoF (oIndexAr n z x i) := ⟨fun _ _ _ => Lo.onPtr Lo.fail fun _ => Lo.ifS Lo.fail fun _ => ixA_lo _ _ _ _⟩
instance (x i : Opd) : LoF (oIndexStr x i) := ⟨fun _ _ _ => Lo.onStr Lo.fail fun _ => Lo.ifS Lo.fail fun _ => Lo.ifC Lo.fail fun _ _ => Lo.pure _⟩
instance (n z : Nat) (b : Bool) (x i : Opd) : LoF (oIndexVal n z b x i) := ⟨fun _ _ _ => Lo.ifS Lo.fail fun _ => Lo.ifB (Lo.ifB (partN_lo _ _ _) (part1_lo _ _)) Lo.fail⟩
instance (f : FK) (z : AV) (m k : Opd) (ok : Bool) : LoF (oLookup f z m k ok) := ⟨fun _ _ _ => Lo.onMap Lo.fail fun _ => Lo.ifS (Lo.pure _) fun _ => Lo.bind (Lo.getMap _) fun _ => Lo.ifS Lo.fail fun _ => Lo.pure _⟩
instance (f : FK) (m k x : Opd) : LoF (oMapUpdate f m k x) := ⟨fun _ _ _ => Lo.onMap Lo.fail fun _ => Lo.ifS Lo.fail fun _ => Lo.bind (Lo.getMap _) fun _ => Lo.ifS Lo.fail fun _ => Lo.map (Lo.setMap _ _)⟩
instance (x : Opd) (i : Nat) : LoF (oExtract x i) := ⟨fun _ _ _ => Lo.onTuple Lo.fail fun _ => Lo.ifC Lo.fail fun _ _ => Lo.pure _⟩
instance (f : Opd) (l : List Opd) : LoF (oCall f l) := ⟨fun _ hc _ => Lo.onFn Lo.fail fun _ _ _ => hc _ _⟩
theorem grow_lo (z n : Nat) {m : M Nat} (h : Lo m) : Lo (grow z n m) := Lo.map h
theorem app1_lo (z : Nat) {m : M (List AV × Nat)} (h : Lo m) (v : AV) : Lo (app1 z m v) := Lo.onSlice Lo.fail fun _ _ _ _ => Lo.bind h fun _ =>
  Lo.ifB (Lo.boolRec (Lo.ifS (Lo.ifB (grow_lo _ _ (Lo.newO _)) Lo.fail) fun _ => Lo.ifB (Lo.bind (Lo.killRow _ _ _) fun _ => grow_lo _ _ (Lo.newO _)) Lo.fail) (Lo.ifS (Lo.pure _) fun _ => Lo.map (Lo.storeN _ _ _))) Lo.fail
instance (z : Nat) (x y : Opd) : LoF (oAppend z x y) := ⟨fun _ _ _ => app1_lo _ (Lo.onSlice (Lo.onStr Lo.fail fun _ => Lo.ifB (Lo.pure _) Lo.fail) fun _ _ _ _ => Lo.ifS (Lo.ifB (Lo.pure _) Lo.fail) fun _ => Lo.map (Lo.loadN _ _ _)) _⟩
instance (z : Nat) (l : List AV) (x y : Opd) : LoF (oAppendZ z l x y) := ⟨fun _ _ _ => app1_lo _ (Lo.ifS Lo.fail fun _ => Lo.ifB (Lo.pure _) Lo.fail) _⟩
instance (n : Nat) : LoF (oLenArr n) := ⟨fun _ _ _ => Lo.pure _⟩
instance (x : Opd) : LoF (oLenStr x) := ⟨fun _ _ _ => Lo.onStr Lo.fail fun _ => Lo.pure _⟩
instance (x : Opd) : LoF (oLenSl x) := ⟨fun _ _ _ => Lo.onSlice Lo.fail fun _ _ _ _ => Lo.pure _⟩
instance (x : Opd) : LoF (oLenMap x) := ⟨fun _ _ _ => Lo.onMap Lo.fail fun _ => Lo.ifS (Lo.pure _) fun _ => Lo.map (Lo.getMap _)⟩
instance (x : Opd) : LoF (oCap x) := ⟨fun _ _ _ => Lo.onSlice Lo.fail fun _ _ _ _ => Lo.ifS (Lo.pure _) fun _ => Lo.fail⟩
instance (b : Bool) (x y : Opd) : LoF (oMinMax b x y) := ⟨fun _ _ _ => Lo.onInt Lo.fail fun _ _ => Lo.onInt Lo.fail fun _ _ => Lo.pure _⟩
variable {P : Program} {f : Ev}
theorem cBuiltin_lo {b : Builtin} {ts : List TypeId} {l : List Opd} (h : cBuiltin P b l ts = some f) : LoF f := by
  unfold cBuiltin at h
  split at h
  · rename_i x' y' sT eT hts
    obtain ⟨el, he, h⟩ := ifS_eq h
    obtain ⟨Z, hZ, h⟩ := ifS_eq h
    obtain ⟨d, hd, h⟩ := ifS_eq h
    split at h
    · cases h; exact inferInstance
    · rename_i hn; cases h; exact inferInstance
  · rename_i x' t hts
    unfold cLen at h
    split at h
    · rename_i n e hu; cases h; exact inferInstance
    · rename_i p hu
      split at h
      · rename_i n e hp; cases h; exact inferInstance
      · cases h
    · rename_i hu; cases h; exact inferInstance
    · rename_i e hu; cases h; exact inferInstance
    · rename_i i e hu; cases h; exact inferInstance
    · cases h
  · rename_i x' t hts
    obtain ⟨el, he, h⟩ := ifS_eq h
    cases h
    exact inferInstance
  · skip
    cases h
    exact inferInstance
  · skip
    cases h
    exact inferInstance
  · cases h
theorem cOp_lo {op : Op} (h : cOp P op = some f) : LoF f := by
  unfold cOp at h
  split at h
  · obtain ⟨x', kx, h⟩ := ifS_eq h; cases h; exact inferInstance
  · obtain ⟨x', kx, h⟩ := ifS_eq h; cases h; exact inferInstance
  · obtain ⟨c', kc, h⟩ := ifS_eq h
    obtain ⟨a', ka, h⟩ := ifS_eq h
    obtain ⟨b', kb, h⟩ := ifS_eq h
    cases h
    exact inferInstance
  · obtain ⟨z, hz, h⟩ := ifS_eq h; cases h; exact inferInstance
  · obtain ⟨x', kx, h⟩ := ifS_eq h; cases h; exact inferInstance
  · obtain ⟨z, hz, h⟩ := ifS_eq h
    unfold cBuild at h
    split at h
    · obtain ⟨pl, hpl, h⟩ := ifS_eq h
      obtain ⟨l, hl, h⟩ := ifS_eq h
      cases h
      exact inferInstance
    · obtain ⟨s, hs, h⟩ := ifS_eq h
      obtain ⟨l, hl, h⟩ := ifS_eq h
      cases h
      exact inferInstance
    · cases h
  · obtain ⟨el, he, h⟩ := ifS_eq h
    obtain ⟨z, hz, h⟩ := ifS_eq h
    obtain ⟨hn, h⟩ := ifB_eq h
    obtain ⟨l, hl, h⟩ := ifS_eq h
    cases h
    exact inferInstance
  · obtain ⟨a', ka, h⟩ := ifS_eq h
    obtain ⟨b, hb, h⟩ := ifS_eq h
    cases b with
    | true =>
      obtain ⟨n, hn, h⟩ := ifS_eq (show ifS none (fun n => some (oLoadN n a')) _ = some f from h)
      cases h
      exact inferInstance
    | false => cases h; exact inferInstance
  · obtain ⟨a', ka, h⟩ := ifS_eq h
    obtain ⟨x', kx, h⟩ := ifS_eq h
    obtain ⟨n, hn, h⟩ := ifS_eq h
    cases h
    exact inferInstance
  · obtain ⟨x', kx, h⟩ := ifS_eq h; cases h; exact inferInstance
  · obtain ⟨a', ka, h⟩ := ifS_eq h
    obtain ⟨b', kb, h⟩ := ifS_eq h
    unfold cBin at h
    cases hs : isScal P _ with
    | true => rw [hs] at h; cases h; exact inferInstance
    | false =>
      rw [hs, ifB_false] at h
      split at h
      · obtain ⟨g, hg, h⟩ := ifS_eq h; cases h; exact inferInstance
      · obtain ⟨g, hg, h⟩ := ifS_eq h; cases h; exact inferInstance
      · cases h
  · obtain ⟨x', kx, h⟩ := ifS_eq h; cases h; exact inferInstance
  · obtain ⟨x', kx, h⟩ := ifS_eq h; cases h; exact inferInstance
  · obtain ⟨x', kx, h⟩ := ifS_eq h
    obtain ⟨d1, h1, h⟩ := ifS_eq h
    obtain ⟨d2, h2, h⟩ := ifS_eq h
    unfold cConvB at h
    split at h
    · rename_i e
      split at h
      · rename_i hu; cases h; exact inferInstance
      · cases h
    · unfold cConv at h
      split at h
      · cases h; exact inferInstance
      · cases h; exact inferInstance
      · cases h; exact inferInstance
      · cases h
  · obtain ⟨x', kx, h⟩ := ifS_eq h
    obtain ⟨hp, h⟩ := ifB_eq h
    cases h
    exact inferInstance
  · obtain ⟨a', ka, h⟩ := ifS_eq h
    obtain ⟨b', kb, h⟩ := ifS_eq h
    cases h
    exact inferInstance
  · cases h; exact inferInstance
  · obtain ⟨el, he, h⟩ := ifS_eq h
    obtain ⟨z, hz, h⟩ := ifS_eq h
    obtain ⟨l', kl, h⟩ := ifS_eq h
    obtain ⟨c', kc, h⟩ := ifS_eq h
    cases h
    exact inferInstance
  · obtain ⟨x', kx, h⟩ := ifS_eq h
    obtain ⟨lo', kl, h⟩ := ifS_eq h
    obtain ⟨hi', kh, h⟩ := ifS_eq h
    unfold cSlice at h
    split at h
    · rename_i hu; cases h; exact inferInstance
    · rename_i el hu
      obtain ⟨n, hn, h⟩ := ifS_eq h
      cases h
      exact inferInstance
    · cases h
  · obtain ⟨x', kx, h⟩ := ifS_eq h
    obtain ⟨fd, hf, h⟩ := ifS_eq h
    obtain ⟨n, hn, h⟩ := ifS_eq h
    obtain ⟨h0, h⟩ := ifN_eq h
    cases h
    exact inferInstance
  · obtain ⟨x', kx, h⟩ := ifS_eq h
    obtain ⟨fd, hf, h⟩ := ifS_eq h
    obtain ⟨b, hb, h⟩ := ifS_eq h
    cases b with
    | true =>
      obtain ⟨n, hn, h⟩ := ifS_eq (show ifS none (fun n => some (oFieldN fd.offset n x')) _ = some f from h)
      cases h
      exact inferInstance
    | false => cases h; exact inferInstance
  · obtain ⟨x', kx, h⟩ := ifS_eq h
    obtain ⟨i', ki, h⟩ := ifS_eq h
    unfold cIndexAddr at h
    split at h
    · rename_i n el hu
      obtain ⟨z, hz, h⟩ := ifS_eq h
      cases h
      exact inferInstance
    · rename_i el hu
      obtain ⟨z, hz, h⟩ := ifS_eq h
      cases h
      exact inferInstance
    · cases h
  · obtain ⟨x', kx, h⟩ := ifS_eq h
    obtain ⟨i', ki, h⟩ := ifS_eq h
    unfold cIndex at h
    split at h
    · rename_i n el hu
      obtain ⟨z, hz, h⟩ := ifS_eq h
      obtain ⟨b, hb, h⟩ := ifS_eq h
      cases h
      exact inferInstance
    · rename_i hu; cases h; exact inferInstance
    · cases h
  · obtain ⟨m', km, h⟩ := ifS_eq h
    obtain ⟨k', kk, h⟩ := ifS_eq h
    obtain ⟨q, hq, h⟩ := ifS_eq h
    obtain ⟨fk, hf, h⟩ := ifS_eq h
    obtain ⟨z, hz, h⟩ := ifS_eq h
    cases h
    exact inferInstance
  · obtain ⟨m', km, h⟩ := ifS_eq h
    obtain ⟨k', kk, h⟩ := ifS_eq h
    obtain ⟨x', kx, h⟩ := ifS_eq h
    obtain ⟨q, hq, h⟩ := ifS_eq h
    obtain ⟨fk, hf, h⟩ := ifS_eq h
    cases h
    exact inferInstance
  · obtain ⟨m', km, h⟩ := ifS_eq h
    obtain ⟨k', kk, h⟩ := ifS_eq h
    obtain ⟨x', kx, h⟩ := ifS_eq h
    obtain ⟨q, hq, h⟩ := ifS_eq h
    obtain ⟨fk, hf, h⟩ := ifS_eq h
    cases h
    exact inferInstance
  · obtain ⟨x', kx, h⟩ := ifS_eq h; cases h; exact inferInstance
  · rename_i c
    obtain ⟨l, kl, h⟩ := ifS_eq h
    obtain ⟨callee, args, ts⟩ := c
    unfold cCall at h
    split at h
    · rename_i g hc
      obtain ⟨g', kg, h⟩ := ifS_eq h
      cases h
      cases hc
      exact inferInstance
    · rename_i b hc
      cases hc
      exact cBuiltin_lo h
    · cases h
  · cases h
end
end Go.Sx
