/-
  Texts joined.
-/
import Derived.BigQuiet
import Derived.ChangeAlike
import Derived.Deep.QuietTactic
import Derived.Test.YtlhmdjhfmhkllaaGreatDoorKb34
namespace Go.Proofs.YtlhmdjhfmhkllaaGreatDoor
open Go.RowKit
/-- the scanner's state lies in block b -/
def Src (w : World) (b : Nat) (r : List UInt8) (line col : Int) : Prop := w.heap[b]? = some (.cells #[.string (str r), .int .i64 line, .int .i64 col] 130 (0, 0))
theorem Src.c0 {w : World} {b : Nat} {r : List UInt8} {line col : Int} (h : Src w b r line col) : w.cell? ⟨b, 0, none⟩ = some (.string (str r)) := by simp [cell_of_row w b _ _ _ _ h]
theorem Src.c1 {w : World} {b : Nat} {r : List UInt8} {line col : Int} (h : Src w b r line col) : w.cell? ⟨b, 1, none⟩ = some (.int .i64 line) := by simp [cell_of_row w b _ _ _ _ h]
theorem Src.c2 {w : World} {b : Nat} {r : List UInt8} {line col : Int} (h : Src w b r line col) : w.cell? ⟨b, 2, none⟩ = some (.int .i64 col) := by simp [cell_of_row w b _ _ _ _ h]
theorem Src.lt {w : World} {b : Nat} {r : List UInt8} {line col : Int} (h : Src w b r line col) : b < w.heap.size := (Array.getElem?_eq_some_iff.1 h).1
/-- a token's value -/
def tokV (l : List UInt8) (line col : Int) : Value := .agg #[.int .i64 (tokSort l), .string (str (tokText l)), .int .i64 (tokNum l), .int .i64 line, .int .i64 col]
set_option maxHeartbeats 1000000 in
theorem token_end (b : Nat) (line col : Int) (w : World) (hsrc : Src w b [] line col) :
    Calls Tryz.prog 80 #[.pointer (some ⟨b, 0, none⟩)] w fun e w' => e = .returned (tokV [] line col) ∧ Below w.heap.size w w' := by
  have h0 : w.cell? ⟨b, 0, none⟩ = some (.string ⟨#[]⟩) := hsrc.c0; have h1 := hsrc.c1; have h2 := hsrc.c2; have hlt := hsrc.lt; have HS := Lib.hid hsrc; clear hsrc; go_enter Tryz.func80, Tryz.ntmps80
  go_wp2_with fail
  go_region; all_goals go_wp2_with fail
  exact bodyPost_ret (v := tokV [] line col) (by simp [results, Tryz.results80, go_sem]; rfl) rfl ⟨rfl, (((Below.refl _ _).alloc (Nat.le_refl _) _).alloc (by simp) _).drew⟩
theorem runLength_same (r : List UInt8) (w : World) (hs : r.length ≤ 65536) :
    Calls Tryz.prog 129 #[.string (str r)] w fun e w' => e = .returned (.int .i64 (runL r : Nat)) ∧ w' = w :=
  (runLength_any (str r) w (by unfold maxLen; simp only [str_size]; omega)).mono fun _ _ ⟨h1, h2⟩ => ⟨h1, h2.symm⟩
theorem sign_str (r : List UInt8) (w : World) :
    Calls Tryz.prog 130 #[.string (str r)] w fun e w' => e = .returned (.string (str (signL r))) ∧ Below w.heap.size w w' := sign_any (str r) w
theorem classify_str (r : List UInt8) (w : World) (hs : r.length ≤ 65536) (he : Errs w) :
    Calls Tryz.prog 131 #[.string (str r)] w fun e w' => e = .returned (.tuple #[.int .i64 (sortL r), .int .i64 (numL r)]) ∧ Below w.heap.size w w' := classify_any (str r) w hs he
theorem bcellt {W w1 : World} (hb : Below W.heap.size W w1) : (∀ b o, b < W.heap.size → w1.cell? ⟨b, o, none⟩ = W.cell? ⟨b, o, none⟩) ∧ (∀ b o, b < W.heap.size → w1.frozen? ⟨b, o, none⟩ = W.frozen? ⟨b, o, none⟩) :=
  ⟨fun b o h => hb.cell (p := ⟨b, o, none⟩) h, fun b o h => hb.frozen (p := ⟨b, o, none⟩) h⟩
theorem below_drewNt {B : Nat} {a w : World} (h : Below B a w) (n : Nat) : Below B a (w.drewN n) := ⟨h.os, h.tape, h.output, h.size, h.block⟩
theorem below_two (w : World) (A B : Obj) (n : Nat) : Below w.heap.size w (((w.alloc A).alloc B).drewN n) :=
  below_drewNt (((Below.refl _ _).alloc (Nat.le_refl _) _).alloc (by simp) _) n
theorem below_twoSet (w : World) (A B : Obj) (n k : Nat) (v : Value) : Below w.heap.size w ((((w.alloc A).alloc B).drewN n).setCell ⟨w.heap.size + 1, k, none⟩ v) :=
  (below_two w A B n).setCell (by simp) v
theorem Errs.twoSet {w : World} (h : Errs w) (A B : Obj) (n k : Nat) (v : Value) : Errs ((((w.alloc A).alloc B).drewN n).setCell ⟨w.heap.size + 1, k, none⟩ v) := h.under (below_twoSet w A B n k v)
theorem row5t {X : World} {N : Nat} {T : TypeId} {x0 x1 x2 x3 x4 : Value} (h : X.heap[N]? = some (.cells #[x0, x1, x2, x3, x4] T (0, 0))) (v0 v1 v2 v3 v4 : Value) :
    (((((X.setCell ⟨N, 0, none⟩ v0).setCell ⟨N, 1, none⟩ v1).setCell ⟨N, 2, none⟩ v2).setCell ⟨N, 3, none⟩ v3).setCell ⟨N, 4, none⟩ v4).heap[N]? = some (.cells #[v0, v1, v2, v3, v4] T (0, 0)) := by
  have h0 := heap_setCell_same X N 0 _ T v0 h; have h1 := heap_setCell_same _ N 1 _ T v1 h0; have h2 := heap_setCell_same _ N 2 _ T v2 h1; have h3 := heap_setCell_same _ N 3 _ T v3 h2; have h4 := heap_setCell_same _ N 4 _ T v4 h3; simpa using h4
theorem tok_info : (Tryz.prog.info? 64).map (·.size) = some 5 := by kernel_rfl
/-- a struct result of five fields, in block N -/
theorem token_results {tmps : Array Value} {w : World} {N : Nat} {x0 x1 x2 x3 x4 : Value} (hp : tmps.getD 2 undef = .pointer (some ⟨N, 0, none⟩)) (hg : w.heap[N]? = some (.cells #[x0, x1, x2, x3, x4] 64 (0, 0))) :
    (results Tryz.f80 tmps).run Tryz.prog w = .ok (.agg #[x0, x1, x2, x3, x4]) w :=
  results_cell_row Tryz.results80 tmps w N 64 _ (0, 0) _ hp hg Tryz.underlying64 rfl tok_info
theorem tok_run {r : List UInt8} (hr : r ≠ []) (h : 0 < runL r) : tokText r = r.take (runL r) ∧ tokSort r = sortL (r.take (runL r)) ∧ tokNum r = numL (r.take (runL r)) := by
  have : runL r ≠ 0 := by omega
  simp [tokText, tokSort, tokNum, hr, this]
set_option maxHeartbeats 1000000 in
theorem token_run (b : Nat) (r : List UInt8) (line col : Int) (w : World) (hs : r.length ≤ 65536) (he : Errs w) (hr : r ≠ []) (h0 : 0 < runL r) (hsrc : Src w b r line col) :
    Calls Tryz.prog 80 #[.pointer (some ⟨b, 0, none⟩)] w fun e w' => e = .returned (tokV r line col) ∧ Below w.heap.size w w' := by
  have HT := Lib.hid (tok_run hr h0); have hx : (str r).extract 0 (runL r) = str (r.take (runL r)) := (by rw [extract_str]; rfl); have hxe : (str (r.take (runL r))).toList.isEmpty = false := by
    rw [Lib.toList_data, str_toList]; cases r with
    | nil => exact absurd rfl hr
    | cons c r => obtain ⟨n, hn⟩ : ∃ n, runL (c :: r) = n + 1 := ⟨runL (c :: r) - 1, by omega⟩
                  rw [hn]; rfl
  have hql : (r.take (runL r)).length ≤ 65536 := (by simp; omega); generalize r.take (runL r) = q at hx hxe hql HT; have h0 := hsrc.c0; have h1 := hsrc.c1; have h2 := hsrc.c2; have hlt := hsrc.lt; have HE := Lib.hid he; have hne : (str r).toList.isEmpty = false := (by rw [Lib.toList_data, str_toList]; simpa using hr); have hle : runL r ≤ (str r).size := (by rw [str_size]; exact runL_le r); have hs' : (str r).size ≤ 65536 := hs; clear hsrc he; go_enter Tryz.func80, Tryz.ntmps80
  go_wp2_with fail
  go_region; all_goals go_wp2_with fail
  generalize hW : World.drew _ = W; have c0 : W.cell? ⟨b, 0, none⟩ = some (.string (str r)) := (by subst hW; go_simp); have HW := Lib.hid hW; clear hW; go_quiet ((go_at_call 129; exact Calls.quiet_of_same (runLength_same _ _ hs)))
  have hW := HW.out; clear c0 HW; subst hW; go_wp2_with (go_at_call 131; refine (classify_str _ _ hql (HE.out.twoSet _ _ _ _ _)).mono ?_; rintro e w' ⟨rfl, hb⟩; obtain ⟨hc, hf⟩ := bcellt hb)
  have e : tokV r line col = .agg #[.int .i64 (sortL q), .string (str q), .int .i64 (numL q), .int .i64 line, .int .i64 col] := by
    simp [tokV, HT.out.1, HT.out.2.1, HT.out.2.2]
  have E := Lib.hid e; clear e; refine bodyPost_ret (v := .agg #[.int .i64 (sortL q), .string (str q), .int .i64 (numL q), .int .i64 line, .int .i64 col]) (token_results rfl (row5t (T := 64) ((heap_setCell_other _ _ _ _ (by simp)).trans ((heap_setCell_other _ _ _ _ (by simp)).trans ((hb.block _ (by simp; omega)).trans ((heap_setCell_other _ _ _ _ (by simp)).trans (heap_alloc2_old w _ _))))) _ _ _ _ _)) rfl ⟨by rw [E.out], ?_⟩; have hB := (below_twoSet w _ _ _ _ _).trans (hb.mono (by simp; omega)); exact ((((((hB.setCell (by simp) _).setCell (by simp) _).setCell (by simp) _).setCell (by simp) _).setCell (by simp) _).setCell (by simp) _).setCell (by simp) _
theorem tok_sign {r : List UInt8} (hr : r ≠ []) (h : runL r = 0) : tokText r = signL r ∧ tokSort r = (if signL r = [] then 0 else 4) ∧ tokNum r = 0 := by
  simp [tokText, tokSort, tokNum, hr, h]
set_option maxHeartbeats 1000000 in
theorem token_sign (b : Nat) (r : List UInt8) (line col : Int) (w : World) (hs : r.length ≤ 65536) (hr : r ≠ []) (h0 : runL r = 0) (hsrc : Src w b r line col) :
    Calls Tryz.prog 80 #[.pointer (some ⟨b, 0, none⟩)] w fun e w' => e = .returned (tokV r line col) ∧ Below w.heap.size w w' := by
  have HT := Lib.hid (tok_sign hr h0); have hx : (str r).extract 0 0 = str [] := (by rw [extract_str]; rfl); have hxe : (str []).toList.isEmpty = true := (by rw [Lib.toList_data, str_toList]; rfl); have hrun : ∀ w, Calls Tryz.prog 129 #[.string (str r)] w fun e w' => e = .returned (.int .i64 0) ∧ w' = w := fun w => by
    have := runLength_same r w hs; rw [h0] at this; exact this
  have HR := Lib.hid hrun; clear hrun h0; have h0 := hsrc.c0; have h1 := hsrc.c1; have h2 := hsrc.c2; have hlt := hsrc.lt; have hne : (str r).toList.isEmpty = false := (by rw [Lib.toList_data, str_toList]; simpa using hr); have hs' : (str r).size ≤ 65536 := hs; clear hsrc; have hsg : (signL r = [] ∧ (str (signL r)).toList = []) ∨ (signL r ≠ [] ∧ (str (signL r)).toList ≠ []) := by
    rw [Lib.toList_data, str_toList]; by_cases h : signL r = []
    · exact .inl ⟨h, h⟩
    · exact .inr ⟨h, h⟩
  have hsc := fun w => sign_str r w; have HSC := Lib.hid hsc; clear hsc; rcases hsg with ⟨hz, hz'⟩ | ⟨hz, hz'⟩
  · have e : tokV r line col = .agg #[.int .i64 0, .string ⟨#[]⟩, .int .i64 0, .int .i64 line, .int .i64 col] := by
      simp [tokV, HT.out.1, HT.out.2.1, HT.out.2.2, hz, str]
    have E := Lib.hid e; clear e; have hsc : ∀ w, Calls Tryz.prog 130 #[.string (str r)] w fun e w' => e = .returned (.string ⟨#[]⟩) ∧ Below w.heap.size w w' := fun w => by
      have := HSC.out w; rw [hz] at this; exact this
    have HSC := Lib.hid hsc; clear hsc hz hz'; go_enter Tryz.func80, Tryz.ntmps80
    go_wp2_with fail
    go_region; all_goals go_wp2_with fail
    generalize hW : World.drew _ = W; have c0 : W.cell? ⟨b, 0, none⟩ = some (.string (str r)) := (by subst hW; go_simp); have HW := Lib.hid hW; clear hW; go_quiet ((go_at_call 129; exact Calls.quiet_of_same (HR.out _)))
    have hW := HW.out; clear c0 HW; subst hW; go_wp2_with (go_at_call 130; refine (HSC.out _).mono ?_; rintro e w' ⟨rfl, hb⟩; obtain ⟨hc, hf⟩ := bcellt hb)
    refine bodyPost_ret (v := .agg #[.int .i64 0, .string ⟨#[]⟩, .int .i64 0, .int .i64 line, .int .i64 col]) (token_results rfl (row5t (T := 64) ((heap_setCell_other _ _ _ _ (by simp)).trans ((hb.block _ (by simp; omega)).trans (heap_alloc2_old w _ _))) _ _ _ _ _)) rfl ⟨by rw [E.out], ?_⟩; have hB := (below_two w _ _ _).trans (hb.mono (by simp; omega)); exact (((((hB.setCell (by simp) _).setCell (by simp) _).setCell (by simp) _).setCell (by simp) _).setCell (by simp) _).setCell (by simp) _
  · have e : tokV r line col = .agg #[.int .i64 4, .string (str (signL r)), .int .i64 0, .int .i64 line, .int .i64 col] := by
      simp [tokV, HT.out.1, HT.out.2.1, HT.out.2.2, hz]
    have E := Lib.hid e; clear e hz; generalize signL r = g at HSC E hz'; have hze : (!(str g).toList.isEmpty) = true := (by simpa using hz'); have hzf : (str g).toList.isEmpty = false := (by simpa using hz'); go_enter Tryz.func80, Tryz.ntmps80
    go_wp2_with fail
    go_region; all_goals go_wp2_with fail
    generalize hW : World.drew _ = W; have c0 : W.cell? ⟨b, 0, none⟩ = some (.string (str r)) := (by subst hW; go_simp); have HW := Lib.hid hW; clear hW; go_quiet ((go_at_call 129; exact Calls.quiet_of_same (HR.out _)))
    have hW := HW.out; clear c0 HW; subst hW; go_wp2_with (go_at_call 130; refine (HSC.out _).mono ?_; rintro e w' ⟨rfl, hb⟩; obtain ⟨hc, hf⟩ := bcellt hb)
    refine bodyPost_ret (v := .agg #[.int .i64 4, .string (str g), .int .i64 0, .int .i64 line, .int .i64 col]) (token_results rfl (row5t (T := 64) ((heap_setCell_other _ _ _ _ (by simp)).trans ((heap_setCell_other _ _ _ _ (by simp)).trans ((hb.block _ (by simp; omega)).trans (heap_alloc2_old w _ _)))) _ _ _ _ _)) rfl ⟨by rw [E.out], ?_⟩; have hB := (below_two w _ _ _).trans (hb.mono (by simp; omega)); exact ((((((hB.setCell (by simp) _).setCell (by simp) _).setCell (by simp) _).setCell (by simp) _).setCell (by simp) _).setCell (by simp) _).setCell (by simp) _
/-- the token that begins here -/
theorem token_any (b : Nat) (r : List UInt8) (line col : Int) (w : World) (hs : r.length ≤ 65536) (he : Errs w) (hsrc : Src w b r line col) :
    Calls Tryz.prog 80 #[.pointer (some ⟨b, 0, none⟩)] w fun e w' => e = .returned (tokV r line col) ∧ Below w.heap.size w w' := by
  by_cases hr : r = []
  · subst hr; exact token_end b line col w hsrc
  · by_cases h0 : runL r = 0
    · exact token_sign b r line col w hs hr h0 hsrc
    · exact token_run b r line col w hs he hr (by omega) hsrc
end Go.Proofs.YtlhmdjhfmhkllaaGreatDoor
