/-
  newProgramScope, addEnum.
  addEnum.
-/
import Derived.Test.YtbpbnebcbjacdaaGreatScopeAt
import Derived.Test.YtbpbnebcbjacdaaGreatTreeMade
namespace Go.Proofs.YtbpbnebcbjacdaaGreat
open Go.RowKit
open Go.ChangeMaps Go.MapKept
open Go.Maps

def NewPost (w : World) (e : Ending) (w' : World) : Prop :=
  ∃ P e1 c1 n1 t1, e = .returned (.pointer (some ⟨P, 0, none⟩)) ∧ ScopeAt w' P e1 c1 n1 t1 SProg.new ∧ Below w.heap.size w w' ∧ w.heap.size ≤ e1 ∧ w.heap.size ≤ c1 ∧ w.heap.size ≤ n1 ∧ w.heap.size ≤ t1 ∧ w.heap.size ≤ P
theorem bools_ok : recOk (keysOf []) boolsL = true := by decide
theorem bools_sh : ∀ p ∈ ([] : List (Tx × Value)), ShE p.2 := by simp
theorem new_done {w V : World} {P e1 c1 n1 t1 : Nat} (hV : Below w.heap.size w V) (hb : V.heap[P]? = some (.cells #[.map (some e1), .map (some c1), .map (some n1), .map (some t1)] 85 (0, 0)))
    (he : MapAt V e1 []) (hc : MapAt V c1 []) (hn : MapAt V n1 []) (ht : MapAt V t1 []) (hd : e1 ≠ c1 ∧ e1 ≠ n1 ∧ e1 ≠ t1 ∧ c1 ≠ n1 ∧ c1 ≠ t1 ∧ n1 ≠ t1)
    (hl : w.heap.size ≤ e1 ∧ w.heap.size ≤ c1 ∧ w.heap.size ≤ n1 ∧ w.heap.size ≤ t1 ∧ w.heap.size ≤ P) {V2 w' : World} (hV2 : Below V.heap.size V V2) {A : Option Addr} {m j : Nat} (hE : StrsAt V2 (.slice A m j) boolsL)
    (hk : KeptM [c1] V2 w') (hm : MapAt w' c1 ([] ++ withV (.agg #[.string ⟨#[]⟩, .slice A m j]) boolsL)) : NewPost w (.returned (.pointer (some ⟨P, 0, none⟩))) w' := by
  have h0 : ScopeAt V P e1 c1 n1 t1 ⟨[], [], [], []⟩ := ⟨hb, he, ⟨[], hc, rfl, by simp⟩, ⟨[], hn, rfl, by simp⟩, ht, hd⟩
  have h2 := h0.under hV2
  have hr : ConsR w' ([] ++ withV (.agg #[.string ⟨#[]⟩, .slice A m j]) boolsL) ([] ++ boolsL.map fun c => (c, boolsL)) := ConsR.snoc ⟨rfl, by simp⟩ ⟨_, A, m, j, rfl, hE.kept (hc.under hV2) hk⟩
  refine ⟨P, e1, c1, n1, t1, rfl, h2.putC (hc.under hV2) hk hm hr, ?_, hl⟩
  exact (hV.trans (hV2.mono hV.size)).trans (hk.below (by simpa using hl.2.1) (Nat.le_trans hV.size hV2.size))
set_option maxHeartbeats 2000000 in
set_option maxRecDepth 100000 in
theorem newScope_any (w : World) : Calls Tryz.prog 24 #[] w (NewPost w) := by
  have hmm := @run_makeMap Tryz.prog
  go_enter Tryz.func24, Tryz.ntmps24
  go_wp2_with fail
  clear hmm
  generalize hV : ((((w.alloc (.map #[] 0)).alloc (.map #[] 0)).alloc (.map #[] 0)).alloc (.map #[] 0)).alloc (.cells #[.map (some w.heap.size), .map (some (w.heap.size + 1)), .map (some (w.heap.size + 1 + 1)), .map (some (w.heap.size + 1 + 1 + 1))] 85) = V
  have a1 : Below w.heap.size w (w.alloc (.map #[] 0)) := (Below.refl _ w).alloc (Nat.le_refl _) _
  have m1 := MapAt.made w
  have m2 := MapAt.made (w.alloc (.map #[] 0))
  have m3 := MapAt.made ((w.alloc (.map #[] 0)).alloc (.map #[] 0))
  have m4 := MapAt.made (((w.alloc (.map #[] 0)).alloc (.map #[] 0)).alloc (.map #[] 0))
  have m5 := heap_alloc_new ((((w.alloc (.map #[] 0)).alloc (.map #[] 0)).alloc (.map #[] 0)).alloc (.map #[] 0)) (.cells #[.map (some w.heap.size), .map (some (w.heap.size + 1)), .map (some (w.heap.size + 1 + 1)), .map (some (w.heap.size + 1 + 1 + 1))] 85)
  simp only [World.size_alloc] at m2 m3 m4 m5
  have HV := Lib.hid (show Below w.heap.size w V by rw [← hV]; exact ((((a1.alloc (by simp) _).alloc (by simp <;> omega) _).alloc (by simp <;> omega) _).alloc (by simp <;> omega) _))
  have al : ∀ (W : World) (o : Obj), Below W.heap.size W (W.alloc o) := fun W o => (Below.refl _ W).alloc (Nat.le_refl _) _
  have H1 := Lib.hid (show MapAt V w.heap.size [] by rw [← hV]; exact (((m1.under (al _ _)).under (al _ _)).under (al _ _)).under (al _ _))
  have H2 := Lib.hid (show MapAt V (w.heap.size + 1) [] by rw [← hV]; exact ((m2.under (al _ _)).under (al _ _)).under (al _ _))
  have H3 := Lib.hid (show MapAt V (w.heap.size + 1 + 1) [] by rw [← hV]; exact (m3.under (al _ _)).under (al _ _))
  have H4 := Lib.hid (show MapAt V (w.heap.size + 1 + 1 + 1) [] by rw [← hV]; exact m4.under (al _ _))
  have H5 := Lib.hid (show V.heap[w.heap.size + 1 + 1 + 1 + 1]? = some (.cells #[.map (some w.heap.size), .map (some (w.heap.size + 1)), .map (some (w.heap.size + 1 + 1)), .map (some (w.heap.size + 1 + 1 + 1))] 85 (0, 0)) by rw [← hV]; exact m5)
  clear hV m1 m2 m3 m4 m5 a1 al
  have hlt := lt_of_heap H5.out
  obtain ⟨x0, x1, x2, x3⟩ := rowM4 H5.out
  refine wp_region_held_drew (S := (fun W => W.cell? ⟨w.heap.size + 1 + 1 + 1 + 1, 1, none⟩ = some (.map (some (w.heap.size + 1))))) (by kernel_rfl) ?_ (fun hHeld => ?_)
  · (try dsimp only); go_keep
  refine take_at 0 (v := ?_) rfl (by kernel_rfl) (by kernel_rfl) (by kernel_rfl) (fun _ _ _ h => h) (by rfl) ?_ (by assumption) ?_
  rotate_left
  · intro w hSw; (try dsimp only at hSw); go_simp; (try rw [if_neg (by assumption)]); (try rw [if_pos (by omega)]); (try simp only [hSw]); (try with_reducible rfl)
  try simp only [Act.put, List.setIfInBounds_toArray, List.set_cons_zero, List.set_cons_succ]
  refine take_at 1 (v := ?_) rfl (by kernel_rfl) (by kernel_rfl) (by kernel_rfl) (fun _ _ _ h => h) (by rfl) ?_ (by assumption) ?_
  rotate_left
  · intro w hSw; (try dsimp only at hSw); go_simp; (try rw [if_neg (by assumption)]); (try rw [if_pos (by omega)]); (try simp only [hSw]); (try with_reducible rfl)
  try simp only [Act.put, List.setIfInBounds_toArray, List.set_cons_zero, List.set_cons_succ]
  refine take_at 2 (v := ?_) rfl (by kernel_rfl) (by kernel_rfl) (by kernel_rfl) (fun _ _ _ h => h) (by rfl) ?_ (by assumption) ?_
  rotate_left
  · intro w hSw; (try dsimp only at hSw); go_simp; (try rw [if_neg (by assumption)]); (try rw [if_pos (by omega)]); (try simp only [hSw]); (try with_reducible rfl)
  try simp only [Act.put, List.setIfInBounds_toArray, List.set_cons_zero, List.set_cons_succ]
  refine take_at 3 (v := ?_) rfl (by kernel_rfl) (by kernel_rfl) (by kernel_rfl) (fun _ _ _ h => h) (by rfl) ?_ (by assumption) ?_
  rotate_left
  · intro w hSw; (try dsimp only at hSw); go_simp; (try rw [if_neg (by assumption)]); (try rw [if_pos (by omega)]); (try simp only [hSw]); (try with_reducible rfl)
  try simp only [Act.put, List.setIfInBounds_toArray, List.set_cons_zero, List.set_cons_succ]
  refine only_at 4 (by kernel_rfl) rfl (fun K hK => ?_)
  go_simp
  (go_at_call 31
   (with_reducible refine (booleans_any _).mono ?_)
   rintro e w7 ⟨rfl, rfl⟩
   have B1 := Lib.hid (((Below.refl V.heap.size V).drew.alloc (by simp) boolsV))
   have S1 := Lib.hid (bools_at V.drew)
   obtain ⟨V1, hV1⟩ : ∃ W, W = V.drew.alloc boolsV := ⟨_, rfl⟩
   rw [← hV1] at B1 S1 ⊢
   clear hV1
   obtain ⟨x0, x1, x2, x3⟩ := rowM4 (box_next B1.out H5.out))
  refine hK.out _ _ ?_ (fun hHeld => ?_)
  · (try dsimp only); go_keep
  clear hK K
  try simp only [Act.put, List.setIfInBounds_toArray, List.set_cons_zero, List.set_cons_succ]
  refine take_at 5 (v := ?_) rfl (by kernel_rfl) (by kernel_rfl) (by kernel_rfl) (fun _ _ _ h => h) (by rfl) ?_ (by assumption) ?_
  rotate_left
  · intro w hSw; (try dsimp only at hSw); go_simp; (try rw [if_neg (by assumption)]); (try rw [if_pos (by omega)]); (try simp only [hSw]); (try with_reducible rfl)
  try simp only [Act.put, List.setIfInBounds_toArray, List.set_cons_zero, List.set_cons_succ]
  refine only_at 6 (by kernel_rfl) rfl (fun K hK => ?_)
  go_simp
  (go_at_call 31
   (with_reducible refine (booleans_any _).mono ?_)
   rintro e w7 ⟨rfl, rfl⟩
   have B2 := Lib.hid (B1.out.alloc B1.out.size boolsV)
   have S2 := Lib.hid (bools_at V1)
   have S3 := Lib.hid (S1.out.under ((Below.refl _ V1).alloc (Nat.le_refl _) boolsV))
   obtain ⟨V2, hV2⟩ : ∃ W, W = V1.alloc boolsV := ⟨_, rfl⟩
   rw [← hV2] at B2 S2 S3 ⊢
   clear hV2
   obtain ⟨x0, x1, x2, x3⟩ := rowM4 (box_next B2.out H5.out))
  refine hK.out _ _ ?_ (fun hHeld => ?_)
  · (try dsimp only); go_keep
  clear hK K
  try simp only [Act.put, List.setIfInBounds_toArray, List.set_cons_zero, List.set_cons_succ]
  refine only_at 7 (by kernel_rfl) rfl (fun K hK => ?_)
  go_simp
  (go_at_call 42
   (with_reducible refine (recordE_any (H2.out.under B2.out) bools_sh S2.out).mono ?_)
   rintro e w7 ⟨he, hk, hm⟩
   rw [bools_ok] at he
   subst he
   obtain ⟨V3, rfl⟩ : ∃ W, W = w7 := ⟨_, rfl⟩
   have HK := Lib.hid hk
   have HM := Lib.hid (hm bools_ok)
   have BX := Lib.hid (box_kept hk (by simp; omega) (box_next B2.out H5.out))
   obtain ⟨x0, x1, x2, x3⟩ := rowM4 BX.out
   clear hk hm)
  refine hK.out _ _ ?_ (fun hHeld => ?_)
  · (try dsimp only); go_keep
  clear hK K
  try simp only [Act.put, List.setIfInBounds_toArray, List.set_cons_zero, List.set_cons_succ]
  refine wpAnyH_done (by kernel_rfl) ?_ _
  go_wp2_with fail
  go_ret
  exact new_done HV.out H5.out H1.out H2.out H3.out H4.out (by omega) (by omega) B2.out S3.out HK.out HM.out
end Go.Proofs.YtbpbnebcbjacdaaGreat
namespace Go.Proofs.YtbpbnebcbjacdaaGreat
open Go.RowKit
open Go.ChangeMaps Go.MapKept
open Go.Maps

theorem strs_one {w : World} {g : Nat} {s : Tx} {T0 : TypeId} (h : w.heap[g]? = some (.cells #[.string (str s)] T0 (0, 0))) (hs : s.length ≤ maxLen) : StrsAt w (.slice (some ⟨g, 0, none⟩) 1 1) [s] :=
  ⟨_, 1, rfl, by simp, by unfold maxLen; omega, fun i x hx => by
    match i with
    | 0 =>
      cases hx
      refine ⟨_, ⟨_, rfl, fun j u hu => ?_⟩, rfl, hs⟩
      have hj : j = 0 := by have := (List.getElem?_eq_some_iff.1 hu).1; simp at this; exact this
      subst hj; cases hu
      simpa [Addr.add] using row1 h
    | i + 1 => simp at hx⟩
theorem keys_unit (l : List Tx) : keysOf (withV unitV l) = l := keysOf_with _ _
theorem with_app (v : Value) (a b : List Tx) : withV v a ++ withV v b = withV v (a ++ b) := by simp [withV]
def EnumPost (P e1 c1 n1 t1 : Nat) (s : SProg) (q : QEnum) (w : World) (e : Ending) (w' : World) : Prop :=
  e = .returned (.bool (enumOk s q)) ∧ KeptM [e1, c1] w w' ∧ (enumOk s q = true → ScopeAt w' P e1 c1 n1 t1 (s.addEnum q))
section
variable {w w' : World} {P e1 c1 n1 t1 : Nat} {s : SProg}
theorem ScopeAt.row (h : ScopeAt w P e1 c1 n1 t1 s) : w.cell? ⟨P, 0, none⟩ = some (.map (some e1)) ∧ w.cell? ⟨P, 1, none⟩ = some (.map (some c1)) ∧ w.cell? ⟨P, 2, none⟩ = some (.map (some n1)) ∧ w.cell? ⟨P, 3, none⟩ = some (.map (some t1)) := rowM4 h.box
/-- a failed record leaves the rest -/
theorem box_put {b : Nat} {l : List (Tx × Value)} {g : Nat} {cs : Array Value} {T0 : TypeId} (hm : MapAt w b l) (hk : KeptM [b] w w') (h : w.heap[g]? = some (.cells cs T0 (0, 0))) : w'.heap[g]? = some (.cells cs T0 (0, 0)) :=
  box_kept hk (by simpa using hm.notbox h) h
end
set_option maxHeartbeats 4000000 in
set_option maxRecDepth 100000 in
theorem addEnum_any {w0 : World} {L : List Value} {q : QEnum} (hL : EnumAt w0 L q) {w : World} {P e1 c1 n1 t1 : Nat} {s : SProg} (hS : ScopeAt w P e1 c1 n1 t1 s) (hb : Below w0.heap.size w0 w) :
    Calls Tryz.prog 25 #[.pointer (some ⟨P, 0, none⟩), .agg L.toArray] w (EnumPost P e1 c1 n1 t1 s q w) := by
  obtain ⟨cv, rfl, hnl, hcs⟩ := hL
  obtain ⟨A, m, j, rfl⟩ := SliceAt.shape hcs
  have HCS := Lib.hid (hcs.under hb)
  have HNL := Lib.hid hnl
  have HS := Lib.hid hS
  have hPl := lt_of_heap hS.box
  clear hcs hnl hS hb
  go_enter Tryz.func25, Tryz.ntmps25
  go_wp2_with fail
  have hal : Below w.heap.size w (w.alloc (.cells #[.string (str q.name), .slice A m j] 46)) := (Below.refl _ w).alloc (Nat.le_refl _) _
  have BX := Lib.hid (heap_alloc_new w (.cells #[.string (str q.name), .slice A m j] 46))
  have HV := Lib.hid hal
  generalize w.alloc (.cells #[.string (str q.name), .slice A m j] 46) = V at *
  clear hal
  have HSV := Lib.hid (HS.out.under HV.out)
  obtain ⟨x0, x1, _, _⟩ := HSV.out.row
  obtain ⟨y0, y1⟩ := row2 BX.out
  have hVl := HV.out.size
  refine wp_region_held_drew (S := (fun W => W.cell? ⟨P, 0, none⟩ = some (.map (some e1)) ∧ W.cell? ⟨P, 1, none⟩ = some (.map (some c1)) ∧ W.cell? ⟨w.heap.size, 0, none⟩ = some (.string (str q.name)) ∧ W.cell? ⟨w.heap.size, 1, none⟩ = some (.slice A m j))) (by kernel_rfl) ?_ (fun hHeld => ?_)
  · (try dsimp only); go_keep
  refine take_at 0 (v := ?_) rfl (by kernel_rfl) (by kernel_rfl) (by kernel_rfl) (fun _ _ _ h => h) (by rfl) ?_ (by assumption) ?_
  rotate_left
  · intro w hSw; (try dsimp only at hSw); go_simp; (try rw [if_neg (by assumption)]); (try rw [if_pos (by omega)]); (try simp only [hSw]); (try with_reducible rfl)
  try simp only [Act.put, List.setIfInBounds_toArray, List.set_cons_zero, List.set_cons_succ]
  refine take_at 1 (v := ?_) rfl (by kernel_rfl) (by kernel_rfl) (by kernel_rfl) (fun _ _ _ h => h) (by rfl) ?_ (by assumption) ?_
  rotate_left
  · intro w hSw; (try dsimp only at hSw); go_simp; (try rw [if_neg (by assumption)]); (try rw [if_pos (by omega)]); (try simp only [hSw]); (try with_reducible rfl)
  try simp only [Act.put, List.setIfInBounds_toArray, List.set_cons_zero, List.set_cons_succ]
  refine take_at 2 (v := ?_) rfl (by kernel_rfl) (by kernel_rfl) (by kernel_rfl) (fun _ _ _ h => h) (by rfl) ?_ (by assumption) ?_
  rotate_left
  · intro w hSw; (try dsimp only at hSw); go_simp; (try rw [if_neg (by assumption)]); (try rw [if_pos (by omega)]); (try simp only [hSw]); (try with_reducible rfl)
  try simp only [Act.put, List.setIfInBounds_toArray, List.set_cons_zero, List.set_cons_succ]
  refine take_at 3 (v := ?_) rfl (by kernel_rfl) (by kernel_rfl) (by kernel_rfl) (fun _ _ _ h => h) (by rfl) ?_ (by assumption) ?_
  rotate_left
  · intro w hSw; (try dsimp only at hSw); go_simp; (try rw [if_neg (by assumption)]); (try rw [if_pos (by omega)]); (try simp only [hSw]); (try with_reducible rfl)
  try simp only [Act.put, List.setIfInBounds_toArray, List.set_cons_zero, List.set_cons_succ]
  refine take_at 4 (v := ?_) rfl (by kernel_rfl) (by kernel_rfl) (by kernel_rfl) (fun _ _ _ h => h) (by rfl) ?_ (by assumption) ?_
  rotate_left
  · intro w hSw; (try dsimp only at hSw); go_simp; (try rw [if_neg (by assumption)]); (try rw [if_pos (by omega)]); (try simp only [hSw]); (try with_reducible rfl)
  try simp only [Act.put, List.setIfInBounds_toArray, List.set_cons_zero, List.set_cons_succ]
  refine take_at 5 (v := ?_) rfl (by kernel_rfl) (by kernel_rfl) (by kernel_rfl) (fun _ _ _ h => h) (by rfl) ?_ (by assumption) ?_
  rotate_left
  · intro w hSw; (try dsimp only at hSw); go_simp; (try rw [if_neg (by assumption)]); (try rw [if_pos (by omega)]); (try simp only [hSw]); (try with_reducible rfl)
  try simp only [Act.put, List.setIfInBounds_toArray, List.set_cons_zero, List.set_cons_succ]
  refine take_at 6 (v := ?_) rfl (by kernel_rfl) (by kernel_rfl) (by kernel_rfl) (fun _ _ _ h => h) (by rfl) ?_ (by assumption) ?_
  rotate_left
  · intro w hSw; (try dsimp only at hSw); go_simp; (try rw [if_neg (by assumption)]); (try rw [if_pos (by omega)]); (try simp only [hSw]); (try with_reducible rfl)
  try simp only [Act.put, List.setIfInBounds_toArray, List.set_cons_zero, List.set_cons_succ]
  refine only_at 7 (by kernel_rfl) rfl (fun K hK => ?_)
  go_simp
  refine hK.out _ _ ?_ (fun hHeld => ?_)
  · (try dsimp only); go_keep
  clear hK K
  try simp only [Act.put, List.setIfInBounds_toArray, List.set_cons_zero, List.set_cons_succ]
  have B1 := Lib.hid ((Below.refl V.heap.size V).alloc (Nat.le_refl _) (.cells #[.string (str q.name)] 9)).drew
  have NX := Lib.hid (show (V.alloc (.cells #[.string (str q.name)] 9)).drew.heap[V.heap.size]? = some (.cells #[.string (str q.name)] 9 (0, 0)) from heap_alloc_new V (.cells #[.string (str q.name)] 9))
  generalize (V.alloc (.cells #[.string (str q.name)] 9)).drew = V1 at *
  have HS1 := Lib.hid (HSV.out.under B1.out)
  cases hr : recOk s.enums [q.name]
  · have HR := Lib.hid hr
    have HE := Lib.hid (show enumOk s q = false by rw [enumOk, hr]; rfl)
    clear hr
    refine only_at 8 (by kernel_rfl) rfl (fun K hK => ?_)
    go_simp
    (go_at_call 43
     (with_reducible refine (recordS_any HS1.out.me (sh_unit _) (strs_one NX.out HNL.out)).mono ?_)
     rintro e w7 ⟨he, hk, _⟩
     rw [keys_unit, HR.out] at he
     subst he
     obtain ⟨V3, rfl⟩ : ∃ W, W = w7 := ⟨_, rfl⟩
     have HK := Lib.hid hk
     obtain ⟨x0, x1, _, _⟩ := rowM4 (box_put HS1.out.me hk HS1.out.box)
     obtain ⟨y0, y1⟩ := row2 (box_put HS1.out.me hk (box_next B1.out BX.out))
     clear hk)
    refine hK.out _ _ ?_ (fun hHeld => ?_)
    · (try dsimp only); go_keep
    clear hK K
    try simp only [Act.put, List.setIfInBounds_toArray, List.set_cons_zero, List.set_cons_succ]
    refine take_at 9 (v := ?_) rfl (by kernel_rfl) (by kernel_rfl) (by kernel_rfl) (fun _ _ _ h => h) (by rfl) ?_ (by assumption) ?_
    rotate_left
    · intro w hSw; (try dsimp only at hSw); go_simp; (try rw [if_neg (by assumption)]); (try rw [if_pos (by omega)]); (try simp only [hSw]); (try with_reducible rfl)
    try simp only [Act.put, List.setIfInBounds_toArray, List.set_cons_zero, List.set_cons_succ]
    refine skip_at 10 rfl (by kernel_rfl) (by kernel_rfl) (by kernel_rfl) (fun _ _ _ h => h) (by rfl) (by assumption) ?_
    try simp only [Act.put, List.setIfInBounds_toArray, List.set_cons_zero, List.set_cons_succ]
    refine skip_at 11 rfl (by kernel_rfl) (by kernel_rfl) (by kernel_rfl) (fun _ _ _ h => h) (by rfl) (by assumption) ?_
    try simp only [Act.put, List.setIfInBounds_toArray, List.set_cons_zero, List.set_cons_succ]
    refine skip_at 12 rfl (by kernel_rfl) (by kernel_rfl) (by kernel_rfl) (fun _ _ _ h => h) (by rfl) (by assumption) ?_
    try simp only [Act.put, List.setIfInBounds_toArray, List.set_cons_zero, List.set_cons_succ]
    refine skip_at 13 rfl (by kernel_rfl) (by kernel_rfl) (by kernel_rfl) (fun _ _ _ h => h) (by rfl) (by assumption) ?_
    try simp only [Act.put, List.setIfInBounds_toArray, List.set_cons_zero, List.set_cons_succ]
    refine skip_at 14 rfl (by kernel_rfl) (by kernel_rfl) (by kernel_rfl) (fun _ _ _ h => h) (by rfl) (by assumption) ?_
    try simp only [Act.put, List.setIfInBounds_toArray, List.set_cons_zero, List.set_cons_succ]
    refine skip_at 15 rfl (by kernel_rfl) (by kernel_rfl) (by kernel_rfl) (fun _ _ _ h => h) (by rfl) (by assumption) ?_
    try simp only [Act.put, List.setIfInBounds_toArray, List.set_cons_zero, List.set_cons_succ]
    refine skip_at 16 rfl (by kernel_rfl) (by kernel_rfl) (by kernel_rfl) (fun _ _ _ h => h) (by rfl) (by assumption) ?_
    try simp only [Act.put, List.setIfInBounds_toArray, List.set_cons_zero, List.set_cons_succ]
    refine skip_at 17 rfl (by kernel_rfl) (by kernel_rfl) (by kernel_rfl) (fun _ _ _ h => h) (by rfl) (by assumption) ?_
    try simp only [Act.put, List.setIfInBounds_toArray, List.set_cons_zero, List.set_cons_succ]
    refine take_at 18 (v := ?_) rfl (by kernel_rfl) (by kernel_rfl) (by kernel_rfl) (fun _ _ _ h => h) (by rfl) ?_ (by assumption) ?_
    rotate_left
    · intro w hSw; (try dsimp only at hSw); go_simp; (try rw [if_neg (by assumption)]); (try rw [if_pos (by omega)]); (try simp only [hSw]); (try with_reducible rfl)
    try simp only [Act.put, List.setIfInBounds_toArray, List.set_cons_zero, List.set_cons_succ]
    refine take_at 19 (v := ?_) rfl (by kernel_rfl) (by kernel_rfl) (by kernel_rfl) (fun _ _ _ h => h) (by rfl) ?_ (by assumption) ?_
    rotate_left
    · intro w hSw; (try dsimp only at hSw); go_simp; (try rw [if_neg (by assumption)]); (try rw [if_pos (by omega)]); (try simp only [hSw]); (try with_reducible rfl)
    try simp only [Act.put, List.setIfInBounds_toArray, List.set_cons_zero, List.set_cons_succ]
    refine wpAnyH_done (by kernel_rfl) ?_ _
    go_wp2_with fail
    go_ret
    exact ⟨ret_bool HE.out.symm, ((KeptM.of_below HV.out).trans (KeptM.of_below (B1.out))).trans (HK.out.mono (by simp)), fun h => by rw [HE.out] at h; cases h⟩
  · have HR := Lib.hid hr
    have HE := Lib.hid (show enumOk s q = recOk s.conKeys q.cons by rw [enumOk, hr]; rfl)
    clear hr
    refine only_at 8 (by kernel_rfl) rfl (fun K hK => ?_)
    go_simp
    (go_at_call 43
     (with_reducible refine (recordS_any HS1.out.me (sh_unit _) (strs_one NX.out HNL.out)).mono ?_)
     rintro e w7 ⟨he, hk, hm⟩
     rw [keys_unit, HR.out] at he
     subst he
     obtain ⟨V3, rfl⟩ : ∃ W, W = w7 := ⟨_, rfl⟩
     have HK := Lib.hid hk
     have HM := Lib.hid (hm (by rw [keys_unit]; exact HR.out))
     obtain ⟨x0, x1, _, _⟩ := rowM4 (box_put HS1.out.me hk HS1.out.box)
     have BX3 := Lib.hid (box_put HS1.out.me hk (box_next B1.out BX.out))
     obtain ⟨y0, y1⟩ := row2 BX3.out
     clear hk hm)
    refine hK.out _ _ ?_ (fun hHeld => ?_)
    · (try dsimp only); go_keep
    clear hK K
    try simp only [Act.put, List.setIfInBounds_toArray, List.set_cons_zero, List.set_cons_succ]
    have HS3 := Lib.hid (HS1.out.putE (l := s.enums ++ [q.name]) HK.out (by have := HM.out; rwa [show (.agg #[] : Value) = unitV from rfl, with_app] at this))
    have HC3 := Lib.hid (((HCS.out.under HV.out).under B1.out).kept HS1.out.me HK.out)
    obtain ⟨lc, hmc, hrc⟩ := HS3.out.mc
    have HMC := Lib.hid hmc
    have HRC := Lib.hid hrc
    clear hmc hrc
    refine take_at 9 (v := ?_) rfl (by kernel_rfl) (by kernel_rfl) (by kernel_rfl) (fun _ _ _ h => h) (by rfl) ?_ (by assumption) ?_
    rotate_left
    · intro w hSw; (try dsimp only at hSw); go_simp; (try rw [if_neg (by assumption)]); (try rw [if_pos (by omega)]); (try simp only [hSw]); (try with_reducible rfl)
    try simp only [Act.put, List.setIfInBounds_toArray, List.set_cons_zero, List.set_cons_succ]
    refine take_at 10 (v := ?_) rfl (by kernel_rfl) (by kernel_rfl) (by kernel_rfl) (fun _ _ _ h => h) (by rfl) ?_ (by assumption) ?_
    rotate_left
    · intro w hSw; (try dsimp only at hSw); go_simp; (try rw [if_neg (by assumption)]); (try rw [if_pos (by omega)]); (try simp only [hSw]); (try with_reducible rfl)
    try simp only [Act.put, List.setIfInBounds_toArray, List.set_cons_zero, List.set_cons_succ]
    refine take_at 11 (v := ?_) rfl (by kernel_rfl) (by kernel_rfl) (by kernel_rfl) (fun _ _ _ h => h) (by rfl) ?_ (by assumption) ?_
    rotate_left
    · intro w hSw; (try dsimp only at hSw); go_simp; (try rw [if_neg (by assumption)]); (try rw [if_pos (by omega)]); (try simp only [hSw]); (try with_reducible rfl)
    try simp only [Act.put, List.setIfInBounds_toArray, List.set_cons_zero, List.set_cons_succ]
    refine take_at 12 (v := ?_) rfl (by kernel_rfl) (by kernel_rfl) (by kernel_rfl) (fun _ _ _ h => h) (by rfl) ?_ (by assumption) ?_
    rotate_left
    · intro w hSw; (try dsimp only at hSw); go_simp; (try rw [if_neg (by assumption)]); (try rw [if_pos (by omega)]); (try simp only [hSw]); (try with_reducible rfl)
    try simp only [Act.put, List.setIfInBounds_toArray, List.set_cons_zero, List.set_cons_succ]
    refine take_at 13 (v := ?_) rfl (by kernel_rfl) (by kernel_rfl) (by kernel_rfl) (fun _ _ _ h => h) (by rfl) ?_ (by assumption) ?_
    rotate_left
    · intro w hSw; (try dsimp only at hSw); go_simp; (try rw [if_neg (by assumption)]); (try rw [if_pos (by omega)]); (try simp only [hSw]); (try with_reducible rfl)
    try simp only [Act.put, List.setIfInBounds_toArray, List.set_cons_zero, List.set_cons_succ]
    refine take_at 14 (v := ?_) rfl (by kernel_rfl) (by kernel_rfl) (by kernel_rfl) (fun _ _ _ h => h) (by rfl) ?_ (by assumption) ?_
    rotate_left
    · intro w hSw; (try dsimp only at hSw); go_simp; (try rw [if_neg (by assumption)]); (try rw [if_pos (by omega)]); (try simp only [hSw]); (try with_reducible rfl)
    try simp only [Act.put, List.setIfInBounds_toArray, List.set_cons_zero, List.set_cons_succ]
    refine take_at 15 (v := ?_) rfl (by kernel_rfl) (by kernel_rfl) (by kernel_rfl) (fun _ _ _ h => h) (by rfl) ?_ (by assumption) ?_
    rotate_left
    · intro w hSw; (try dsimp only at hSw); go_simp; (try rw [if_neg (by assumption)]); (try rw [if_pos (by omega)]); (try simp only [hSw]); (try with_reducible rfl)
    try simp only [Act.put, List.setIfInBounds_toArray, List.set_cons_zero, List.set_cons_succ]
    refine take_at 16 (v := ?_) rfl (by kernel_rfl) (by kernel_rfl) (by kernel_rfl) (fun _ _ _ h => h) (by rfl) ?_ (by assumption) ?_
    rotate_left
    · intro w hSw; (try dsimp only at hSw); go_simp; (try rw [if_neg (by assumption)]); (try rw [if_pos (by omega)]); (try simp only [hSw]); (try with_reducible rfl)
    try simp only [Act.put, List.setIfInBounds_toArray, List.set_cons_zero, List.set_cons_succ]
    refine only_at 17 (by kernel_rfl) rfl (fun K hK => ?_)
    go_simp
    (go_at_call 42
     (with_reducible refine (recordE_any HMC.out HRC.out.sh HC3.out).mono ?_)
     rintro e w7 ⟨he, hk, hm⟩
     subst he
     obtain ⟨V4, rfl⟩ : ∃ W, W = w7 := ⟨_, rfl⟩
     have HK4 := Lib.hid hk
     have HM4 := Lib.hid hm
     obtain ⟨x0, x1, _, _⟩ := rowM4 (box_put HMC.out hk HS3.out.box)
     obtain ⟨y0, y1⟩ := row2 (box_put HMC.out hk BX3.out)
     clear hk hm)
    refine hK.out _ _ ?_ (fun hHeld => ?_)
    · (try dsimp only); go_keep
    clear hK K
    try simp only [Act.put, List.setIfInBounds_toArray, List.set_cons_zero, List.set_cons_succ]
    refine take_at 18 (v := ?_) rfl (by kernel_rfl) (by kernel_rfl) (by kernel_rfl) (fun _ _ _ h => h) (by rfl) ?_ (by assumption) ?_
    rotate_left
    · intro w hSw; (try dsimp only at hSw); go_simp; (try rw [if_neg (by assumption)]); (try rw [if_pos (by omega)]); (try simp only [hSw]); (try with_reducible rfl)
    try simp only [Act.put, List.setIfInBounds_toArray, List.set_cons_zero, List.set_cons_succ]
    refine take_at 19 (v := ?_) rfl (by kernel_rfl) (by kernel_rfl) (by kernel_rfl) (fun _ _ _ h => h) (by rfl) ?_ (by assumption) ?_
    rotate_left
    · intro w hSw; (try dsimp only at hSw); go_simp; (try rw [if_neg (by assumption)]); (try rw [if_pos (by omega)]); (try simp only [hSw]); (try with_reducible rfl)
    try simp only [Act.put, List.setIfInBounds_toArray, List.set_cons_zero, List.set_cons_succ]
    refine wpAnyH_done (by kernel_rfl) ?_ _
    go_wp2_with fail
    go_ret
    have hkey : recOk (keysOf lc) q.cons = enumOk s q := by rw [HE.out, HRC.out.1]; rfl
    refine ⟨ret_bool hkey, (((KeptM.of_below HV.out).trans (KeptM.of_below (B1.out))).trans (HK.out.mono (by simp))).trans (HK4.out.mono (by simp)), fun h => ?_⟩
    exact HS3.out.putC HMC.out HK4.out (HM4.out (hkey.trans h)) ((HRC.out.kept HMC.out HK4.out).snoc ⟨_, _, _, _, rfl, HC3.out.kept HMC.out HK4.out⟩)
end Go.Proofs.YtbpbnebcbjacdaaGreat
