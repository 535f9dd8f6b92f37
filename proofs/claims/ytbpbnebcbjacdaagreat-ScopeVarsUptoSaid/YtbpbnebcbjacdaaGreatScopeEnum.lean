/-
  addEnum.
-/
import Derived.Test.YtbpbnebcbjacdaaGreatScopeNew
namespace Go.Proofs.YtbpbnebcbjacdaaGreat
open Go.RowKit
open Go.ChangeMaps Go.MapKept
open Go.Maps

theorem strs_one {w : World} {g : Nat} {s : Tx} {T0 : TypeId} (h : w.heap[g]? = some (.cells #[.string (str s)] T0 (0, 0))) (hs : s.length ≤ maxLen) : StrsAt w (.slice (some ⟨g, 0, none⟩) 1 1) [s] :=
  ⟨_, 1, rfl, by simp, by unfold maxLen; omega, fun i x hx => by
    match i with
    | 0 =>
      cases hx
      refine ⟨_, ⟨_, rfl, fun j u hu => ?_⟩, rfl, hs⟩
      have hj : j = 0 := by have := (List.getElem?_eq_some_iff.1 hu).1; simp at this; exact this
      subst hj; cases hu
      simpa [Addr.add] using row1 h
    | i + 1 => simp at hx⟩
theorem keys_unit (l : List Tx) : keysOf (withV unitV l) = l := keysOf_with _ _
theorem with_app (v : Value) (a b : List Tx) : withV v a ++ withV v b = withV v (a ++ b) := by simp [withV]
def EnumPost (P e1 c1 n1 t1 : Nat) (s : SProg) (q : QEnum) (w : World) (e : Ending) (w' : World) : Prop :=
  e = .returned (.bool (enumOk s q)) ∧ KeptM [e1, c1] w w' ∧ (enumOk s q = true → ScopeAt w' P e1 c1 n1 t1 (s.addEnum q))
section
variable {w w' : World} {P e1 c1 n1 t1 : Nat} {s : SProg}
theorem ScopeAt.row (h : ScopeAt w P e1 c1 n1 t1 s) : w.cell? ⟨P, 0, none⟩ = some (.map (some e1)) ∧ w.cell? ⟨P, 1, none⟩ = some (.map (some c1)) ∧ w.cell? ⟨P, 2, none⟩ = some (.map (some n1)) ∧ w.cell? ⟨P, 3, none⟩ = some (.map (some t1)) := rowM4 h.box
/-- a failed record leaves the rest -/
theorem box_put {b : Nat} {l : List (Tx × Value)} {g : Nat} {cs : Array Value} {T0 : TypeId} (hm : MapAt w b l) (hk : KeptM [b] w w') (h : w.heap[g]? = some (.cells cs T0 (0, 0))) : w'.heap[g]? = some (.cells cs T0 (0, 0)) :=
  box_kept hk (by simpa using hm.notbox h) h
end
set_option maxHeartbeats 4000000 in
set_option maxRecDepth 100000 in
theorem addEnum_any {w0 : World} {L : List Value} {q : QEnum} (hL : EnumAt w0 L q) {w : World} {P e1 c1 n1 t1 : Nat} {s : SProg} (hS : ScopeAt w P e1 c1 n1 t1 s) (hb : Below w0.heap.size w0 w) :
    Calls Tryz.prog 25 #[.pointer (some ⟨P, 0, none⟩), .agg L.toArray] w (EnumPost P e1 c1 n1 t1 s q w) := by
  obtain ⟨cv, rfl, hnl, hcs⟩ := hL
  obtain ⟨A, m, j, rfl⟩ := SliceAt.shape hcs
  have HCS := Lib.hid (hcs.under hb)
  have HNL := Lib.hid hnl
  have HS := Lib.hid hS
  have hPl := lt_of_heap hS.box
  clear hcs hnl hS hb
  go_enter Tryz.func25, Tryz.ntmps25
  go_wp2_with fail
  have hal : Below w.heap.size w (w.alloc (.cells #[.string (str q.name), .slice A m j] 46)) := (Below.refl _ w).alloc (Nat.le_refl _) _
  have BX := Lib.hid (heap_alloc_new w (.cells #[.string (str q.name), .slice A m j] 46))
  have HV := Lib.hid hal
  generalize w.alloc (.cells #[.string (str q.name), .slice A m j] 46) = V at *
  clear hal
  have HSV := Lib.hid (HS.out.under HV.out)
  obtain ⟨x0, x1, _, _⟩ := HSV.out.row
  obtain ⟨y0, y1⟩ := row2 BX.out
  have hVl := HV.out.size
  refine wp_region_held_drew (S := (fun W => W.cell? ⟨P, 0, none⟩ = some (.map (some e1)) ∧ W.cell? ⟨P, 1, none⟩ = some (.map (some c1)) ∧ W.cell? ⟨w.heap.size, 0, none⟩ = some (.string (str q.name)) ∧ W.cell? ⟨w.heap.size, 1, none⟩ = some (.slice A m j))) (by kernel_rfl) ?_ (fun hHeld => ?_)
  · (try dsimp only); go_keep
  refine take_at 0 (v := ?_) rfl (by kernel_rfl) (by kernel_rfl) (by kernel_rfl) (fun _ _ _ h => h) (by rfl) ?_ (by assumption) ?_
  rotate_left
  · intro w hSw; (try dsimp only at hSw); go_simp; (try rw [if_neg (by assumption)]); (try rw [if_pos (by omega)]); (try simp only [hSw]); (try with_reducible rfl)
  try simp only [Act.put, List.setIfInBounds_toArray, List.set_cons_zero, List.set_cons_succ]
  refine take_at 1 (v := ?_) rfl (by kernel_rfl) (by kernel_rfl) (by kernel_rfl) (fun _ _ _ h => h) (by rfl) ?_ (by assumption) ?_
  rotate_left
  · intro w hSw; (try dsimp only at hSw); go_simp; (try rw [if_neg (by assumption)]); (try rw [if_pos (by omega)]); (try simp only [hSw]); (try with_reducible rfl)
  try simp only [Act.put, List.setIfInBounds_toArray, List.set_cons_zero, List.set_cons_succ]
  refine take_at 2 (v := ?_) rfl (by kernel_rfl) (by kernel_rfl) (by kernel_rfl) (fun _ _ _ h => h) (by rfl) ?_ (by assumption) ?_
  rotate_left
  · intro w hSw; (try dsimp only at hSw); go_simp; (try rw [if_neg (by assumption)]); (try rw [if_pos (by omega)]); (try simp only [hSw]); (try with_reducible rfl)
  try simp only [Act.put, List.setIfInBounds_toArray, List.set_cons_zero, List.set_cons_succ]
  refine take_at 3 (v := ?_) rfl (by kernel_rfl) (by kernel_rfl) (by kernel_rfl) (fun _ _ _ h => h) (by rfl) ?_ (by assumption) ?_
  rotate_left
  · intro w hSw; (try dsimp only at hSw); go_simp; (try rw [if_neg (by assumption)]); (try rw [if_pos (by omega)]); (try simp only [hSw]); (try with_reducible rfl)
  try simp only [Act.put, List.setIfInBounds_toArray, List.set_cons_zero, List.set_cons_succ]
  refine take_at 4 (v := ?_) rfl (by kernel_rfl) (by kernel_rfl) (by kernel_rfl) (fun _ _ _ h => h) (by rfl) ?_ (by assumption) ?_
  rotate_left
  · intro w hSw; (try dsimp only at hSw); go_simp; (try rw [if_neg (by assumption)]); (try rw [if_pos (by omega)]); (try simp only [hSw]); (try with_reducible rfl)
  try simp only [Act.put, List.setIfInBounds_toArray, List.set_cons_zero, List.set_cons_succ]
  refine take_at 5 (v := ?_) rfl (by kernel_rfl) (by kernel_rfl) (by kernel_rfl) (fun _ _ _ h => h) (by rfl) ?_ (by assumption) ?_
  rotate_left
  · intro w hSw; (try dsimp only at hSw); go_simp; (try rw [if_neg (by assumption)]); (try rw [if_pos (by omega)]); (try simp only [hSw]); (try with_reducible rfl)
  try simp only [Act.put, List.setIfInBounds_toArray, List.set_cons_zero, List.set_cons_succ]
  refine take_at 6 (v := ?_) rfl (by kernel_rfl) (by kernel_rfl) (by kernel_rfl) (fun _ _ _ h => h) (by rfl) ?_ (by assumption) ?_
  rotate_left
  · intro w hSw; (try dsimp only at hSw); go_simp; (try rw [if_neg (by assumption)]); (try rw [if_pos (by omega)]); (try simp only [hSw]); (try with_reducible rfl)
  try simp only [Act.put, List.setIfInBounds_toArray, List.set_cons_zero, List.set_cons_succ]
  refine only_at 7 (by kernel_rfl) rfl (fun K hK => ?_)
  go_simp
  refine hK.out _ _ ?_ (fun hHeld => ?_)
  · (try dsimp only); go_keep
  clear hK K
  try simp only [Act.put, List.setIfInBounds_toArray, List.set_cons_zero, List.set_cons_succ]
  have B1 := Lib.hid ((Below.refl V.heap.size V).alloc (Nat.le_refl _) (.cells #[.string (str q.name)] 9)).drew
  have NX := Lib.hid (show (V.alloc (.cells #[.string (str q.name)] 9)).drew.heap[V.heap.size]? = some (.cells #[.string (str q.name)] 9 (0, 0)) from heap_alloc_new V (.cells #[.string (str q.name)] 9))
  generalize (V.alloc (.cells #[.string (str q.name)] 9)).drew = V1 at *
  have HS1 := Lib.hid (HSV.out.under B1.out)
  cases hr : recOk s.enums [q.name]
  · have HR := Lib.hid hr
    have HE := Lib.hid (show enumOk s q = false by rw [enumOk, hr]; rfl)
    clear hr
    refine only_at 8 (by kernel_rfl) rfl (fun K hK => ?_)
    go_simp
    (go_at_call 43
     (with_reducible refine (recordS_any HS1.out.me (sh_unit _) (strs_one NX.out HNL.out)).mono ?_)
     rintro e w7 ⟨he, hk, _⟩
     rw [keys_unit, HR.out] at he
     subst he
     obtain ⟨V3, rfl⟩ : ∃ W, W = w7 := ⟨_, rfl⟩
     have HK := Lib.hid hk
     obtain ⟨x0, x1, _, _⟩ := rowM4 (box_put HS1.out.me hk HS1.out.box)
     obtain ⟨y0, y1⟩ := row2 (box_put HS1.out.me hk (box_next B1.out BX.out))
     clear hk)
    refine hK.out _ _ ?_ (fun hHeld => ?_)
    · (try dsimp only); go_keep
    clear hK K
    try simp only [Act.put, List.setIfInBounds_toArray, List.set_cons_zero, List.set_cons_succ]
    refine take_at 9 (v := ?_) rfl (by kernel_rfl) (by kernel_rfl) (by kernel_rfl) (fun _ _ _ h => h) (by rfl) ?_ (by assumption) ?_
    rotate_left
    · intro w hSw; (try dsimp only at hSw); go_simp; (try rw [if_neg (by assumption)]); (try rw [if_pos (by omega)]); (try simp only [hSw]); (try with_reducible rfl)
    try simp only [Act.put, List.setIfInBounds_toArray, List.set_cons_zero, List.set_cons_succ]
    refine skip_at 10 rfl (by kernel_rfl) (by kernel_rfl) (by kernel_rfl) (fun _ _ _ h => h) (by rfl) (by assumption) ?_
    try simp only [Act.put, List.setIfInBounds_toArray, List.set_cons_zero, List.set_cons_succ]
    refine skip_at 11 rfl (by kernel_rfl) (by kernel_rfl) (by kernel_rfl) (fun _ _ _ h => h) (by rfl) (by assumption) ?_
    try simp only [Act.put, List.setIfInBounds_toArray, List.set_cons_zero, List.set_cons_succ]
    refine skip_at 12 rfl (by kernel_rfl) (by kernel_rfl) (by kernel_rfl) (fun _ _ _ h => h) (by rfl) (by assumption) ?_
    try simp only [Act.put, List.setIfInBounds_toArray, List.set_cons_zero, List.set_cons_succ]
    refine skip_at 13 rfl (by kernel_rfl) (by kernel_rfl) (by kernel_rfl) (fun _ _ _ h => h) (by rfl) (by assumption) ?_
    try simp only [Act.put, List.setIfInBounds_toArray, List.set_cons_zero, List.set_cons_succ]
    refine skip_at 14 rfl (by kernel_rfl) (by kernel_rfl) (by kernel_rfl) (fun _ _ _ h => h) (by rfl) (by assumption) ?_
    try simp only [Act.put, List.setIfInBounds_toArray, List.set_cons_zero, List.set_cons_succ]
    refine skip_at 15 rfl (by kernel_rfl) (by kernel_rfl) (by kernel_rfl) (fun _ _ _ h => h) (by rfl) (by assumption) ?_
    try simp only [Act.put, List.setIfInBounds_toArray, List.set_cons_zero, List.set_cons_succ]
    refine skip_at 16 rfl (by kernel_rfl) (by kernel_rfl) (by kernel_rfl) (fun _ _ _ h => h) (by rfl) (by assumption) ?_
    try simp only [Act.put, List.setIfInBounds_toArray, List.set_cons_zero, List.set_cons_succ]
    refine skip_at 17 rfl (by kernel_rfl) (by kernel_rfl) (by kernel_rfl) (fun _ _ _ h => h) (by rfl) (by assumption) ?_
    try simp only [Act.put, List.setIfInBounds_toArray, List.set_cons_zero, List.set_cons_succ]
    refine take_at 18 (v := ?_) rfl (by kernel_rfl) (by kernel_rfl) (by kernel_rfl) (fun _ _ _ h => h) (by rfl) ?_ (by assumption) ?_
    rotate_left
    · intro w hSw; (try dsimp only at hSw); go_simp; (try rw [if_neg (by assumption)]); (try rw [if_pos (by omega)]); (try simp only [hSw]); (try with_reducible rfl)
    try simp only [Act.put, List.setIfInBounds_toArray, List.set_cons_zero, List.set_cons_succ]
    refine take_at 19 (v := ?_) rfl (by kernel_rfl) (by kernel_rfl) (by kernel_rfl) (fun _ _ _ h => h) (by rfl) ?_ (by assumption) ?_
    rotate_left
    · intro w hSw; (try dsimp only at hSw); go_simp; (try rw [if_neg (by assumption)]); (try rw [if_pos (by omega)]); (try simp only [hSw]); (try with_reducible rfl)
    try simp only [Act.put, List.setIfInBounds_toArray, List.set_cons_zero, List.set_cons_succ]
    refine wpAnyH_done (by kernel_rfl) ?_ _
    go_wp2_with fail
    go_ret
    exact ⟨ret_bool HE.out.symm, ((KeptM.of_below HV.out).trans (KeptM.of_below (B1.out))).trans (HK.out.mono (by simp)), fun h => by rw [HE.out] at h; cases h⟩
  · have HR := Lib.hid hr
    have HE := Lib.hid (show enumOk s q = recOk s.conKeys q.cons by rw [enumOk, hr]; rfl)
    clear hr
    refine only_at 8 (by kernel_rfl) rfl (fun K hK => ?_)
    go_simp
    (go_at_call 43
     (with_reducible refine (recordS_any HS1.out.me (sh_unit _) (strs_one NX.out HNL.out)).mono ?_)
     rintro e w7 ⟨he, hk, hm⟩
     rw [keys_unit, HR.out] at he
     subst he
     obtain ⟨V3, rfl⟩ : ∃ W, W = w7 := ⟨_, rfl⟩
     have HK := Lib.hid hk
     have HM := Lib.hid (hm (by rw [keys_unit]; exact HR.out))
     obtain ⟨x0, x1, _, _⟩ := rowM4 (box_put HS1.out.me hk HS1.out.box)
     have BX3 := Lib.hid (box_put HS1.out.me hk (box_next B1.out BX.out))
     obtain ⟨y0, y1⟩ := row2 BX3.out
     clear hk hm)
    refine hK.out _ _ ?_ (fun hHeld => ?_)
    · (try dsimp only); go_keep
    clear hK K
    try simp only [Act.put, List.setIfInBounds_toArray, List.set_cons_zero, List.set_cons_succ]
    have HS3 := Lib.hid (HS1.out.putE (l := s.enums ++ [q.name]) HK.out (by have := HM.out; rwa [show (.agg #[] : Value) = unitV from rfl, with_app] at this))
    have HC3 := Lib.hid (((HCS.out.under HV.out).under B1.out).kept HS1.out.me HK.out)
    obtain ⟨lc, hmc, hrc⟩ := HS3.out.mc
    have HMC := Lib.hid hmc
    have HRC := Lib.hid hrc
    clear hmc hrc
    refine take_at 9 (v := ?_) rfl (by kernel_rfl) (by kernel_rfl) (by kernel_rfl) (fun _ _ _ h => h) (by rfl) ?_ (by assumption) ?_
    rotate_left
    · intro w hSw; (try dsimp only at hSw); go_simp; (try rw [if_neg (by assumption)]); (try rw [if_pos (by omega)]); (try simp only [hSw]); (try with_reducible rfl)
    try simp only [Act.put, List.setIfInBounds_toArray, List.set_cons_zero, List.set_cons_succ]
    refine take_at 10 (v := ?_) rfl (by kernel_rfl) (by kernel_rfl) (by kernel_rfl) (fun _ _ _ h => h) (by rfl) ?_ (by assumption) ?_
    rotate_left
    · intro w hSw; (try dsimp only at hSw); go_simp; (try rw [if_neg (by assumption)]); (try rw [if_pos (by omega)]); (try simp only [hSw]); (try with_reducible rfl)
    try simp only [Act.put, List.setIfInBounds_toArray, List.set_cons_zero, List.set_cons_succ]
    refine take_at 11 (v := ?_) rfl (by kernel_rfl) (by kernel_rfl) (by kernel_rfl) (fun _ _ _ h => h) (by rfl) ?_ (by assumption) ?_
    rotate_left
    · intro w hSw; (try dsimp only at hSw); go_simp; (try rw [if_neg (by assumption)]); (try rw [if_pos (by omega)]); (try simp only [hSw]); (try with_reducible rfl)
    try simp only [Act.put, List.setIfInBounds_toArray, List.set_cons_zero, List.set_cons_succ]
    refine take_at 12 (v := ?_) rfl (by kernel_rfl) (by kernel_rfl) (by kernel_rfl) (fun _ _ _ h => h) (by rfl) ?_ (by assumption) ?_
    rotate_left
    · intro w hSw; (try dsimp only at hSw); go_simp; (try rw [if_neg (by assumption)]); (try rw [if_pos (by omega)]); (try simp only [hSw]); (try with_reducible rfl)
    try simp only [Act.put, List.setIfInBounds_toArray, List.set_cons_zero, List.set_cons_succ]
    refine take_at 13 (v := ?_) rfl (by kernel_rfl) (by kernel_rfl) (by kernel_rfl) (fun _ _ _ h => h) (by rfl) ?_ (by assumption) ?_
    rotate_left
    · intro w hSw; (try dsimp only at hSw); go_simp; (try rw [if_neg (by assumption)]); (try rw [if_pos (by omega)]); (try simp only [hSw]); (try with_reducible rfl)
    try simp only [Act.put, List.setIfInBounds_toArray, List.set_cons_zero, List.set_cons_succ]
    refine take_at 14 (v := ?_) rfl (by kernel_rfl) (by kernel_rfl) (by kernel_rfl) (fun _ _ _ h => h) (by rfl) ?_ (by assumption) ?_
    rotate_left
    · intro w hSw; (try dsimp only at hSw); go_simp; (try rw [if_neg (by assumption)]); (try rw [if_pos (by omega)]); (try simp only [hSw]); (try with_reducible rfl)
    try simp only [Act.put, List.setIfInBounds_toArray, List.set_cons_zero, List.set_cons_succ]
    refine take_at 15 (v := ?_) rfl (by kernel_rfl) (by kernel_rfl) (by kernel_rfl) (fun _ _ _ h => h) (by rfl) ?_ (by assumption) ?_
    rotate_left
    · intro w hSw; (try dsimp only at hSw); go_simp; (try rw [if_neg (by assumption)]); (try rw [if_pos (by omega)]); (try simp only [hSw]); (try with_reducible rfl)
    try simp only [Act.put, List.setIfInBounds_toArray, List.set_cons_zero, List.set_cons_succ]
    refine take_at 16 (v := ?_) rfl (by kernel_rfl) (by kernel_rfl) (by kernel_rfl) (fun _ _ _ h => h) (by rfl) ?_ (by assumption) ?_
    rotate_left
    · intro w hSw; (try dsimp only at hSw); go_simp; (try rw [if_neg (by assumption)]); (try rw [if_pos (by omega)]); (try simp only [hSw]); (try with_reducible rfl)
    try simp only [Act.put, List.setIfInBounds_toArray, List.set_cons_zero, List.set_cons_succ]
    refine only_at 17 (by kernel_rfl) rfl (fun K hK => ?_)
    go_simp
    (go_at_call 42
     (with_reducible refine (recordE_any HMC.out HRC.out.sh HC3.out).mono ?_)
     rintro e w7 ⟨he, hk, hm⟩
     subst he
     obtain ⟨V4, rfl⟩ : ∃ W, W = w7 := ⟨_, rfl⟩
     have HK4 := Lib.hid hk
     have HM4 := Lib.hid hm
     obtain ⟨x0, x1, _, _⟩ := rowM4 (box_put HMC.out hk HS3.out.box)
     obtain ⟨y0, y1⟩ := row2 (box_put HMC.out hk BX3.out)
     clear hk hm)
    refine hK.out _ _ ?_ (fun hHeld => ?_)
    · (try dsimp only); go_keep
    clear hK K
    try simp only [Act.put, List.setIfInBounds_toArray, List.set_cons_zero, List.set_cons_succ]
    refine take_at 18 (v := ?_) rfl (by kernel_rfl) (by kernel_rfl) (by kernel_rfl) (fun _ _ _ h => h) (by rfl) ?_ (by assumption) ?_
    rotate_left
    · intro w hSw; (try dsimp only at hSw); go_simp; (try rw [if_neg (by assumption)]); (try rw [if_pos (by omega)]); (try simp only [hSw]); (try with_reducible rfl)
    try simp only [Act.put, List.setIfInBounds_toArray, List.set_cons_zero, List.set_cons_succ]
    refine take_at 19 (v := ?_) rfl (by kernel_rfl) (by kernel_rfl) (by kernel_rfl) (fun _ _ _ h => h) (by rfl) ?_ (by assumption) ?_
    rotate_left
    · intro w hSw; (try dsimp only at hSw); go_simp; (try rw [if_neg (by assumption)]); (try rw [if_pos (by omega)]); (try simp only [hSw]); (try with_reducible rfl)
    try simp only [Act.put, List.setIfInBounds_toArray, List.set_cons_zero, List.set_cons_succ]
    refine wpAnyH_done (by kernel_rfl) ?_ _
    go_wp2_with fail
    go_ret
    have hkey : recOk (keysOf lc) q.cons = enumOk s q := by rw [HE.out, HRC.out.1]; rfl
    refine ⟨ret_bool hkey, (((KeptM.of_below HV.out).trans (KeptM.of_below (B1.out))).trans (HK.out.mono (by simp))).trans (HK4.out.mono (by simp)), fun h => ?_⟩
    exact HS3.out.putC HMC.out HK4.out (HM4.out (hkey.trans h)) ((HRC.out.kept HMC.out HK4.out).snoc ⟨_, _, _, _, rfl, HC3.out.kept HMC.out HK4.out⟩)
end Go.Proofs.YtbpbnebcbjacdaaGreat
