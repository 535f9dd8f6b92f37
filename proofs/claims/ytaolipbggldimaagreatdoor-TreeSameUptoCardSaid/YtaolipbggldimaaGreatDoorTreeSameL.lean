/-
  TreeSame's walk, and TreeSame at what came in.
-/
import Derived.Test.YtaolipbggldimaaGreatDoorTreeRSam
import Derived.Test.YtaolipbggldimaaGreatDoorTreeUniq
import Derived.Test.YtaolipbggldimaaGreatDoorTreePrint
import Derived.Test.YtaolipbggldimaaGreatDoorTreeWt
import Derived.Test.YtaolipbggldimaaGreatDoorTreeLaid
namespace Go.Proofs.YtaolipbggldimaaGreatDoor
open Go.RowKit

def Lv (b : Bool) (w : World) (e : Ending) (w' : World) : Prop := e = .returned (.bool b) ∧ Below w.heap.size w w'
theorem print_some {w0 : World} (htab : Tab w0) {p : QProg} {L : List Value} (hL : ProgAt w0 L p) (hq : ∀ x ∈ p.nodes, (nodeX x).length ≤ 1048576) (hs : SizeOk (progT p)) : ∃ (S : Tx), ∀ w, Below w0.heap.size w0 w →
    Calls Tryz.prog 21 #[.agg L.toArray] w fun e w' => e = .returned (.tuple #[.string (str S), .int .i64 (rightL false p)]) ∧ Below w.heap.size w w' := by
  by_cases h : rightL false p = 0
  · rw [h]; exact ⟨_, fun w hb => print_ok htab hL hq hs h hb⟩
  · exact ⟨[], fun w hb => print_no htab hL hq hs rfl h hb⟩
theorem texts_same {p q : QProg} (hp : rightL false p = 0) (hq : rightL false q = 0) (bp : bndP p) (bq : bndP q) : spellL (progT p) = spellL (progT q) ↔ p = q := by
  refine ⟨fun h => ?_, fun h => by rw [h]⟩
  have h1 := prog_ok (right_of_0 hp) bp
  have h2 := prog_ok (right_of_0 hq) bq
  exact progs_told (right_of_0 hp) (right_of_0 hq) (spell_inj _ _ (fun t ht => ok_word (h1.1 t ht)) (fun t ht => ok_word (h2.1 t ht)) h)

set_option maxHeartbeats 4000000 in
set_option maxRecDepth 100000 in
/-- the walk, whatever the two prints answer -/
theorem same_walk {w : World} (htab : Tab w) {p q : QProg} {A1 A2 B1 B2 : Option Addr} {n1 k1 n2 k2 m1 j1 m2 j2 : Nat} (hL : ProgAt w [.slice A1 n1 k1, .slice A2 n2 k2] p) (hM : ProgAt w [.slice B1 m1 j1, .slice B2 m2 j2] q) {S T : Tx} {g h : Int} {b : Bool}
    (hs : sameQProg p q = b)
    (HP : ∀ W, Below w.heap.size w W → Calls Tryz.prog 21 #[.agg #[.slice A1 n1 k1, .slice A2 n2 k2]] W fun e w' => e = .returned (.tuple #[.string (str S), .int .i64 g]) ∧ Below W.heap.size W w')
    (HR : ∀ W, Below w.heap.size w W → Calls Tryz.prog 21 #[.agg #[.slice B1 m1 j1, .slice B2 m2 j2]] W fun e w' => e = .returned (.tuple #[.string (str T), .int .i64 h]) ∧ Below W.heap.size W w')
    (hd : (g ≠ 0) ∨ (g = 0 ∧ h ≠ 0) ∨ (g = 0 ∧ h = 0 ∧ ((str S).toList == (str T).toList) = b)) :
    Calls Tryz.prog 6 #[.agg #[.slice A1 n1 k1, .slice A2 n2 k2], .agg #[.slice B1 m1 j1, .slice B2 m2 j2]] w (Lived w) := by
  have HTB := Lib.hid htab
  have HAB := Lib.hid (show ∀ W, Below w.heap.size w W → Calls Tryz.prog 23 #[.agg #[.slice A1 n1 k1, .slice A2 n2 k2], .agg #[.slice B1 m1 j1, .slice B2 m2 j2]] W (Lv b W) from fun W hW => by have := same_any hL hM W hW; rwa [hs] at this)
  have HAA := Lib.hid (show ∀ W, Below w.heap.size w W → Calls Tryz.prog 23 #[.agg #[.slice A1 n1 k1, .slice A2 n2 k2], .agg #[.slice A1 n1 k1, .slice A2 n2 k2]] W (Lv true W) from fun W hW => by have := same_any hL hL W hW; rwa [(sameQProg_iff p p).2 rfl] at this)
  have HRR := Lib.hid (show ∀ W, Below w.heap.size w W → Calls Tryz.prog 24 #[.agg #[.slice A1 n1 k1, .slice A2 n2 k2], .agg #[.slice B1 m1 j1, .slice B2 m2 j2]] W (Lv b W) from fun W hW => by have := rSame_any hL hM W hW; rwa [hs] at this)
  have HP := Lib.hid HP
  have HR := Lib.hid HR
  have HD := Lib.hid hd
  clear hL hM hs hd htab
  go_enter Tryz.func6, Tryz.ntmps6
  go_wp2_with fail
  generalize hV : (w.alloc (.cells #[.slice A1 n1 k1, .slice A2 n2 k2] 33)).alloc (.cells #[.slice B1 m1 j1, .slice B2 m2 j2] 33) = V
  have BA := Lib.hid (show V.heap[w.heap.size]? = some (.cells #[.slice A1 n1 k1, .slice A2 n2 k2] 33 (0, 0)) by rw [← hV]; exact alloc_below (alloc_at rfl))
  have BB := Lib.hid (show V.heap[w.heap.size + 1]? = some (.cells #[.slice B1 m1 j1, .slice B2 m2 j2] 33 (0, 0)) by rw [← hV]; exact alloc_at (by simp))
  have HV := Lib.hid (show Below w.heap.size w V by rw [← hV]; exact ((Below.refl _ w).alloc (Nat.le_refl _) _).alloc (by simp) _)
  clear hV
  obtain ⟨p0, p1⟩ := row2 BA.out
  obtain ⟨r0, r1⟩ := row2 BB.out
  refine wp_region_held_drew (S := (fun W => W.cell? ⟨w.heap.size, 0, none⟩ = some (.slice A1 n1 k1) ∧ W.cell? ⟨w.heap.size, 1, none⟩ = some (.slice A2 n2 k2) ∧ W.cell? ⟨w.heap.size + 1, 0, none⟩ = some (.slice B1 m1 j1) ∧ W.cell? ⟨w.heap.size + 1, 1, none⟩ = some (.slice B2 m2 j2))) (by kernel_rfl) ?_ (fun hHeld => ?_)
  · (try dsimp only); go_keep
  refine only_at 0 (by kernel_rfl) rfl (fun K hK => ?_)
  go_simp
  (go_at_call 10
   refine (lives_any _ (HTB.out.under (HV.out.drew))).mono ?_
   rintro e w7 ⟨rfl, hb7⟩
   obtain ⟨z0, rfl⟩ : ∃ W, W = w7 := ⟨_, rfl⟩
   have G0 := Lib.hid ((Below.refl V.heap.size V).drew.trans hb7)
   obtain ⟨p0, p1⟩ := row2 (box_next G0.out BA.out)
   obtain ⟨r0, r1⟩ := row2 (box_next G0.out BB.out)
   clear hb7)
  refine hK.out _ _ ?_ (fun hHeld => ?_)
  · (try dsimp only); go_keep
  clear hK K
  try simp only [Act.put, List.setIfInBounds_toArray, List.set_cons_zero, List.set_cons_succ]
  refine take_at 1 (v := ?_) rfl (by kernel_rfl) (by kernel_rfl) (by kernel_rfl) (fun _ _ _ h => h) (by rfl) ?_ (by assumption) ?_
  rotate_left
  · intro w hSw; (try dsimp only at hSw); go_simp; (try with_reducible rfl)
  try simp only [Act.put, List.setIfInBounds_toArray, List.set_cons_zero, List.set_cons_succ]
  refine take_at 2 (v := ?_) rfl (by kernel_rfl) (by kernel_rfl) (by kernel_rfl) (fun _ _ _ h => h) (by rfl) ?_ (by assumption) ?_
  rotate_left
  · intro w hSw; (try dsimp only at hSw); go_simp; (try with_reducible rfl)
  try simp only [Act.put, List.setIfInBounds_toArray, List.set_cons_zero, List.set_cons_succ]
  refine take_at 3 (v := ?_) rfl (by kernel_rfl) (by kernel_rfl) (by kernel_rfl) (fun _ _ _ h => h) (by rfl) ?_ (by assumption) ?_
  rotate_left
  · intro w hSw; (try dsimp only at hSw); go_simp; (try with_reducible rfl)
  try simp only [Act.put, List.setIfInBounds_toArray, List.set_cons_zero, List.set_cons_succ]
  refine take_at 4 (v := ?_) rfl (by kernel_rfl) (by kernel_rfl) (by kernel_rfl) (fun _ _ _ h => h) (by rfl) ?_ (by assumption) ?_
  rotate_left
  · intro w hSw; (try dsimp only at hSw); go_simp; (try with_reducible rfl)
  try simp only [Act.put, List.setIfInBounds_toArray, List.set_cons_zero, List.set_cons_succ]
  refine take_at 6 (v := ?_) rfl (by kernel_rfl) (by kernel_rfl) (by kernel_rfl) (fun _ _ _ h => h) (by rfl) ?_ (by assumption) ?_
  rotate_left
  · intro w hSw; (try dsimp only at hSw); go_simp; (try with_reducible rfl)
  try simp only [Act.put, List.setIfInBounds_toArray, List.set_cons_zero, List.set_cons_succ]
  refine take_at 7 (v := ?_) rfl (by kernel_rfl) (by kernel_rfl) (by kernel_rfl) (fun _ _ _ h => h) (by rfl) ?_ (by assumption) ?_
  rotate_left
  · intro w hSw; (try dsimp only at hSw); go_simp; (try with_reducible rfl)
  try simp only [Act.put, List.setIfInBounds_toArray, List.set_cons_zero, List.set_cons_succ]
  refine only_at 5 (by kernel_rfl) rfl (fun K hK => ?_)
  go_simp
  (go_at_call 23
   (with_reducible refine (HAB.out _ (HV.out.trans (G0.out.mono HV.out.size))).mono ?_)
   rintro e w7 ⟨rfl, hb7⟩
   obtain ⟨z1, rfl⟩ : ∃ W, W = w7 := ⟨_, rfl⟩
   have G1 := Lib.hid (G0.out.trans (hb7.mono G0.out.size))
   obtain ⟨p0, p1⟩ := row2 (box_next G1.out BA.out)
   obtain ⟨r0, r1⟩ := row2 (box_next G1.out BB.out)
   clear hb7)
  refine hK.out _ _ ?_ (fun hHeld => ?_)
  · (try dsimp only); go_keep
  clear hK K
  try simp only [Act.put, List.setIfInBounds_toArray, List.set_cons_zero, List.set_cons_succ]
  refine only_at 8 (by kernel_rfl) rfl (fun K hK => ?_)
  go_simp
  (go_at_call 24
   (with_reducible refine (HRR.out _ (HV.out.trans (G1.out.mono HV.out.size))).mono ?_)
   rintro e w7 ⟨rfl, hb7⟩
   obtain ⟨z2, rfl⟩ : ∃ W, W = w7 := ⟨_, rfl⟩
   have G2 := Lib.hid (G1.out.trans (hb7.mono G1.out.size))
   obtain ⟨p0, p1⟩ := row2 (box_next G2.out BA.out)
   obtain ⟨r0, r1⟩ := row2 (box_next G2.out BB.out)
   clear hb7)
  refine hK.out _ _ ?_ (fun hHeld => ?_)
  · (try dsimp only); go_keep
  clear hK K
  try simp only [Act.put, List.setIfInBounds_toArray, List.set_cons_zero, List.set_cons_succ]
  refine take_at 9 (v := ?_) rfl (by kernel_rfl) (by kernel_rfl) (by kernel_rfl) (fun _ _ _ h => h) (by rfl) ?_ (by assumption) ?_
  rotate_left
  · intro w hSw; (try dsimp only at hSw); go_simp; (try with_reducible rfl)
  try simp only [Act.put, List.setIfInBounds_toArray, List.set_cons_zero, List.set_cons_succ]
  refine take_at 10 (v := ?_) rfl (by kernel_rfl) (by kernel_rfl) (by kernel_rfl) (fun _ _ _ h => h) (by rfl) ?_ (by assumption) ?_
  rotate_left
  · intro w hSw; (try dsimp only at hSw); go_simp; (try with_reducible rfl)
  try simp only [Act.put, List.setIfInBounds_toArray, List.set_cons_zero, List.set_cons_succ]
  refine take_at 11 (v := ?_) rfl (by kernel_rfl) (by kernel_rfl) (by kernel_rfl) (fun _ _ _ h => h) (by rfl) ?_ (by assumption) ?_
  rotate_left
  · intro w hSw; (try dsimp only at hSw); go_simp; (try with_reducible rfl)
  try simp only [Act.put, List.setIfInBounds_toArray, List.set_cons_zero, List.set_cons_succ]
  refine take_at 12 (v := ?_) rfl (by kernel_rfl) (by kernel_rfl) (by kernel_rfl) (fun _ _ _ h => h) (by rfl) ?_ (by assumption) ?_
  rotate_left
  · intro w hSw; (try dsimp only at hSw); go_simp; (try with_reducible rfl)
  try simp only [Act.put, List.setIfInBounds_toArray, List.set_cons_zero, List.set_cons_succ]
  refine take_at 13 (v := ?_) rfl (by kernel_rfl) (by kernel_rfl) (by kernel_rfl) (fun _ _ _ h => h) (by rfl) ?_ (by assumption) ?_
  rotate_left
  · intro w hSw; (try dsimp only at hSw); go_simp; (try with_reducible rfl)
  try simp only [Act.put, List.setIfInBounds_toArray, List.set_cons_zero, List.set_cons_succ]
  refine only_at 14 (by kernel_rfl) rfl (fun K hK => ?_)
  go_simp
  (go_at_call 23
   (with_reducible refine (HAA.out _ (HV.out.trans (G2.out.mono HV.out.size))).mono ?_)
   rintro e w7 ⟨rfl, hb7⟩
   obtain ⟨z3, rfl⟩ : ∃ W, W = w7 := ⟨_, rfl⟩
   have G3 := Lib.hid (G2.out.trans (hb7.mono G2.out.size))
   obtain ⟨p0, p1⟩ := row2 (box_next G3.out BA.out)
   obtain ⟨r0, r1⟩ := row2 (box_next G3.out BB.out)
   clear hb7)
  refine hK.out _ _ ?_ (fun hHeld => ?_)
  · (try dsimp only); go_keep
  clear hK K
  try simp only [Act.put, List.setIfInBounds_toArray, List.set_cons_zero, List.set_cons_succ]
  refine take_at 15 (v := ?_) rfl (by kernel_rfl) (by kernel_rfl) (by kernel_rfl) (fun _ _ _ h => h) (by rfl) ?_ (by assumption) ?_
  rotate_left
  · intro w hSw; (try dsimp only at hSw); go_simp; (try with_reducible rfl)
  try simp only [Act.put, List.setIfInBounds_toArray, List.set_cons_zero, List.set_cons_succ]
  refine take_at 16 (v := ?_) rfl (by kernel_rfl) (by kernel_rfl) (by kernel_rfl) (fun _ _ _ h => h) (by rfl) ?_ (by assumption) ?_
  rotate_left
  · intro w hSw; (try dsimp only at hSw); go_simp; (try with_reducible rfl)
  try simp only [Act.put, List.setIfInBounds_toArray, List.set_cons_zero, List.set_cons_succ]
  refine wpAnyH_done (by kernel_rfl) ?_ _
  rcases HD.out with hg | ⟨rfl, hh⟩ | ⟨rfl, rfl, hb⟩
  · have e1 : (g != 0) = true := by simpa using hg
    have e2 : (g == 0) = false := by simpa using hg
    clear hg HD
    go_wp2_with (first
      | (go_at_call 21
         (with_reducible refine (HP.out _ (HV.out.trans (G3.out.mono HV.out.size))).mono ?_)
         rintro e w7 ⟨rfl, hb7⟩
         obtain ⟨z4, rfl⟩ : ∃ W, W = w7 := ⟨_, rfl⟩
         have G4 := Lib.hid (G3.out.trans (hb7.mono G3.out.size))
         obtain ⟨p0, p1⟩ := row2 (box_next G4.out BA.out)
         obtain ⟨r0, r1⟩ := row2 (box_next G4.out BB.out)
         clear hb7)
      | (go_at_call 21
         (with_reducible refine (HR.out _ (HV.out.trans (G4.out.mono HV.out.size))).mono ?_)
         rintro e w7 ⟨rfl, hb7⟩
         obtain ⟨z5, rfl⟩ : ∃ W, W = w7 := ⟨_, rfl⟩
         have G5 := Lib.hid (G4.out.trans (hb7.mono G4.out.size))
         obtain ⟨p0, p1⟩ := row2 (box_next G5.out BA.out)
         obtain ⟨r0, r1⟩ := row2 (box_next G5.out BB.out)
         clear hb7)
      | (go_at_call 23
         (with_reducible refine (HAB.out _ (HV.out.trans (G5.out.mono HV.out.size))).mono ?_)
         rintro e w7 ⟨rfl, hb7⟩
         obtain ⟨z6, rfl⟩ : ∃ W, W = w7 := ⟨_, rfl⟩
         have G6 := Lib.hid (G5.out.trans (hb7.mono G5.out.size))
         clear hb7))
    go_ret
    exact ⟨rfl, HV.out.trans (G5.out.mono HV.out.size)⟩
  · have e1 : (h != 0) = true := by simpa using hh
    have e2 : (h == 0) = false := by simpa using hh
    clear hh HD
    go_wp2_with (first
      | (go_at_call 21
         (with_reducible refine (HP.out _ (HV.out.trans (G3.out.mono HV.out.size))).mono ?_)
         rintro e w7 ⟨rfl, hb7⟩
         obtain ⟨z4, rfl⟩ : ∃ W, W = w7 := ⟨_, rfl⟩
         have G4 := Lib.hid (G3.out.trans (hb7.mono G3.out.size))
         obtain ⟨p0, p1⟩ := row2 (box_next G4.out BA.out)
         obtain ⟨r0, r1⟩ := row2 (box_next G4.out BB.out)
         clear hb7)
      | (go_at_call 21
         (with_reducible refine (HR.out _ (HV.out.trans (G4.out.mono HV.out.size))).mono ?_)
         rintro e w7 ⟨rfl, hb7⟩
         obtain ⟨z5, rfl⟩ : ∃ W, W = w7 := ⟨_, rfl⟩
         have G5 := Lib.hid (G4.out.trans (hb7.mono G4.out.size))
         obtain ⟨p0, p1⟩ := row2 (box_next G5.out BA.out)
         obtain ⟨r0, r1⟩ := row2 (box_next G5.out BB.out)
         clear hb7)
      | (go_at_call 23
         (with_reducible refine (HAB.out _ (HV.out.trans (G5.out.mono HV.out.size))).mono ?_)
         rintro e w7 ⟨rfl, hb7⟩
         obtain ⟨z6, rfl⟩ : ∃ W, W = w7 := ⟨_, rfl⟩
         have G6 := Lib.hid (G5.out.trans (hb7.mono G5.out.size))
         clear hb7))
    go_ret
    exact ⟨rfl, HV.out.trans (G5.out.mono HV.out.size)⟩
  · have HB := Lib.hid hb
    clear hb HD
    go_wp2_with (first
      | (go_at_call 21
         (with_reducible refine (HP.out _ (HV.out.trans (G3.out.mono HV.out.size))).mono ?_)
         rintro e w7 ⟨rfl, hb7⟩
         obtain ⟨z4, rfl⟩ : ∃ W, W = w7 := ⟨_, rfl⟩
         have G4 := Lib.hid (G3.out.trans (hb7.mono G3.out.size))
         obtain ⟨p0, p1⟩ := row2 (box_next G4.out BA.out)
         obtain ⟨r0, r1⟩ := row2 (box_next G4.out BB.out)
         clear hb7)
      | (go_at_call 21
         (with_reducible refine (HR.out _ (HV.out.trans (G4.out.mono HV.out.size))).mono ?_)
         rintro e w7 ⟨rfl, hb7⟩
         obtain ⟨z5, rfl⟩ : ∃ W, W = w7 := ⟨_, rfl⟩
         have G5 := Lib.hid (G4.out.trans (hb7.mono G4.out.size))
         obtain ⟨p0, p1⟩ := row2 (box_next G5.out BA.out)
         obtain ⟨r0, r1⟩ := row2 (box_next G5.out BB.out)
         clear hb7)
      | (go_at_call 23
         (with_reducible refine (HAB.out _ (HV.out.trans (G5.out.mono HV.out.size))).mono ?_)
         rintro e w7 ⟨rfl, hb7⟩
         obtain ⟨z6, rfl⟩ : ∃ W, W = w7 := ⟨_, rfl⟩
         have G6 := Lib.hid (G5.out.trans (hb7.mono G5.out.size))
         clear hb7))
    go_ret
    exact ⟨ret_bool (by rw [HB.out]; simp), HV.out.trans (G6.out.mono HV.out.size)⟩
theorem laid_same {W : World} (h : laidMetH Tryz.prog Rows.treeSameUptoRow.laid W) : Tab W := by
  have h : laidMet Tryz.prog Rows.treeSameUptoRow.laid W := h
  exact tab_head h.tail.tail
theorem same_law (L : List Value) (p : QProg) (M : List Value) (q : QProg) (w : World) (hL : ProgAt w L p) (hp : wProg p ≤ 1048576) (hM : ProgAt w M q) (hq : wProg q ≤ 1048576) (htab : Tab w) : Calls Tryz.prog 6 #[.agg L.toArray, .agg M.toArray] w (Lived w) := by
  have sp := prog_size hL.i64 hp
  have sq := prog_size hM.i64 hq
  by_cases h1 : rightL false p = 0
  · by_cases h2 : rightL false q = 0
    · have HP := fun W hW => print_ok htab hL (prog_few hp) sp h1 (w := W) hW
      have HR := fun W hW => print_ok htab hM (prog_few hq) sq h2 (w := W) hW
      have hts := texts_same h1 h2 hL.i64.bnd hM.i64.bnd
      have hb : ((str (spellL (progT p))).toList == (str (spellL (progT q))).toList) = sameQProg p q := by
        rw [str_toL, str_toL, Bool.eq_iff_iff, sameQProg_iff, ← hts]
        simp
      obtain ⟨A1, n1, k1, A2, n2, k2, rfl⟩ := hL.shape
      obtain ⟨B1, m1, j1, B2, m2, j2, rfl⟩ := hM.shape
      exact same_walk htab hL hM rfl HP HR (.inr (.inr ⟨rfl, rfl, hb⟩))
    · have HP := fun W hW => print_ok htab hL (prog_few hp) sp h1 (w := W) hW
      have HR := fun W hW => print_no htab hM (prog_few hq) sq rfl h2 (w := W) hW
      obtain ⟨A1, n1, k1, A2, n2, k2, rfl⟩ := hL.shape
      obtain ⟨B1, m1, j1, B2, m2, j2, rfl⟩ := hM.shape
      exact same_walk (T := []) htab hL hM rfl HP HR (.inr (.inl ⟨rfl, h2⟩))
  · have HP := fun W hW => print_no htab hL (prog_few hp) sp rfl h1 (w := W) hW
    obtain ⟨T, HR⟩ := print_some htab hM (prog_few hq) sq
    obtain ⟨A1, n1, k1, A2, n2, k2, rfl⟩ := hL.shape
    obtain ⟨B1, m1, j1, B2, m2, j2, rfl⟩ := hM.shape
    exact same_walk (S := []) htab hL hM rfl HP HR (.inl h1)
end Go.Proofs.YtaolipbggldimaaGreatDoor
