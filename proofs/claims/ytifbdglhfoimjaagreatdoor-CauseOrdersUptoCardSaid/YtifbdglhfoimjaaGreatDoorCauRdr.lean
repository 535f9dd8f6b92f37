/-
  readers: of each item the items that it is a source of.
-/
import Derived.Test.YtifbdglhfoimjaaGreatDoorCauDefs
import Derived.Test.YtifbdglhfoimjaaGreatDoorIntMem
namespace Go.Proofs.YtifbdglhfoimjaaGreatDoor
open Go.RowKit

def RdrPost (S : List (List Nat)) (w : World) (e : Ending) (w' : World) : Prop := ∃ v R, e = .returned v ∧ MatAt w.heap.size w' v R ∧ RdrOk S S.length 0 R ∧ Below w.heap.size w w'
/-- no row is longer than what has been told -/
def FewR (n : Nat) (R : List (List Nat)) : Prop := ∀ d, (R.getD d []).length ≤ n
theorem FewR.more {n d x : Nat} {R : List (List Nat)} (h : FewR n R) : FewR (n + 1) (R.set d (R.getD d [] ++ [x])) := fun d' => by
  rw [List.getD_eq_getElem?_getD, List.getElem?_set]
  by_cases e : d = d'
  · rw [if_pos e]
    split
    · have := h d
      simp only [Option.getD_some, List.length_append, List.length_cons, List.length_nil]
      omega
    · simp
  · rw [if_neg e, ← List.getD_eq_getElem?_getD]
    have := h d'
    omega
theorem flat_take {S : List (List Nat)} {k : Nat} {l : List Nat} (h : S[k]? = some l) : (S.take (k + 1)).flatten.length = (S.take k).flatten.length + l.length := by
  rw [take_snoc h, List.flatten_append]
  simp
theorem flat_take_le (S : List (List Nat)) (k : Nat) : (S.take k).flatten.length ≤ S.flatten.length := by
  have : S.flatten = (S.take k).flatten ++ (S.drop k).flatten := by rw [← List.flatten_append, List.take_append_drop]
  rw [this, List.length_append]
  omega
set_option maxHeartbeats 4000000 in
set_option maxRecDepth 100000 in
theorem readers_any {w : World} {v : Value} {S : List (List Nat)} (h : RowsAt (fun _ => True) w v S) (hlt : ∀ l ∈ S, ∀ d ∈ l, d < S.length) (hn : S.length ≤ 1048576) (hf : S.flatten.length ≤ 2097152) : Calls Tryz.prog 30 #[v] w (RdrPost S w) := by
  have HR := Lib.hid h
  obtain ⟨A, c, rfl, _, _, _⟩ := h
  have HLT := Lib.hid hlt
  have HF := Lib.hid hf
  have hms := make_run (t := 54) (e := 33) Tryz.underlying54 ints_info rfl (by decide) hn
  have HMAT := Lib.hid (MatAt.made (w := w) (B := w.heap.size) (Nat.le_refl _) hn)
  have HB0 := Lib.hid ((Below.refl w.heap.size w).alloc (Nat.le_refl _) (.cells (List.replicate S.length (.slice none 0 0)).toArray 33))
  clear hlt hf
  go_enter Tryz.func30, Tryz.ntmps30
  go_wp2_with fail
  clear hms
  go_loopg [13] S.length (fun g v wr => ∃ (k : Nat) (R : List (List Nat)), k + g = S.length ∧ v = .int .i64 k ∧ MatAt w.heap.size wr (.slice (some ⟨w.heap.size, 0, none⟩) S.length S.length) R ∧ RdrOk S k 0 R ∧ FewR ((S.take k).flatten.length) R ∧ Below w.heap.size w wr)
  case atStart => exact ⟨0, _, by omega, rfl, HMAT.out, RdrOk.start S, fun d => by
    have : (List.replicate S.length ([] : List Nat)).getD d [] = [] := by rw [List.getD_eq_getElem?_getD, List.getElem?_replicate]; split <;> rfl
    rw [this]
    exact Nat.zero_le _, HB0.out⟩
  case round =>
    obtain ⟨k, R, hkg, rfl, hmat, hrk, hfew, hbw⟩ := hrel
    obtain ⟨wq, rfl⟩ : ∃ W, W = wr := ⟨_, rfl⟩
    have HK := Lib.hid hkg
    have HMT := Lib.hid hmat
    have HRK := Lib.hid hrk
    have HFW := Lib.hid hfew
    have HW := Lib.hid hbw
    have hkl : k ≤ S.length := by omega
    clear hkg hmat hrk hfew hbw
    by_cases hlt : k < S.length
    · obtain ⟨l, hl⟩ : ∃ l, S[k]? = some l := ⟨_, List.getElem?_eq_getElem hlt⟩
      have HLI := Lib.hid hl
      obtain ⟨A', c', e, _, _, he⟩ := HR.out
      injection e with e1 e2 e3
      subst e1 e3
      clear e2
      obtain ⟨g, o, rfl, _, A2, c2, r00, hc2, hm2, hrow⟩ := he k l hl
      have r0 : wq.cell? ⟨g, o + k, none⟩ = some (.slice A2 l.length c2) := (HW.out.cell (p := ⟨g, o + k, none⟩) (World.block_lt_of_cell? w ⟨g, o + k, none⟩ r00)).trans r00
      have HROW := Lib.hid hrow
      have hll : l.length ≤ 9223372036854775807 := by unfold maxLen at hm2; omega
      clear hl he hrow hm2 r00
      go_wp2_with fail
      clear r0
      go_loopg [20] l.length (fun g v wr => ∃ (j : Nat) (R : List (List Nat)), j + g = l.length ∧ v = .int .i64 j ∧ MatAt w.heap.size wr (.slice (some ⟨w.heap.size, 0, none⟩) S.length S.length) R ∧ RdrOk S k j R ∧ FewR ((S.take k).flatten.length + j) R ∧ Below w.heap.size w wr)
      case atStart => exact ⟨0, R, by omega, rfl, HMT.out, HRK.out, HFW.out, HW.out⟩
      case round =>
        obtain ⟨j, R, hjg, rfl, hmat, hrk, hfew, hbw⟩ := hrel
        obtain ⟨wz, rfl⟩ : ∃ W, W = wr := ⟨_, rfl⟩
        have HJ := Lib.hid hjg
        have HTZ := Lib.hid hmat
        have HRZ := Lib.hid hrk
        have HFZ := Lib.hid hfew
        have HWZ := Lib.hid hbw
        have hjl : j ≤ l.length := by omega
        clear hjg hmat hrk hfew hbw
        by_cases hjt : j < l.length
        · obtain ⟨d, hd⟩ : ∃ d, l[j]? = some d := ⟨_, List.getElem?_eq_getElem hjt⟩
          have hdl := HLT.out l (List.mem_of_getElem? HLI.out) d (List.mem_of_getElem? hd)
          have HDI := Lib.hid hd
          have HDL := Lib.hid hdl
          obtain ⟨g', o', rfl, _, q00⟩ := HROW.out j d hd
          have q0 : wz.cell? ⟨g', o' + j, none⟩ = some (.int .i64 (d : Int)) := (HWZ.out.cell (p := ⟨g', o' + j, none⟩) (World.block_lt_of_cell? w ⟨g', o' + j, none⟩ q00)).trans q00
          have hRd : R[d]? = some (R.getD d []) := by rw [List.getD_eq_getElem?_getD, List.getElem?_eq_getElem (by rw [HRZ.out.1]; exact hdl)]; rfl
          have HFL := Lib.hid (show (natI (R.getD d [])).length ≤ 4194304 by
            rw [natI_len]
            have h1 := HFZ.out d
            have h2 := flat_take HLI.out
            have h3 := flat_take_le S (k + 1)
            have h4 := HF.out
            omega)
          obtain ⟨u, r0, r1, hO, hne, hstep⟩ := HTZ.out.row hRd
          have HOU := Lib.hid (hO.under ((Below.refl wz.heap.size wz).alloc (Nat.le_refl _) (.cells #[.int .i64 (k : Int)] 3)))
          have HNE := Lib.hid hne
          have HSTEP := Lib.hid (hstep k)
          obtain ⟨hSB0, hSBl, cur, hcur⟩ := HTZ.out.blk
          have HCUR := Lib.hid hcur
          have hcu : cur[d]? = some u := by rw [← cell_of_row _ _ _ _ _ _ hcur]; exact r0
          have HBA := Lib.hid ((Below.refl wz.heap.size wz).alloc (Nat.le_refl _) (.cells #[.int .i64 (k : Int)] 3))
          clear hd hO hne hstep hcur hSB0 hRd q00
          go_wp2_with (at_builtin
                       refine app_num 33 Tryz.underlying33 rfl _ _ rfl rfl rfl (heap_alloc_new _ _) HOU.out HFL.out ?_ ?_
                       · have := HWZ.out.size; simp; omega
                       intro v5 w5 h5
                       obtain ⟨V5, rfl⟩ : ∃ W, W = w5 := ⟨_, rfl⟩
                       replace h5 : AppN w.heap.size (natI (R.getD d [] ++ [k])) u (wz.alloc (.cells #[.int .i64 (k : Int)] 3)) v5 V5 := by rw [natI_snoc]; exact h5
                       obtain ⟨A5, n5, c5, rfl, rfl⟩ := h5.own.shape
                       have HST := Lib.hid (HSTEP.out _ _ _ HBA.out h5)
                       have HGR := Lib.hid (h5.below HOU.out (Nat.le_trans HWZ.out.size HBA.out.size))
                       have hV : V5.heap[w.heap.size]? = some (.cells cur 33 (0, 0)) := (h5.grown.block _ (by simp; omega) (fun e => HNE.out e.symm)).trans (alloc_below HCUR.out)
                       have s0 : V5.cell? ⟨w.heap.size, d, none⟩ = some u := by rw [cell_of_row _ _ _ _ _ _ hV]; exact hcu
                       have f5 := row_frz hV d
                       clear h5 hV)
          have HBF := Lib.hid (((HWZ.out.trans (HBA.out.mono HWZ.out.size)).trans HGR.out).setCell (p := ⟨w.heap.size, d, none⟩) (Nat.le_refl _) (.slice A5 (natI (R.getD d [] ++ [k])).length c5))
          go_roundg (l.length - (j + 1))
          case measure => have := HJ.out; omega
          case rel => exact ⟨j + 1, _, by omega, by go_num, HST.out.1, HRZ.out.more HLI.out HDI.out HDL.out, HFZ.out.more, HBF.out⟩
        · have hje : j = l.length := by omega
          have HRN := Lib.hid (show RdrOk S (k + 1) 0 R from RdrOk.next (by have := HRZ.out; rwa [hje] at this) HLI.out)
          have HFN := Lib.hid (show FewR ((S.take (k + 1)).flatten.length) R by rw [flat_take HLI.out, ← hje]; exact HFZ.out)
          clear hje
          go_wp2_with fail
          go_roundg (S.length - (k + 1))
          case measure => have := HK.out; omega
          case rel => exact ⟨k + 1, R, by omega, by go_num, HTZ.out, HRN.out, HFN.out, HWZ.out⟩
    · have hke : k = S.length := by omega
      have HRE := Lib.hid (show RdrOk S S.length 0 R by rw [← hke]; exact HRK.out)
      clear hke
      go_wp2_with fail
      go_ret
      exact ⟨_, R, rfl, HMT.out, HRE.out, HW.out⟩
end Go.Proofs.YtifbdglhfoimjaaGreatDoor
