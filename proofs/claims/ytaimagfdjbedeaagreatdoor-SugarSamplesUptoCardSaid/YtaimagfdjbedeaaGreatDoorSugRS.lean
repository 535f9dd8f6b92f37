/-
  The reference's Sample, whatever the tree: what comes shares the old tree's lists and variables.
-/
import Derived.Test.YtaimagfdjbedeaaGreatDoorJoinW
import Derived.Test.YtaimagfdjbedeaaGreatDoorOwnL
import Derived.Test.YtaimagfdjbedeaaGreatDoorSugSam
namespace Go.Proofs.YtaimagfdjbedeaaGreatDoor
open Go.RowKit

def JPost (w0 : World) (y : Ex) (w : World) (e : Ending) (w' : World) : Prop := Below w.heap.size w w' ∧ ∃ M, e = .returned (.agg M.toArray) ∧ ExAt (joinW w0 (newW w.heap.size w')) M y
theorem rs_results {tmps : Array Value} {w : World} {N : Nat} {x0 x1 x2 x3 x4 : Value} (hp : tmps.getD 6 undef = .pointer (some ⟨N, 0, none⟩)) (hg : w.heap[N]? = some (.cells #[x0, x1, x2, x3, x4] 25 (0, 0))) :
    (results Tryz.f7 tmps).run Tryz.prog w = .ok (.agg #[x0, x1, x2, x3, x4]) w :=
  results_cell_row Tryz.results7 tmps w N 25 _ (0, 0) _ hp hg Tryz.underlying25 rfl exp_size
set_option maxRecDepth 100000 in
set_option maxHeartbeats 4000000 in
theorem rs_yes {w0 : World} {x con : Tx} (hx : x.length ≤ maxLen) (hcon : con.length ≤ maxLen) {s : Tx} {n : Int} {cs : List Tx} {ks : List Ex} {L : List Value} (h : ExAt w0 L (.mk 4 s n cs ks)) (w : World) (hb : Below w0.heap.size w0 w) :
    Calls Tryz.prog 7 #[.agg L.toArray, .string (str x), .string (str con)] w (JPost w0 (.mk 11 x 0 [con] [.mk 4 s n cs ks]) w) := by
  have hop : ∃ s0 n0 A0 m0 k0 B0 j0 l0, L = [.int .i64 4, .string s0, .int .i64 n0, .slice A0 m0 k0, .slice B0 j0 l0] := by
    cases h with
    | mk _ _ _ hcs _ _ _ _ =>
      obtain ⟨A, c, rfl, _⟩ := hcs
      exact ⟨_, _, _, _, _, _, _, _, rfl⟩
  obtain ⟨s0, n0, A0, m0, k0, B0, j0, l0, rfl⟩ := hop
  have H := Lib.hid h
  have hsz0 := hb.size
  have E0 := Lib.hid (heap_alloc_keep (o := .cells #[.int .i64 0, .string ⟨#[]⟩, .int .i64 0, .slice none 0 0, .slice none 0 0] 25) (heap_alloc_new w (.cells #[.int .i64 4, .string s0, .int .i64 n0, .slice A0 m0 k0, .slice B0 j0 l0] 25)))
  have R0 := Lib.hid (alloc_at (w := w.alloc (.cells #[.int .i64 4, .string s0, .int .i64 n0, .slice A0 m0 k0, .slice B0 j0 l0] 25)) (o := .cells #[.int .i64 0, .string ⟨#[]⟩, .int .i64 0, .slice none 0 0, .slice none 0 0] 25) (n := w.heap.size + 1) (by simp))
  obtain ⟨p0, p1, p2, p3, p4⟩ := row5 E0.out
  clear h hb
  go_enter Tryz.func7, Tryz.ntmps7
  go_wp2_with fail
  refine bodyPost_ret (rs_results rfl (heap_alloc_keep (heap_alloc_keep (alloc_at (by simp))))) rfl ⟨((((Below.refl w.heap.size w).alloc (Nat.le_refl _) _).alloc (by simp) _).alloc (by simp; omega) _).alloc (by simp; omega) _, _, rfl, ?_⟩
  exact ex_node (i64_small (by omega)) (i64_small (by omega)) hx (made1 (join_row (heap_alloc_keep (alloc_at (by simp))) (by omega) (by omega)) ⟨rfl, hcon⟩ rfl) (made1 (join_row (alloc_at (by simp)) (by omega) (by omega)) (H.out.sub (join_old _ _)) rfl)
theorem OwnL.ltJ {X : Type} {R : World → List Value → X → Prop} {B : Nat} {T : TypeId} {n : Nat} {w : World} {v : Value} {xs : List X} (h : OwnL R B T n w v xs) : ∀ g, v.ownBlock = some g → B ≤ g ∧ g < w.heap.size := by
  obtain ⟨Ls, h1, _⟩ := h
  exact h1.lt
def JEx (w0 : World) (V : World) (L : List Value) (x : Ex) : Prop := ExAt (joinW w0 V) L x
theorem JEx.sub (w0 : World) : ∀ (w w' : World) (L : List Value) (x : Ex), Sub w w' → JEx w0 w L x → JEx w0 w' L x := fun _ _ _ _ hs h => ExAt.sub h (join_sub hs)
def zeroJ : Value := .agg #[.int .i64 0, .string ⟨#[]⟩, .int .i64 0, .slice none 0 0, .slice none 0 0]
theorem ex_infoJ : (Tryz.prog.info? 25).map (fun i => (i.zero, i.size, i.bytes)) = some (some zeroJ, 5, 80) := by kernel_rfl
set_option maxRecDepth 100000 in
set_option maxHeartbeats 8000000 in
theorem rs_no {w0 : World} {x con : Tx} {op n : Int} {nm : Tx} {cs : List Tx} {ks : List Ex} {cv : Value} {A : Option Addr} {c : Nat} {C : Nat → List Value} (ho : ¬ op = 4) (hop : i64B op) (hnm : nm.length ≤ maxLen) (hn : i64B n) (hcs : StrsAt w0 cv cs) (hl : ks.length ≤ 2097152)
    (hk : ∀ (i : Nat) k, ks[i]? = some k → ElemAt w0 A i (C i)) (hx : ∀ (i : Nat) k, ks[i]? = some k → ExAt w0 (C i) k)
    (ih : ∀ (i : Nat) k, ks[i]? = some k → ∀ w, Below w0.heap.size w0 w → Calls Tryz.prog 7 #[.agg (C i).toArray, .string (str x), .string (str con)] w (JPost w0 (sampQ x con k) w)) (w : World) (hb : Below w0.heap.size w0 w) :
    Calls Tryz.prog 7 #[.agg #[.int .i64 op, .string (str nm), .int .i64 n, cv, .slice A ks.length c], .string (str x), .string (str con)] w (JPost w0 (.mk op nm n cs (ks.map (sampQ x con))) w) := by
  have HB := Lib.hid hb
  have hsz0 := hb.size
  obtain ⟨Ac, nc, cc, rfl⟩ : ∃ Ac nc cc, cv = .slice Ac nc cc := by obtain ⟨A, c, rfl, _⟩ := hcs; exact ⟨_, _, _, rfl⟩
  have HCS := Lib.hid hcs
  have HN := Lib.hid (And.intro hop (And.intro hnm hn))
  have E0 := Lib.hid (heap_alloc_keep (o := .cells #[.int .i64 0, .string ⟨#[]⟩, .int .i64 0, .slice none 0 0, .slice none 0 0] 25) (heap_alloc_new w (.cells #[.int .i64 op, .string (str nm), .int .i64 n, .slice Ac nc cc, .slice A ks.length c] 25)))
  obtain ⟨p0, p1, p2, p3, p4⟩ := row5 E0.out
  have hd : decide (op = 4) = false := by simpa using ho
  unfold i64B at hop
  clear hb hcs hnm hn
  go_enter Tryz.func7, Tryz.ntmps7
  go_wp2_with fail
  have he : (op == 4) = false := by simpa using ho
  simp only [he]
  go_loopg [8] ks.length (fun g v wr => ∃ (k : Nat) (kv : Value), k + g = ks.length ∧ v = .int .i64 k ∧ Below w.heap.size w wr ∧ w.heap.size + 3 ≤ wr.heap.size ∧ wr.heap[w.heap.size]? = some (.cells #[.int .i64 op, .string (str nm), .int .i64 n, .slice Ac nc cc, .slice A ks.length c] 25 (0, 0)) ∧
    wr.heap[w.heap.size + 1]? = some (.cells #[.int .i64 0, .string ⟨#[]⟩, .int .i64 0, .slice none 0 0, .slice none 0 0] 25 (0, 0)) ∧ wr.heap[w.heap.size + 2]? = some (.cells #[.int .i64 op, .string (str nm), .int .i64 n, .slice Ac nc cc, kv] 25 (0, 0)) ∧
    OwnL (JEx w0) (w.heap.size + 3) 25 5 wr kv ((ks.take k).map (sampQ x con)))
  case atStart =>
    exact ⟨0, .slice none 0 0, by omega, rfl, (((Below.refl w.heap.size w).alloc (Nat.le_refl _) _).alloc (by simp) _).alloc (by simp; omega) _, by simp, heap_alloc_keep (heap_alloc_keep (heap_alloc_new _ _)), heap_alloc_keep (alloc_at (by simp)), alloc_at (by simp), by rw [List.take_zero]; exact OwnL.nil _⟩
  case round =>
    obtain ⟨k, kv, hkg, rfl, hbw, hz, hE, hRC, hOB, hO⟩ := hrel
    have HK := Lib.hid hkg
    have HW := Lib.hid hbw
    have HZ := Lib.hid hz
    have HE := Lib.hid hE
    have HRC := Lib.hid hRC
    have HOB := Lib.hid hOB
    have HO := Lib.hid hO
    obtain ⟨p0, p1, p2, p3, p4⟩ := row5 hE
    obtain ⟨r0, r1, r2, r3, r4⟩ := row5 hRC
    obtain ⟨q0, q1, q2, q3, q4⟩ := row5 hOB
    clear hkg hbw hE hRC hOB hO
    by_cases hlt : k < ks.length
    · obtain ⟨y, hy⟩ : ∃ y, ks[k]? = some y := ⟨_, List.getElem?_eq_getElem hlt⟩
      have hC := hk k y hy
      have hih := Lib.hid (ih k y hy)
      have hxk := hx k y hy
      have HS := Lib.hid (show (ks.take (k + 1)).map (sampQ x con) = (ks.take k).map (sampQ x con) ++ [sampQ x con y] by rw [take_snoc hy]; simp)
      have HLN := Lib.hid (show ((ks.take k).map (sampQ x con)).length ≤ 2097152 by rw [List.length_map, List.length_take]; omega)
      obtain ⟨o1, s1, n1, A1, m1, k1, A2, m2, k2, hL⟩ := hxk.shape
      generalize C k = L at hC hih hxk hL
      subst hL
      have hB0 := Lib.hid (HB.out.trans (HW.out.mono hsz0))
      obtain ⟨a, rfl, ha, haa, d0, d1, d2, d3, d4⟩ := elem5 (hC.under hB0.out)
      clear hy hxk hk hx ih hC
      go_wp2_with (first
        | (go_at_call 7
           (with_reducible refine (hih.out _ hB0.out).mono ?_)
           rintro e w1 ⟨hb1, M, rfl, hM⟩
           obtain ⟨V1, rfl⟩ : ∃ W, W = w1 := ⟨_, rfl⟩
           obtain ⟨o3, s3, n3, A3, m3, k3, A4, m4, k4, rfl⟩ := hM.shape
           have HM := Lib.hid hM
           have HB1 := Lib.hid hb1
           have hz1 := hb1.size
           have Y2 := Lib.hid (heap_alloc_keep (o := .cells #[.int .i64 o3, .string s3, .int .i64 n3, .slice A3 m3 k3, .slice A4 m4 k4] 25) (box_next hb1 HOB.out))
           obtain ⟨y0, y1, y2, y3, y4⟩ := row5 Y2.out
           clear hb1 hM)
        | (at_builtin
           refine append_ownL (R := JEx w0) (B := w.heap.size + 3) (L := [.int .i64 o3, .string s3, .int .i64 n3, .slice A3 m3 k3, .slice A4 m4 k4]) (JEx.sub w0) rfl _ _ rfl Tryz.underlying23 ex_infoJ rfl (by decide) (by decide) rfl rfl (alloc_at (by simp)) rfl (ex_one _ _ HM.out) (OwnL.same (JEx.sub w0) HO.out (((Same.below HB1.out).alloc _).alloc _)) (HM.out.sub (join_sub (new_off (((Same.refl _ V1).alloc _).alloc _) (Nat.le_trans HZ.out (Nat.le_refl _)) (fun g hg => .inl (by have := (HO.out.ltJ g hg).2; omega))))) HLN.out ?_ ?_
           · simp; omega
           intro v5 w5 h5 g5
           obtain ⟨V5, rfl⟩ : ∃ W, W = w5 := ⟨_, rfl⟩
           obtain ⟨A6, m6, c6, rfl, hm6⟩ := h5.shape
           clear hm6
           have HO5 := Lib.hid h5
           have HB5 := Lib.hid g5
           have Z2 := Lib.hid ((g5.block _ (by omega)).trans (heap_alloc_keep (o := .cells #[.int .i64 o3, .string s3, .int .i64 n3, .slice A3 m3 k3, .slice A4 m4 k4] 25) Y2.out))
           obtain ⟨z0, z1, z2, z3, z4⟩ := row5 Z2.out
           have f4 := row_frz Z2.out 4
           clear h5 g5))
      go_roundg (ks.length - (k + 1))
      case measure => have := HK.out; omega
      case rel =>
        have hz5 := HB5.out.size
        simp at hz5
        refine ⟨k + 1, .slice A6 m6 c6, by omega, by go_num, ((HW.out.trans (((HB1.out.alloc hz1 _).alloc (by simp; omega) _).mono HW.out.size)).trans (HB5.out.mono (by omega))).setCell (Nat.le_add_right _ 2) _, ?_, ?_, ?_, set4_row5 _ Z2.out, ?_⟩
        · exact Nat.le_trans (by omega) (Below.size ((Below.refl 0 V5).setCell (p := ⟨w.heap.size + 2, 4, none⟩) (Nat.zero_le _) (.slice A6 m6 c6)))
        · exact (heap_setCell_other _ _ _ _ _ (by omega)).trans ((HB5.out.block _ (by omega)).trans (heap_alloc_keep (heap_alloc_keep (box_next HB1.out HE.out))))
        · exact (heap_setCell_other _ _ _ _ _ (by omega)).trans ((HB5.out.block _ (by omega)).trans (heap_alloc_keep (heap_alloc_keep (box_next HB1.out HRC.out))))
        · rw [HS.out]
          exact OwnL.same (JEx.sub w0) HO5.out ((Same.refl _ V5).set (.inl (by simp)) _)
    · have hke : k = ks.length := by have := HK.out; omega
      subst hke
      obtain ⟨A6, m6, c6, rfl, hm6⟩ := HO.out.shape
      clear hm6
      have g0 := row_frz HRC.out 0
      have g1 := row_frz HRC.out 1
      have g2 := row_frz HRC.out 2
      have g3 := row_frz HRC.out 3
      have g4 := row_frz HRC.out 4
      go_wp2_with fail
      refine bodyPost_ret (rs_results rfl (set_rowX _ _ _ _ _ HRC.out)) rfl ⟨below_setX HW.out (by omega) _ _ _ _ _, _, rfl, ?_⟩
      have hO := HO.out
      rw [List.take_length] at hO
      have hs := fun a b c d e => Sub.trans (Same.sub (same_setX (N := w.heap.size + 1) (Same.refl (w.heap.size + 3) wr) (.inl (by omega)) a b c d e)) (new_mono (B' := w.heap.size) (by omega) _)
      exact ex_node HN.out.1 HN.out.2.2 HN.out.2.1 (HCS.out.sub (join_old _ _)) ((OwnL.at_ (JEx.sub w0) hO).sub (Sub.trans (hs _ _ _ _ _) (join_new hsz0)) fun L x h => ExAt.sub h (join_sub (hs _ _ _ _ _)))
theorem rs_any {w0 : World} {x con : Tx} (hx : x.length ≤ maxLen) (hcon : con.length ≤ maxLen) : ∀ (y : Ex) (L : List Value), ExAt w0 L y → Slim y → ∀ w, Below w0.heap.size w0 w → Calls Tryz.prog 7 #[.agg L.toArray, .string (str x), .string (str con)] w (JPost w0 (sampQ x con y) w) := fun y => by
  induction y using Ex.ind with
  | h op nm n cs ks ih =>
    intro L hL hS w hb
    by_cases ho : op = 4
    · subst ho
      rw [sampQ, rebQ_some (y := .mk 11 x 0 [con] [.mk 4 nm n cs ks]) (by simp [sampR])]
      exact rs_yes hx hcon hL w hb
    · rw [sampQ, rebQ_none (by simp [sampR, ho])]
      rw [Slim] at hS
      cases hL with
      | mk hop hnm hn hcs hl hc hk hxx => exact rs_no ho hop hnm hn hcs hS.2.1 hk hxx (fun i k hi => ih k (List.mem_of_getElem? hi) _ (hxx i k hi) (slimL_mem hS.2.2 i k hi)) w hb
end Go.Proofs.YtaimagfdjbedeaaGreatDoor
