/-
  The methods of a queue: Len, Less, Swap, Push, Pop.
-/
import Derived.Test.YtifbdglhfoimjaaGreatDoorHeapMem
import Derived.Test.YtifbdglhfoimjaaGreatDoorHeld
namespace Go.Proofs.YtifbdglhfoimjaaGreatDoor
open Go.RowKit

set_option maxHeartbeats 400000 in
theorem len_any {B : Nat} {w : World} {v : Value} {H : List Int} (h : OwnN B w v H) : Calls Tryz.prog 32 #[v] w (fun e w' => e = .returned (.int .i64 (H.length : Int)) ∧ Below w.heap.size w w') := by
  obtain ⟨A, n, c, rfl, rfl⟩ := h.shape
  clear h
  go_enter Tryz.func32, Tryz.ntmps32
  go_wp2_with fail
  go_ret
  exact ⟨rfl, Below.refl _ _⟩
set_option maxHeartbeats 1000000 in
theorem less_any {B : Nat} {w : World} {v : Value} {H : List Int} (h : OwnN B w v H) (hl : H.length ≤ 1048576) {i j : Nat} (hi : i < H.length) (hj : j < H.length) : Calls Tryz.prog 295 #[v, .int .i64 (i : Int), .int .i64 (j : Int)] w (fun e w' => e = .returned (.bool (decide (H.getD i 0 < H.getD j 0))) ∧ Below w.heap.size w w') := by
  obtain ⟨g, c, rfl, hB, hg, hc, hm, hcell, hfz⟩ := h.at_ (by omega)
  have c1 := hcell i _ (List.getElem?_eq_getElem hi)
  have c2 := hcell j _ (List.getElem?_eq_getElem hj)
  have e1 : H.getD i 0 = H[i] := by rw [List.getD_eq_getElem?_getD, List.getElem?_eq_getElem hi]; rfl
  have e2 : H.getD j 0 = H[j] := by rw [List.getD_eq_getElem?_getD, List.getElem?_eq_getElem hj]; rfl
  rw [e1, e2]
  clear h hcell hfz e1 e2
  go_enter Tryz.func295, Tryz.ntmps295
  go_wp2_with fail
  go_quiet (fail)
  go_wp2_with fail
  go_ret
  exact ⟨rfl, below_drewN (Below.refl _ _) _⟩
def SwapPost (B : Nat) (v : Value) (H : List Int) (w : World) (e : Ending) (w' : World) : Prop := e = .returned (.tuple #[]) ∧ OwnN B w' v H ∧ w.grownBy w' v.ownBlock
set_option maxHeartbeats 1000000 in
theorem swap_any {B : Nat} {w : World} {v : Value} {H : List Int} (h : OwnN B w v H) (hl : H.length ≤ 1048576) {i j : Nat} (hi : i < H.length) (hj : j < H.length) : Calls Tryz.prog 297 #[v, .int .i64 (i : Int), .int .i64 (j : Int)] w (SwapPost B v (swapL H i j) w) := by
  obtain ⟨g, c, rfl, hB, hg, hc, hm, hcell, hfz⟩ := h.at_ (by omega)
  have c1 := hcell i _ (List.getElem?_eq_getElem hi)
  have c2 := hcell j _ (List.getElem?_eq_getElem hj)
  have f1 := hfz i
  have f2 := hfz j
  have e1 : H.getD i 0 = H[i] := by rw [List.getD_eq_getElem?_getD, List.getElem?_eq_getElem hi]; rfl
  have e2 : H.getD j 0 = H[j] := by rw [List.getD_eq_getElem?_getD, List.getElem?_eq_getElem hj]; rfl
  have HO := Lib.hid ((h.set rfl i H[j]).set (by simp) j H[i])
  have HS := Lib.hid (show swapL H i j = (H.set i H[j]).set j H[i] by unfold swapL; rw [e1, e2])
  have c3 : (w.setCell ⟨g, i, none⟩ (.int .i64 H[j])).cell? ⟨g, j, none⟩ = some (.int .i64 H[j]) := by
    obtain ⟨g', c', e', _, _, _, _, hcell', _⟩ := (h.set rfl i H[j]).at_ (by simp; omega)
    obtain rfl : g = g' := by simpa [Value.ownBlock] using congrArg Value.ownBlock e'
    refine hcell' j H[j] ?_
    rw [List.getElem?_set]
    by_cases e : i = j
    · subst e; simp [hi]
    · rw [if_neg e]; exact List.getElem?_eq_getElem hj
  clear h hcell hfz e1 e2
  go_enter Tryz.func297, Tryz.ntmps297
  go_wp2_with fail
  go_region
  go_wp2_with fail
  have HP : SwapPost B (.slice (some ⟨g, 0, none⟩) H.length c) (swapL H i j) w (.returned (.tuple #[])) (((w.setCell ⟨g, i, none⟩ (.int .i64 H[j])).setCell ⟨g, j, none⟩ (.int .i64 H[i])).drew) := by
    refine ⟨rfl, by rw [HS.out]; exact HO.out, ⟨rfl, rfl, rfl, by simp [World.setCell, World.drew], fun k hk hne => ?_⟩⟩
    have hne : k ≠ g := fun e => hne (by rw [e]; rfl)
    exact (Below.heap_setCell _ ⟨g, j, none⟩ _ k hne).trans (Below.heap_setCell _ ⟨g, i, none⟩ _ k hne)
  exact bodyPost_ret (results_none rfl _ _ _) rfl HP
theorem step_num {ops : Array Oper} {o : Oper} {a : Act} {K : Act → World → Prop} {Q : Exit → Act → World → Prop} {E : Prop} {W : World} {B N : Nat} {v : Value} {l : List Int} {x : Int} (ts : TypeId) (hts : Tryz.prog.underlying ts = some (.slice 3)) (hg : o.guard = none) (s y : Operand)
    (ho : o.op = .call { callee := .builtin .append, args := #[s, y], argTypes := #[ts, ts] }) (hs : a.eval s = v) (hy : a.eval y = .slice (some ⟨N, 0, none⟩) 1 1)
    (hN : W.heap[N]? = some (.cells #[.int .i64 x] 3 (0, 0))) (hO : OwnN B W v l) (hl : l.length ≤ 4194304) (hB : B ≤ W.heap.size)
    (h : ∀ v' w', AppN B (l ++ [x]) v W v' w' → K (a.put o.dst v') w') : if Region.wanted o (yielded ops a.tmps) = true then Oper.wp Tryz.prog o a W K Q else E := by
  rw [if_pos (by simp [Region.wanted, hg])]
  exact wp_appN ts hts s y ho hs hy hN hO hl hB h
/-- what an append to the queue's row, and the store behind it, leave -/
theorem push_end {N B : Nat} {w W V : World} {qv qv' : Value} {H : List Int} {x : Int} (h : QAt N B w qv H) (hb : Below w.heap.size w W) (ha : AppN B (H ++ [x]) qv W qv' V) : QPost N B (H ++ [x]) w qv (.tuple #[]) (.returned (.tuple #[])) (V.setCell ⟨N, 0, none⟩ qv') ∧ V.heap[N]? = some (.cells #[qv] 84 (0, 0)) := by
  have hW := h.under hb
  have hN : V.heap[N]? = some (.cells #[qv] 84 (0, 0)) := (ha.grown.block N (lt_of_heap hW.1) (fun e => hW.ne e.symm)).trans hW.1
  refine ⟨⟨rfl, qv', ⟨?_, ha.own.keep fun g o hg ho => ?_, h.2.2⟩, ?_⟩, hN⟩
  · rw [heap_setCell_same V N 0 _ _ qv' hN]
    simp
  · rw [Below.heap_setCell _ ⟨N, 0, none⟩ _ g (fun e => by
      have e : g = N := e
      subst e
      obtain ⟨_, _, cur, hh⟩ := row_block ha.own hg
      rw [hN] at hh
      cases hh)]
    exact ho
  · refine ⟨ha.grown.os.trans hb.os, ha.grown.tape.trans hb.tape, ha.grown.output.trans hb.output, by have := hb.size; have := ha.grown.size; simp [World.setCell]; omega, fun k hk h1 h2 => ?_, fun g hg => ?_⟩
    · rw [Below.heap_setCell _ ⟨N, 0, none⟩ _ k h1]
      exact (ha.grown.block k (Nat.lt_of_lt_of_le hk hb.size) (fun e => h2 e.symm)).trans (hb.block k hk)
    · rcases ha.loc with e | e
      · exact .inl (by rw [← e]; exact hg)
      · rw [e] at hg
        injection hg with hg
        exact .inr (by rw [← hg]; exact hb.size)
set_option maxRecDepth 100000 in
set_option maxHeartbeats 1000000 in
/-- Push: a number behind the others -/
theorem push_any {N B : Nat} {w : World} {qv : Value} {H : List Int} (h : QAt N B w qv H) (hl : H.length ≤ 1048576) (hB : B ≤ w.heap.size) (x : Int) : Calls Tryz.prog 299 #[.pointer (some ⟨N, 0, none⟩), .iface 3 (.int .i64 x)] w (QPost N B (H ++ [x]) w qv (.tuple #[])) := by
  have HQ := Lib.hid h
  have HL := Lib.hid (show H.length ≤ 4194304 by omega)
  have HB := Lib.hid hB
  obtain ⟨hN, hO, hBN⟩ := h
  obtain ⟨A, n, c, rfl, rfl⟩ := hO.shape
  have c0 : w.cell? ⟨N, 0, none⟩ = some (.slice A H.length c) := by simp [World.cell?, hN]
  have hlt := lt_of_heap hN
  have hta : ∀ W : World, (Instr.typeAssert (.iface 3 (.int .i64 x)) 20 3 false).run Tryz.prog W = .ok (.int .i64 x) W := fun W => by kernel_rfl
  have HW := Lib.hid ((Below.refl w.heap.size w).drew.alloc (Nat.le_refl _) (.cells #[.int .i64 x] 3))
  have HN := Lib.hid (HQ.out.under HW.out)
  have HNA := Lib.hid (show (w.drew.alloc (.cells #[.int .i64 x] 3)).heap[w.heap.size]? = some (.cells #[.int .i64 x] 3 (0, 0)) from alloc_at rfl)
  clear hN hO
  go_enter Tryz.func299, Tryz.ntmps299
  go_wp2_with fail
  refine wp_region_held_drew (S := fun _ => True) (by kernel_rfl) trivial (fun hHeld => ?_)
  refine take_now 0 rfl ?_
  try simp only [Act.put, setA, setZ, setS]
  refine take_now 1 rfl ?_
  try simp only [Act.put, setA, setZ, setS]
  refine take_now 2 rfl ?_
  try simp only [Act.put, setA, setZ, setS]
  refine take_now 3 rfl ?_
  try simp only [Act.put, setA, setZ, setS]
  refine take_now 5 rfl ?_
  try simp only [Act.put, setA, setZ, setS]
  refine take_now 6 rfl ?_
  try simp only [Act.put, setA, setZ, setS]
  refine wpAnyH_ready (rs := [4, 7]) (by kernel_rfl) (by simp) (cons_at 4 rfl (fun K hK => ?_) (cons_at 7 rfl (fun K hK => ?_) AllReadyH.nil))
  · go_simp
    refine hK.out _ _ trivial (fun hHeld => ?_)
    clear hK K
    try simp only [Act.put, setA, setZ, setS]
    refine only_at 7 (by kernel_rfl) rfl (fun K hK => ?_)
    go_simp
    refine hK.out _ _ trivial (fun hHeld => ?_)
    clear hK K
    try simp only [Act.put, setA, setZ, setS]
    refine only_at 8 (by kernel_rfl) rfl (fun K hK => ?_)
    refine step_num 82 Tryz.underlying82 rfl _ _ rfl rfl rfl HNA.out HN.out.2.1 HL.out (Nat.le_trans HB.out HW.out.size) ?_
    intro v5 V5 h5
    have HE := Lib.hid (push_end HQ.out HW.out h5)
    obtain ⟨A5, n5, c5, rfl, rfl⟩ := h5.own.shape
    have d0 : V5.cell? ⟨N, 0, none⟩ = some (.slice A H.length c) := by simp [World.cell?, HE.out.2]
    have f0 := row_frz HE.out.2 0
    clear h5
    refine hK.out _ _ trivial (fun hHeld => ?_)
    clear hK K
    try simp only [Act.put, setA, setZ, setS]
    refine take_now 9 rfl ?_
    try simp only [Act.put, setA, setZ, setS]
    refine take_now 10 rfl ?_
    try simp only [Act.put, setA, setZ, setS]
    refine only_at 11 (by kernel_rfl) rfl (fun K hK => ?_)
    go_simp
    refine hK.out _ _ trivial (fun hHeld => ?_)
    clear hK K
    try simp only [Act.put, setA, setZ, setS]
    refine wpAnyH_done (by kernel_rfl) ?_ _
    rw [show H.length + 1 = (H ++ [x]).length by simp]
    exact bodyPost_ret (results_none rfl _ _ _) rfl HE.out.1
  · go_simp
    refine hK.out _ _ trivial (fun hHeld => ?_)
    clear hK K
    try simp only [Act.put, setA, setZ, setS]
    refine only_at 4 (by kernel_rfl) rfl (fun K hK => ?_)
    go_simp
    refine hK.out _ _ trivial (fun hHeld => ?_)
    clear hK K
    try simp only [Act.put, setA, setZ, setS]
    refine only_at 8 (by kernel_rfl) rfl (fun K hK => ?_)
    refine step_num 82 Tryz.underlying82 rfl _ _ rfl rfl rfl HNA.out HN.out.2.1 HL.out (Nat.le_trans HB.out HW.out.size) ?_
    intro v5 V5 h5
    have HE := Lib.hid (push_end HQ.out HW.out h5)
    obtain ⟨A5, n5, c5, rfl, rfl⟩ := h5.own.shape
    have d0 : V5.cell? ⟨N, 0, none⟩ = some (.slice A H.length c) := by simp [World.cell?, HE.out.2]
    have f0 := row_frz HE.out.2 0
    clear h5
    refine hK.out _ _ trivial (fun hHeld => ?_)
    clear hK K
    try simp only [Act.put, setA, setZ, setS]
    refine take_now 9 rfl ?_
    try simp only [Act.put, setA, setZ, setS]
    refine take_now 10 rfl ?_
    try simp only [Act.put, setA, setZ, setS]
    refine only_at 11 (by kernel_rfl) rfl (fun K hK => ?_)
    go_simp
    refine hK.out _ _ trivial (fun hHeld => ?_)
    clear hK K
    try simp only [Act.put, setA, setZ, setS]
    refine wpAnyH_done (by kernel_rfl) ?_ _
    rw [show H.length + 1 = (H ++ [x]).length by simp]
    exact bodyPost_ret (results_none rfl _ _ _) rfl HE.out.1
/-- a shorter slice of the queue's row, stored -/
theorem pop_end {N B : Nat} {w : World} {g c m : Nat} {H : List Int} (h : QAt N B w (.slice (some ⟨g, 0, none⟩) H.length c) H) (hm : m ≤ H.length) (r : Value) : QPost N B (H.take m) w (.slice (some ⟨g, 0, none⟩) H.length c) r (.returned r) (w.setCell ⟨N, 0, none⟩ (.slice (some ⟨g, 0, none⟩) m c)) := by
  refine ⟨rfl, .slice (some ⟨g, 0, none⟩) m c, ⟨?_, (h.2.1.cut hm).keep fun k o hk ho => ?_, h.2.2⟩, rfl, rfl, rfl, by simp [World.setCell], fun k hk h1 _ => Below.heap_setCell _ ⟨N, 0, none⟩ _ k h1, fun k hk => .inl hk⟩
  · rw [heap_setCell_same w N 0 _ _ _ h.1]
    simp
  · rw [Below.heap_setCell _ ⟨N, 0, none⟩ _ k (fun e => by
      have e : k = N := e
      subst e
      exact h.ne hk)]
    exact ho
set_option maxHeartbeats 1000000 in
/-- Pop: the last number, and the others -/
theorem popQ_any {N B : Nat} {w : World} {qv : Value} {H : List Int} (h : QAt N B w qv H) (hl : H.length ≤ 1048576) (h0 : 0 < H.length) : Calls Tryz.prog 298 #[.pointer (some ⟨N, 0, none⟩)] w (QPost N B (H.take (H.length - 1)) w qv (.iface 3 (.int .i64 (H.getD (H.length - 1) 0)))) := by
  obtain ⟨g, c, rfl, hB, hg, hc, hm, hcell, hfz⟩ := h.2.1.at_ h0
  have hlt : H.length - 1 < H.length := by omega
  have c1 := hcell (H.length - 1) _ (List.getElem?_eq_getElem hlt)
  have e1 : H.getD (H.length - 1) 0 = H[H.length - 1] := by rw [List.getD_eq_getElem?_getD, List.getElem?_eq_getElem hlt]; rfl
  have HE := Lib.hid (pop_end h (m := H.length - 1) (by omega) (.iface 3 (.int .i64 H[H.length - 1])))
  have c0 : w.cell? ⟨N, 0, none⟩ = some (.slice (some ⟨g, 0, none⟩) H.length c) := by simp [World.cell?, h.1]
  have f0 := row_frz h.1 0
  have hN := lt_of_heap h.1
  rw [e1]
  generalize H[H.length - 1] = y at *
  clear h hcell hfz e1 hlt
  go_enter Tryz.func298, Tryz.ntmps298
  go_wp2_with fail
  go_ret
  exact HE.out
end Go.Proofs.YtifbdglhfoimjaaGreatDoor
