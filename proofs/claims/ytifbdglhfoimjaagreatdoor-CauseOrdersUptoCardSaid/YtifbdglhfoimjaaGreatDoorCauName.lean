/-
  readsName, readKids, addName: whether an expression reads its name, which kids are read, a name more.
-/
import Derived.Test.YtifbdglhfoimjaaGreatDoorCauMem
import Derived.Test.YtifbdglhfoimjaaGreatDoorHeld
import Derived.Laws.Rows
namespace Go.Proofs.YtifbdglhfoimjaaGreatDoor
open Go.RowKit

theorem oneBox {w : World} {op n : Int} {nm : Tx} {A B : Option Addr} {a b c d : Nat} : ((w.alloc (.cells #[.int .i64 op, .string (str nm), .int .i64 n, .slice A a b, .slice B c d] 25)).heap[w.heap.size]? = some (.cells #[.int .i64 op, .string (str nm), .int .i64 n, .slice A a b, .slice B c d] 25 (0, 0))) := heap_alloc_new w _
set_option maxHeartbeats 1000000 in
theorem readsName_any (op n : Int) (nm : Tx) (A B : Option Addr) (a b c d : Nat) (w : World) : Calls Tryz.prog 25 #[.agg #[.int .i64 op, .string (str nm), .int .i64 n, .slice A a b, .slice B c d]] w (BoolPost (readsN op) w) := by
  have hb := Lib.hid ((Below.refl w.heap.size w).alloc (Nat.le_refl _) (.cells #[.int .i64 op, .string (str nm), .int .i64 n, .slice A a b, .slice B c d] 25))
  unfold readsN
  by_cases h4 : op = 4
  · subst h4
    go_enter Tryz.func25, Tryz.ntmps25
    go_wp2_with fail
    go_ret
    exact ⟨rfl, hb.out⟩
  · by_cases h11 : op = 11
    · subst h11
      go_enter Tryz.func25, Tryz.ntmps25
      go_wp2_with fail
      go_ret
      exact ⟨rfl, hb.out⟩
    · have d4 : ((op : Int) == 4) = false := by simpa using h4
      have d11 : ((op : Int) == 11) = false := by simpa using h11
      cases d12 : ((op : Int) == 12) <;>
      · go_enter Tryz.func25, Tryz.ntmps25
        go_wp2_with fail
        go_ret
        exact ⟨ret_bool (by simp [d4, d11]), hb.out⟩
/-- what readKids answers -/
def kidsV (op : Int) (B : Option Addr) (n c : Nat) : Value := if op = 9 then .slice none 0 0 else .slice B (if op = 8 then min 1 n else n) c
set_option maxHeartbeats 1000000 in
theorem readKids_any (op n : Int) (nm : Tx) (A : Option Addr) (B : Addr) (a b c d : Nat) (hcd : c ≤ d) (w : World) : Calls Tryz.prog 27 #[.agg #[.int .i64 op, .string (str nm), .int .i64 n, .slice A a b, .slice (some B) c d]] w (fun e w' => e = .returned (kidsV op (some B) c d) ∧ Below w.heap.size w w') := by
  have hb := Lib.hid ((Below.refl w.heap.size w).alloc (Nat.le_refl _) (.cells #[.int .i64 op, .string (str nm), .int .i64 n, .slice A a b, .slice (some B) c d] 25))
  unfold kidsV
  by_cases h9 : op = 9
  · subst h9
    go_enter Tryz.func27, Tryz.ntmps27
    go_wp2_with fail
    go_ret
    exact ⟨rfl, hb.out⟩
  · rw [if_neg h9]
    have d9 : ((op : Int) == 9) = false := by simpa using h9
    by_cases h8 : op = 8
    · subst h8
      rw [if_pos rfl]
      go_enter Tryz.func27, Tryz.ntmps27
      go_wp2_with fail
      all_goals go_ret
      all_goals exact ⟨by simp [Nat.min_def]; omega, hb.out⟩
    · have d8 : ((op : Int) == 8) = false := by simpa using h8
      rw [if_neg h8]
      go_enter Tryz.func27, Tryz.ntmps27
      go_wp2_with fail
      go_ret
      exact ⟨rfl, hb.out⟩
set_option maxHeartbeats 1000000 in
theorem readKids_nil (op n : Int) (nm : Tx) (A : Option Addr) (a b d : Nat) (w : World) : Calls Tryz.prog 27 #[.agg #[.int .i64 op, .string (str nm), .int .i64 n, .slice A a b, .slice none 0 d]] w (fun e w' => (∃ c, e = .returned (.slice none 0 c)) ∧ Below w.heap.size w w') := by
  have hb := Lib.hid ((Below.refl w.heap.size w).alloc (Nat.le_refl _) (.cells #[.int .i64 op, .string (str nm), .int .i64 n, .slice A a b, .slice none 0 d] 25))
  by_cases h9 : op = 9
  · subst h9
    go_enter Tryz.func27, Tryz.ntmps27
    go_wp2_with fail
    go_ret
    exact ⟨⟨_, rfl⟩, hb.out⟩
  · have d9 : ((op : Int) == 9) = false := by simpa using h9
    by_cases h8 : op = 8
    · subst h8
      go_enter Tryz.func27, Tryz.ntmps27
      go_wp2_with fail
      go_ret
      exact ⟨⟨_, rfl⟩, hb.out⟩
    · have d8 : ((op : Int) == 8) = false := by simpa using h8
      go_enter Tryz.func27, Tryz.ntmps27
      go_wp2_with fail
      go_ret
      exact ⟨⟨_, rfl⟩, hb.out⟩
theorem zeroS (w : World) : (zeroValue 123).run Tryz.prog w = .ok (.agg #[]) w := by kernel_rfl
theorem RdAt.drew {N B : Nat} {w : World} {l : List Tx} (h : RdAt N B w l) : RdAt N B w.drew l := h
theorem row_frz {w : World} {N : Nat} {cs : Array Value} {T0 : TypeId} (h : w.heap[N]? = some (.cells cs T0 (0, 0))) (j : Nat) : w.frozen? ⟨N, j, none⟩ = false := by simp [World.frozen?, h]
theorem rd_set {N B m : Nat} {W : World} {v v' : Value} {l : List Tx} (hN : W.heap[N]? = some (.cells #[v, .map (some m)] 51 (0, 0))) (hO : OwnS B W v' l) (hM : MapAt W m (markS l)) (hm : B ≤ m) (hB : B ≤ N) : RdAt N B (W.setCell ⟨N, 0, none⟩ v') l := by
  refine ⟨v', m, ?_, hO.keep fun g o hg ho => ?_, hM.block ?_, hm, hB⟩
  · rw [heap_setCell_same W N 0 _ _ v' hN]; rfl
  · rw [Below.heap_setCell _ _ _ _ (fun e => by obtain ⟨_, _, hy⟩ := hO.block hg; have e : g = N := e; subst e; rw [hN] at hy; cases hy)]
    exact ho
  · rw [Below.heap_setCell _ _ _ _ (fun e => by obtain ⟨_, _, hx, _⟩ := hM; have e : m = N := e; subst e; rw [hN] at hx; cases hx)]
set_option maxHeartbeats 1000000 in
theorem addName_yes {N B : Nat} {w : World} {l : List Tx} (h : RdAt N B w l) (hB : B ≤ w.heap.size) {s : Tx} (hs : s ∈ l) : Calls Tryz.prog 26 #[.pointer (some ⟨N, 0, none⟩), .string (str s)] w (RdPost N B l w) := by
  have HH := Lib.hid h
  obtain ⟨v, m, hN, hO, hM, _, _⟩ := h
  have hrun := hM.look_yes Tryz.underlying49 (s := s) (v := .agg #[]) (List.mem_map.2 ⟨s, hs, rfl⟩)
  obtain ⟨c0, c1⟩ := row2 hN
  have hlt := lt_of_heap hN
  have hb := Lib.hid ((Below.refl w.heap.size w).alloc (Nat.le_refl _) (.cells #[] 123))
  clear hN hO hM hs
  go_enter Tryz.func26, Tryz.ntmps26
  go_wp2_with fail
  exact bodyPost_ret (results_none rfl _ _ _) rfl ⟨rfl, HH.out.under hb.out, RdKept.of_below hb.out hB⟩
set_option maxRecDepth 100000 in
set_option maxHeartbeats 1000000 in
theorem addName_no {N B : Nat} {w : World} {l : List Tx} (h : RdAt N B w l) (hB : B ≤ w.heap.size) {s : Tx} (hsl : s.length ≤ maxLen) (hl : l.length ≤ 2097152) (hs : s ∉ l) : Calls Tryz.prog 26 #[.pointer (some ⟨N, 0, none⟩), .string (str s)] w (RdPost N B (l ++ [s]) w) := by
  obtain ⟨v, m, hN, hO, hM, hBm, hBN⟩ := h
  have hs' : s ∉ (markS l).map Prod.fst := by rw [markS_keys]; exact hs
  have HSN := Lib.hid hs'
  have hrun := hM.look_no Tryz.underlying49 (zeroS w) hsl hs'
  obtain ⟨c0, c1⟩ := row2 hN
  have hlt := lt_of_heap hN
  have hb := Lib.hid ((Below.refl w.heap.size w).alloc (Nat.le_refl _) (.cells #[] 123))
  have HSL := Lib.hid hsl
  have HLL := Lib.hid hl
  have HB := Lib.hid hB
  have HM := Lib.hid (hM.under hb.out)
  have HO := Lib.hid (hO.under hb.out)
  have HN := Lib.hid (box_next hb.out hN)
  have HBM := Lib.hid hBm
  have HBN := Lib.hid hBN
  clear hO hM hs hs' hsl hl hB hBm hBN
  go_enter Tryz.func26, Tryz.ntmps26
  go_wp2_with (first
    | (at_mapUpdate
       refine wpList_put _ rfl _ _ _ 49 rfl Tryz.underlying49 rfl rfl rfl HM.out HSL.out HSN.out ?_
       intro w2 hm2 hg2
       replace hm2 : MapAt w2 m (markS l ++ [(s, .agg #[])]) := hm2
       obtain ⟨V2, rfl⟩ : ∃ W, W = w2 := ⟨_, rfl⟩
       have HN2 := Lib.hid ((hg2.block N (lt_of_heap HN.out) (fun e => by cases e; obtain ⟨_, _, hx, _⟩ := HM.out; rw [HN.out] at hx; cases hx)).trans HN.out)
       have HM2 := Lib.hid hm2
       obtain ⟨d0, d1⟩ := row2 HN2.out
       have hlt2 := lt_of_heap HN2.out
       have HO2 := Lib.hid (HO.out.keep (w' := V2) (fun g o hg ho => (hg2.block g (lt_of_heap ho) (fun e => by cases e; obtain ⟨_, _, hx, _⟩ := HM.out; obtain ⟨_, _, hy⟩ := HO.out.block hg; rw [hx] at hy; cases hy)).trans ho))
       have HBZ := Lib.hid (show B ≤ V2.heap.size by have := hg2.size; have := HB.out; simp at *; omega)
       have HG2 := Lib.hid hg2
       have HS1 := Lib.hid (show StrsAt (V2.alloc (.cells #[.string (str s)] 9)) (.slice (some ⟨V2.heap.size, 0, none⟩) 1 1) [s] from made1 (heap_alloc_new V2 _) ⟨rfl, HSL.out⟩ rfl)
       have HL1 := Lib.hid (show l.length + [s].length ≤ 4194304 by have := HLL.out; simp; omega)
       clear hm2 hg2 hN hlt c0 c1)
    | (at_builtin
       refine append_strs rfl _ _ rfl rfl rfl (HO2.out.alloc _) HS1.out HL1.out ?_ ?_
       · have := HBZ.out; simp; omega
       intro v5 w5 h5
       obtain ⟨V5, rfl⟩ : ∃ W, W = w5 := ⟨_, rfl⟩
       obtain ⟨ho5, hb5, hk5⟩ := h5
       replace ho5 : OwnS B V5 v5 (l ++ [s]) := ho5
       replace hk5 : ∀ (g : Nat) (o : Obj), (V2.alloc (.cells #[.string (str s)] 9)).heap[g]? = some o → v.ownBlock ≠ some g → V5.heap[g]? = some o := hk5
       obtain ⟨A5, n5, c5, rfl, rfl⟩ := ho5.shape
       have HO5 := Lib.hid ho5
       have HB5 := Lib.hid hb5
       have HK5 := Lib.hid hk5
       have HN5 := Lib.hid (hk5 N _ (alloc_below HN2.out) (fun e => by obtain ⟨_, _, hy⟩ := HO2.out.block e; rw [HN2.out] at hy; cases hy))
       have HM5 := Lib.hid ((HM2.out.under ((Below.refl _ _).alloc (Nat.le_refl _) (.cells #[.string (str s)] 9))).block (w' := V5) (by
         obtain ⟨es, ck, hx, _⟩ := HM2.out
         have hx1 := alloc_below (o := .cells #[.string (str s)] 9) hx
         rw [hx1]
         exact hk5 m _ hx1 (fun e => by obtain ⟨_, _, hy⟩ := HO2.out.block e; rw [hx] at hy; cases hy)))
       obtain ⟨e0, e1⟩ := row2 HN5.out
       have hlt5 := lt_of_heap HN5.out
       have f5 := row_frz HN5.out 0
       clear ho5 hb5 hk5))
  have HP : RdPost N B (l ++ [s]) w (.returned (.tuple #[])) (V5.setCell ⟨N, 0, none⟩ (.slice A5 (l ++ [s]).length c5)) := by
   refine ⟨rfl, rd_set HN5.out HO5.out (by rw [markS_snoc]; exact HM5.out) HBM.out HBN.out, ?_, fun g cs T0 hT hg hh => ?_⟩
   · exact ((hb.out.mono HB.out).trans (((Below.refl B _).grown HG2.out (by have := hb.out.size; have := HB.out; omega) (fun j hj => by cases hj; exact HBM.out)).trans (((Below.refl B V2).alloc HBZ.out _).trans HB5.out))).setCell (p := ⟨N, 0, none⟩) HBN.out _
   · rw [Below.heap_setCell _ _ _ _ hg]
     have h1 := box_next hb.out hh
     have h2 := (HG2.out.block g (lt_of_heap h1) (fun e => by cases e; obtain ⟨_, _, hx, _⟩ := HM.out; rw [h1] at hx; cases hx)).trans h1
     exact HK5.out g _ (alloc_below h2) (fun e => by obtain ⟨_, _, hy⟩ := HO2.out.block e; rw [h2] at hy; cases hy; exact hT rfl)
  rw [show (l ++ [s]).length = l.length + 1 by simp] at HP
  exact bodyPost_ret (results_none rfl _ _ _) rfl HP
theorem addName_any {N B : Nat} {w : World} {l : List Tx} (h : RdAt N B w l) (hB : B ≤ w.heap.size) {s : Tx} (hsl : s.length ≤ maxLen) (hl : l.length ≤ 2097152) : Calls Tryz.prog 26 #[.pointer (some ⟨N, 0, none⟩), .string (str s)] w (RdPost N B (moreL l s) w) := by
  unfold moreL
  by_cases hs : s ∈ l
  · rw [if_pos hs]; exact addName_yes h hB hs
  · rw [if_neg hs]; exact addName_no h hB hsl hl hs
end Go.Proofs.YtifbdglhfoimjaaGreatDoor
