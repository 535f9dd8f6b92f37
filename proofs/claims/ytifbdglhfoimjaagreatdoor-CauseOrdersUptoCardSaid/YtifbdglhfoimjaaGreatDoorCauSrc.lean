/-
  definers, sourcesOf: which item defines a name first, and the items that define what each reads.
-/
import Derived.Test.YtifbdglhfoimjaaGreatDoorCauDefs
import Derived.Test.YtifbdglhfoimjaaGreatDoorCauVars
import Derived.Test.YtifbdglhfoimjaaGreatDoorCauRd
import Derived.Test.YtifbdglhfoimjaaGreatDoorIntMem
namespace Go.Proofs.YtifbdglhfoimjaaGreatDoor
open Go.RowKit
open Go.ChangeMaps Go.MapKept
open Go.Maps

def numV (b : Nat) : Value := .int .i64 (b : Int)
theorem OwnS.grownMap {B mb : Nat} {w w' : World} {v : Value} {l : List Tx} {m : List (Tx × Value)} (h : OwnS B w v l) (hm : MapAt w mb m) (hg : w.grownBy w' (some mb)) : OwnS B w' v l :=
  h.keep fun g o hv ho => (hg.block g (lt_of_heap ho) (fun e => by cases e; obtain ⟨_, _, hy⟩ := h.block hv; obtain ⟨_, _, hx, _⟩ := hm; rw [hx] at hy; cases hy)).trans ho
/-- what definers answers -/
def DefPost (items : List QItem) (w : World) (e : Ending) (w' : World) : Prop := ∃ b m, e = .returned (.map (some b)) ∧ w.heap.size ≤ b ∧ MapAt w' b m ∧ DefPart numV items items.length [] m ∧ Below w.heap.size w w'
theorem one_node {Y : World} {L : List Value} {i : QItem} {g : Nat} {C : Array Value} (hi : ItemAt Y L i) (hg : Y.heap[g]? = some (.cells C 80 (0, 0))) (hC : C.toList = L) : NodeAt Y [.string ⟨#[]⟩, .slice none 0 0, .slice none 0 0, .slice none 0 0, .slice (some ⟨g, 0, none⟩) 1 1] ⟨[], [], [], [], [i]⟩ :=
  ⟨_, _, _, _, rfl, len_small (by simp), strs_none _, strs_none _, strs_none _, made1 hg hi hC⟩
theorem one_vars (i : QItem) : varsQ ⟨[], [], [], [], [i]⟩ = definedQ i := by simp [varsQ]
theorem zeroI (w : World) : (zeroValue 3).run Tryz.prog w = .ok (.int .i64 0) w := by kernel_rfl
set_option maxHeartbeats 4000000 in
set_option maxRecDepth 100000 in
theorem definers_any {w0 : World} {v : Value} {items : List QItem} (h : SliceAt w0 (ItemAt w0) v items) (hd : ∀ i ∈ items, (definedQ i).length ≤ 2097152) (hn : items.length ≤ 1048576) (w : World) (hb : Below w0.heap.size w0 w) : Calls Tryz.prog 29 #[v] w (DefPost items w) := by
  obtain ⟨A, c, rfl, _, _, he⟩ := h
  have HE := Lib.hid he
  have HD := Lib.hid hd
  have HB := Lib.hid hb
  have hsz := hb.size
  have hmm := @run_makeMap Tryz.prog
  have HM0 := Lib.hid (MapAt.made w)
  have HA0 := Lib.hid ((Below.refl w.heap.size w).alloc (Nat.le_refl _) (.map #[] 0))
  clear he hd hb
  go_enter Tryz.func29, Tryz.ntmps29
  go_wp2_with fail
  clear hmm
  go_loopg [13] items.length (fun g v wr => ∃ (k : Nat) (m : List (Tx × Value)), k + g = items.length ∧ v = .int .i64 k ∧ MapAt wr w.heap.size m ∧ DefPart numV items k [] m ∧ Below w.heap.size w wr)
  case atStart => exact ⟨0, [], by omega, rfl, HM0.out, DefPart.start, HA0.out⟩
  case round =>
    obtain ⟨k, m, hkg, rfl, hma, hdp, hbw⟩ := hrel
    obtain ⟨wq, rfl⟩ : ∃ W, W = wr := ⟨_, rfl⟩
    have HK := Lib.hid hkg
    have HMA := Lib.hid hma
    have HDP := Lib.hid hdp
    have HW := Lib.hid hbw
    have hkl : k ≤ items.length := by omega
    have hszw := hbw.size
    clear hkg hma hdp hbw
    by_cases hlt : k < items.length
    · obtain ⟨q, hq⟩ : ∃ q, items[k]? = some q := ⟨_, List.getElem?_eq_getElem hlt⟩
      obtain ⟨Lq, hEq, hRq⟩ := HE.out k q hq
      have HQI := Lib.hid hq
      have HITM := Lib.hid hRq
      have HLEN := Lib.hid (HD.out q (List.mem_of_getElem? hq))
      obtain ⟨A0, n0, k0, o1, s2, o3, A4, n4, k4, A5, n5, k5, A6, n6, k6, rfl⟩ := hRq.shape
      have HBQ := Lib.hid (HB.out.trans (HW.out.mono hsz))
      obtain ⟨a, ea, ha, haa, d0, d1, d2, d3, d4, d5, d6⟩ := elem7 (hEq.under HBQ.out)
      subst ea
      have HA2 := Lib.hid (((Below.refl wq.heap.size wq).alloc (Nat.le_refl _) (.cells #[.slice A0 n0 k0, .int .i64 o1, .string s2, .int .i64 o3, .slice A4 n4 k4, .slice A5 n5 k5, .slice A6 n6 k6] 80)).alloc (by simp) (.cells #[.slice A0 n0 k0, .int .i64 o1, .string s2, .int .i64 o3, .slice A4 n4 k4, .slice A5 n5 k5, .slice A6 n6 k6] 80))
      have HNODE := Lib.hid (one_node (g := wq.heap.size + 1) (HITM.out.under (HBQ.out.trans (HA2.out.mono HBQ.out.size))) (alloc_at (by simp)) rfl)
      have HV := Lib.hid (vars_any HNODE.out (by rw [one_vars]; exact HLEN.out) _ (Below.refl _ _))
      rw [one_vars] at HV
      have HM2 := Lib.hid (HMA.out.under HA2.out)
      have HW2 := Lib.hid (HW.out.trans (HA2.out.mono hszw))
      clear hq hEq hRq
      go_wp2_with (go_at_call 51
                   (with_reducible refine HV.out.mono ?_)
                   rintro e w7 ⟨v7, rfl, ho7, hb7⟩
                   obtain ⟨V7, rfl⟩ : ∃ W, W = w7 := ⟨_, rfl⟩
                   obtain ⟨A7, n7, c7, rfl, rfl⟩ := ho7.shape
                   have HO7 := Lib.hid (ho7.mono (Nat.zero_le _))
                   have HM7 := Lib.hid (HM2.out.under hb7)
                   have HW7 := Lib.hid (HW2.out.trans (hb7.mono HW2.out.size))
                   clear ho7 hb7 d0 d1 d2 d3 d4 d5 d6)
      have hvl : (definedQ q).length ≤ 9223372036854775807 := by have := HLEN.out; omega
      go_loopg [23] (definedQ q).length (fun g v wr => ∃ (j : Nat) (m : List (Tx × Value)), j + g = (definedQ q).length ∧ v = .int .i64 j ∧ MapAt wr w.heap.size m ∧ DefPart numV items k ((definedQ q).take j) m ∧ OwnS 0 wr (.slice A7 (definedQ q).length c7) (definedQ q) ∧ Below w.heap.size w wr)
      case atStart => exact ⟨0, m, by omega, rfl, HM7.out, by simpa using HDP.out, HO7.out, HW7.out⟩
      case round =>
        obtain ⟨j, m2, hjg, rfl, hma2, hdp2, ho2, hbw2⟩ := hrel
        obtain ⟨wz, rfl⟩ : ∃ W, W = wr := ⟨_, rfl⟩
        have HJ := Lib.hid hjg
        have HMZ := Lib.hid hma2
        have HDZ := Lib.hid hdp2
        have HOZ := Lib.hid ho2
        have HWZ := Lib.hid hbw2
        have hjl : j ≤ (definedQ q).length := by omega
        clear hjg hma2 hdp2 ho2 hbw2
        by_cases hjt : j < (definedQ q).length
        · obtain ⟨x, hx⟩ : ∃ x, (definedQ q)[j]? = some x := ⟨_, List.getElem?_eq_getElem hjt⟩
          obtain ⟨A9, c9, e9, _, _, he9⟩ := HOZ.out.strs
          injection e9 with e9 e10 e11
          obtain ⟨L9, hE9, rfl, hxl⟩ := he9 j x hx
          obtain ⟨a9, ea9, _, hzc, q9⟩ := elem1 hE9
          rw [ea9] at e9
          subst e9
          rw [Nat.mul_one] at q9
          have HT := Lib.hid (take_snoc hx)
          have HXL := Lib.hid hxl
          clear hx e10 e11 he9 hE9 ea9 hzc hxl
          by_cases hin : x ∈ m2.map Prod.fst
          · obtain ⟨⟨x', vx⟩, hm, rfl⟩ := List.mem_map.1 hin
            obtain ⟨b', rfl, _⟩ := (HDZ.out x' vx).1 hm
            have hrun := HMZ.out.look_yes Tryz.underlying74 hm
            unfold numV at hrun
            have HS := Lib.hid (HDZ.out.skip hin)
            rw [← HT.out] at HS
            clear hin hm
            go_wp2_with fail
            go_roundg ((definedQ q).length - (j + 1))
            case measure => have := HJ.out; omega
            case rel => exact ⟨j + 1, m2, by omega, by go_num, HMZ.out, HS.out, HOZ.out, HWZ.out⟩
          · have hrun := HMZ.out.look_no Tryz.underlying74 (zeroI wz) HXL.out hin
            have HS := Lib.hid (HDZ.out.put hin)
            rw [← HT.out] at HS
            have HIN := Lib.hid hin
            clear hin
            go_wp2_with (at_mapUpdate
                         refine wpList_put _ rfl _ _ _ 74 rfl Tryz.underlying74 rfl rfl (v := .int .i64 (k : Int)) rfl HMZ.out HXL.out HIN.out ?_
                         intro w2 hm2 hg2
                         obtain ⟨V2, rfl⟩ : ∃ W, W = w2 := ⟨_, rfl⟩
                         have HM3 := Lib.hid hm2
                         have HO3 := Lib.hid (HOZ.out.grownMap HMZ.out hg2)
                         have HW3 := Lib.hid (HWZ.out.grown hg2 HWZ.out.size (fun k hk => by cases hk; exact Nat.le_refl _))
                         clear hm2 hg2)
            go_roundg ((definedQ q).length - (j + 1))
            case measure => have := HJ.out; omega
            case rel => exact ⟨j + 1, _, by omega, by go_num, HM3.out, HS.out, HO3.out, HW3.out⟩
        · have hje : j = (definedQ q).length := by omega
          have HDN := Lib.hid (show DefPart numV items (k + 1) [] m2 from DefPart.next (by have := HDZ.out; rwa [hje, List.take_length] at this) HQI.out)
          clear hje
          go_wp2_with fail
          go_roundg (items.length - (k + 1))
          case measure => have := HK.out; omega
          case rel => exact ⟨k + 1, m2, by omega, by go_num, HMZ.out, HDN.out, HWZ.out⟩
    · have hke : k = items.length := by omega
      have HDE := Lib.hid (show DefPart numV items items.length [] m by rw [← hke]; exact HDP.out)
      clear hke
      go_wp2_with fail
      go_ret
      exact ⟨_, m, rfl, Nat.le_refl _, HMA.out, HDE.out, HW.out⟩
/-- the sources so far: of the first k items, of the next one these -/
def matL (items : List QItem) (k : Nat) (x : List Nat) : List (List Nat) := (srcS items).take k ++ x :: List.replicate (items.length - k - 1) []
def matK (items : List QItem) (k : Nat) : List (List Nat) := (srcS items).take k ++ List.replicate (items.length - k) []
theorem matK_L {items : List QItem} {k : Nat} (h : k < items.length) : matK items k = matL items k [] := by
  unfold matK matL
  obtain ⟨d, hd⟩ : ∃ d, items.length - k = d + 1 := ⟨items.length - k - 1, by omega⟩
  rw [hd, List.replicate_succ]
  rfl
theorem matL_K {items : List QItem} {k : Nat} {i : QItem} (h : items[k]? = some i) : matL items k (srcI items i) = matK items (k + 1) := by
  unfold matK matL
  rw [take_snoc (show (srcS items)[k]? = some (srcI items i) by unfold srcS; rw [List.getElem?_map, h]; rfl), List.append_assoc]
  rfl
theorem take_src_len {items : List QItem} {k : Nat} (h : k < items.length) : ((srcS items).take k).length = k := by rw [List.length_take, srcS_len]; omega
theorem matL_get {items : List QItem} {k : Nat} (h : k < items.length) (x : List Nat) : (matL items k x)[k]? = some x := by
  unfold matL
  rw [List.getElem?_append_right (by rw [take_src_len h]; exact Nat.le_refl _), take_src_len h, Nat.sub_self]
  rfl
theorem matL_set {items : List QItem} {k : Nat} (h : k < items.length) (x y : List Nat) : (matL items k x).set k y = matL items k y := by
  unfold matL
  rw [List.set_append_right _ _ (by rw [take_src_len h]; exact Nat.le_refl _), take_src_len h, Nat.sub_self]
  rfl
theorem matL_len {items : List QItem} {k : Nat} (h : k < items.length) (x : List Nat) : (matL items k x).length = items.length := by
  unfold matL
  rw [List.length_append, take_src_len h, List.length_cons, List.length_replicate]
  omega
theorem matK_start (items : List QItem) : matK items 0 = List.replicate items.length [] := by simp [matK]
theorem matK_end (items : List QItem) : matK items items.length = srcS items := by
  unfold matK
  rw [Nat.sub_self, ← srcS_len, List.take_length]
  simp
/-- what sourcesOf answers -/
def SrcPost (items : List QItem) (w : World) (e : Ending) (w' : World) : Prop := ∃ v, e = .returned v ∧ MatAt w.heap.size w' v (srcS items) ∧ Below w.heap.size w w'
theorem filt_step {items : List QItem} {l : List Tx} {j : Nat} {x : Tx} (hx : l[j]? = some x) : (l.take (j + 1)).filterMap (firstD items) = (l.take j).filterMap (firstD items) ++ (match firstD items x with | some b => [b] | none => []) := by
  rw [take_snoc hx, List.filterMap_append]
  congr 1
  cases h : firstD items x <;> simp [h]
theorem filt_le (items : List QItem) (l : List Tx) (j : Nat) : ((l.take j).filterMap (firstD items)).length ≤ l.length := by
  have h1 := List.length_filterMap_le (firstD items) (l.take j)
  rw [List.length_take] at h1
  omega
theorem ItemAt.expr {w : World} {x0 x1 x2 x3 x4 x5 x6 : Value} {i : QItem} (h : ItemAt w [x0, x1, x2, x3, x4, x5, x6] i) : ExAt w [x1, x2, x3, x4, x5] i.eq.e := by
  obtain ⟨L', sv, e, ⟨nv, L2, e2, _, h2⟩, _⟩ := h
  subst e2
  have h5 := h2.len
  obtain ⟨y0, y1, y2, y3, y4, rfl⟩ := h2.five
  simp only [List.cons_append, List.nil_append] at e
  injection e with _ e
  injection e with e1 e
  injection e with e2 e
  injection e with e3 e
  injection e with e4 e
  injection e with e5 e
  subst e1 e2 e3 e4 e5
  exact h2
theorem OwnS.keptBut {B : Nat} {w w' : World} {v : Value} {l : List Tx} (h : OwnS B w v l) {g : Nat} {ob : Option Nat} {cg : Array Value} {Tg : TypeId} (hg : w.heap[g]? = some (.cells cg Tg (0, 0))) (hgt : Tg ≠ 9) (ho : ∀ k, ob = some k → ∃ cs T0, w.heap[k]? = some (.cells cs T0 (0, 0)) ∧ T0 ≠ 9)
    (hk : ∀ k o, k ≠ g → ob ≠ some k → w.heap[k]? = some o → w'.heap[k]? = some o) : OwnS B w' v l :=
  h.keep fun k o hv ho' => by
    obtain ⟨_, _, hy⟩ := h.block hv
    refine hk k o (fun e => ?_) (fun e => ?_) ho'
    · subst e; rw [hg] at hy; cases hy; exact hgt rfl
    · obtain ⟨cs, T0, h1, h2⟩ := ho k e; rw [h1] at hy; cases hy; exact h2 rfl
theorem MapAt.keptBut {w w' : World} {b : Nat} {m : List (Tx × Value)} (h : MapAt w b m) {g : Nat} {ob : Option Nat} {cg : Array Value} {Tg : TypeId} (hg : w.heap[g]? = some (.cells cg Tg (0, 0))) (ho : ∀ k, ob = some k → ∃ cs T0, w.heap[k]? = some (.cells cs T0 (0, 0)))
    (hk : ∀ k o, k ≠ g → ob ≠ some k → w.heap[k]? = some o → w'.heap[k]? = some o) : MapAt w' b m := by
  obtain ⟨es, ck, hx, hr⟩ := h
  refine ⟨es, ck, hk b _ (fun e => ?_) (fun e => ?_) hx, hr⟩
  · subst e; rw [hx] at hg; cases hg
  · obtain ⟨cs, T0, h1⟩ := ho b e; rw [hx] at h1; cases h1
set_option maxHeartbeats 4000000 in
set_option maxRecDepth 100000 in
theorem sourcesOf_any {w0 : World} {v : Value} {items : List QItem} (h : SliceAt w0 (ItemAt w0) v items) (hd : ∀ i ∈ items, (definedQ i).length ≤ 2097152) (ho : ∀ i ∈ items, (occX i.eq.e).length ≤ 2097152) (hn : items.length ≤ 1048576) (w : World) (hb : Below w0.heap.size w0 w) : Calls Tryz.prog 17 #[v] w (SrcPost items w) := by
  have HDEF := Lib.hid (definers_any h hd hn w hb)
  obtain ⟨A, c, rfl, _, _, he⟩ := h
  have HE := Lib.hid he
  have HOC := Lib.hid ho
  have HB := Lib.hid hb
  have hsz := hb.size
  have HSZ := Lib.hid hsz
  have hms := make_run (t := 55) (e := 33) Tryz.underlying55 ints_info rfl (by decide) hn
  have HN := Lib.hid hn
  clear he hd ho hb
  go_enter Tryz.func17, Tryz.ntmps17
  go_wp2_with (go_at_call 29
               (with_reducible refine HDEF.out.mono ?_)
               rintro e w1 ⟨mb, mm, rfl, hmb, hma, hdp, hb1⟩
               obtain ⟨V1, rfl⟩ : ∃ W, W = w1 := ⟨_, rfl⟩
               have HM1 := Lib.hid (hma.under ((Below.refl V1.heap.size V1).alloc (Nat.le_refl _) (.cells (List.replicate items.length (.slice none 0 0)).toArray 33)))
               have HDP := Lib.hid hdp
               have HMAT := Lib.hid (MatAt.made (B := w.heap.size) hb1.size HN.out)
               have HB1 := Lib.hid (hb1.trans ((Below.refl w.heap.size V1).alloc hb1.size (.cells (List.replicate items.length (.slice none 0 0)).toArray 33)))
               have HGW := Lib.hid hb1.size
               clear hma hdp hb1 hmb)
  clear hms
  rw [← matK_start] at HMAT
  go_loopg [18] items.length (fun g v wr => ∃ k : Nat, k + g = items.length ∧ v = .int .i64 k ∧ MatAt w.heap.size wr (.slice (some ⟨V1.heap.size, 0, none⟩) items.length items.length) (matK items k) ∧ MapAt wr mb mm ∧ Below w.heap.size w wr)
  case atStart => exact ⟨0, by omega, rfl, HMAT.out, HM1.out, HB1.out⟩
  case round =>
    obtain ⟨k, hkg, rfl, hmat, hma, hbw⟩ := hrel
    obtain ⟨wq, rfl⟩ : ∃ W, W = wr := ⟨_, rfl⟩
    have HK := Lib.hid hkg
    have HMT := Lib.hid hmat
    have HMA := Lib.hid hma
    have HW := Lib.hid hbw
    have hkl : k ≤ items.length := by omega
    have hszw := hbw.size
    clear hkg hmat hma hbw
    by_cases hlt : k < items.length
    · obtain ⟨q, hq⟩ : ∃ q, items[k]? = some q := ⟨_, List.getElem?_eq_getElem hlt⟩
      obtain ⟨Lq, hEq, hRq⟩ := HE.out k q hq
      have HQI := Lib.hid hq
      have HITM := Lib.hid hRq
      have HOQ := Lib.hid (HOC.out q (List.mem_of_getElem? hq))
      have HKL := Lib.hid hlt
      obtain ⟨A0, n0, k0, o1, s2, o3, A4, n4, k4, A5, n5, k5, A6, n6, k6, rfl⟩ := hRq.shape
      have HBQ := Lib.hid (HB.out.trans (HW.out.mono hsz))
      obtain ⟨a, ea, ha, haa, d0, d1, d2, d3, d4, d5, d6⟩ := elem7 (hEq.under HBQ.out)
      subst ea
      have HA1 := Lib.hid ((Below.refl wq.heap.size wq).alloc (Nat.le_refl _) (.cells #[.slice A0 n0 k0, .int .i64 o1, .string s2, .int .i64 o3, .slice A4 n4 k4, .slice A5 n5 k5, .slice A6 n6 k6] 80))
      have HRD := Lib.hid (reads_any (w0 := w0) HITM.out.expr HOQ.out _ (HBQ.out.trans (HA1.out.mono HBQ.out.size)))
      have HMT1 := Lib.hid (HMT.out.under HA1.out)
      have HMA1 := Lib.hid (HMA.out.under HA1.out)
      have HW1 := Lib.hid (HW.out.trans (HA1.out.mono hszw))
      have HRL := Lib.hid (show (readsX q.eq.e).length ≤ 2097152 by have := allL_len (occX q.eq.e) []; have := HOQ.out; unfold readsX; simp at *; omega)
      clear hq hEq hRq
      go_wp2_with (go_at_call 8
                   (with_reducible refine HRD.out.mono ?_)
                   rintro e w7 ⟨v7, rfl, ho7, hb7⟩
                   obtain ⟨V7, rfl⟩ : ∃ W, W = w7 := ⟨_, rfl⟩
                   obtain ⟨A7, n7, c7, rfl, rfl⟩ := ho7.shape
                   have HO7 := Lib.hid (ho7.mono (Nat.zero_le _))
                   have HM7 := Lib.hid (HMA1.out.under hb7)
                   have HT7 := Lib.hid (HMT1.out.under hb7)
                   have HW7 := Lib.hid (HW1.out.trans (hb7.mono HW1.out.size))
                   clear ho7 hb7 d0 d1 d2 d3 d4 d5 d6)
      have hvl : (readsX q.eq.e).length ≤ 9223372036854775807 := by have := HRL.out; omega
      go_loopg [28] (readsX q.eq.e).length (fun g v wr => ∃ j : Nat, j + g = (readsX q.eq.e).length ∧ v = .int .i64 j ∧ MatAt w.heap.size wr (.slice (some ⟨V1.heap.size, 0, none⟩) items.length items.length) (matL items k (((readsX q.eq.e).take j).filterMap (firstD items))) ∧ MapAt wr mb mm ∧ OwnS 0 wr (.slice A7 (readsX q.eq.e).length c7) (readsX q.eq.e) ∧ Below w.heap.size w wr)
      case atStart => exact ⟨0, by omega, rfl, by have := HT7.out; rw [matK_L HKL.out] at this; simpa using this, HM7.out, HO7.out, HW7.out⟩
      case round =>
        obtain ⟨j, hjg, rfl, hmt2, hma2, ho2, hbw2⟩ := hrel
        obtain ⟨wz, rfl⟩ : ∃ W, W = wr := ⟨_, rfl⟩
        have HJ := Lib.hid hjg
        have HTZ := Lib.hid hmt2
        have HMZ := Lib.hid hma2
        have HOZ := Lib.hid ho2
        have HWZ := Lib.hid hbw2
        have hjl : j ≤ (readsX q.eq.e).length := by omega
        clear hjg hmt2 hma2 ho2 hbw2
        by_cases hjt : j < (readsX q.eq.e).length
        · obtain ⟨x, hx⟩ : ∃ x, (readsX q.eq.e)[j]? = some x := ⟨_, List.getElem?_eq_getElem hjt⟩
          obtain ⟨A9, c9, e9, _, _, he9⟩ := HOZ.out.strs
          injection e9 with e9 e10 e11
          obtain ⟨L9, hE9, rfl, hxl⟩ := he9 j x hx
          obtain ⟨a9, ea9, _, hzc, q9⟩ := elem1 hE9
          rw [ea9] at e9
          subst e9
          rw [Nat.mul_one] at q9
          have HT := Lib.hid (filt_step (items := items) hx)
          clear hx e10 e11 he9 hE9 ea9 hzc
          cases hf : firstD items x with
          | none =>
            have hrun := HMZ.out.look_no Tryz.underlying74 (zeroI wz) hxl (HDP.out.none_ hf)
            rw [hf, List.append_nil] at HT
            clear hf hxl
            go_wp2_with fail
            go_roundg ((readsX q.eq.e).length - (j + 1))
            case measure => have := HJ.out; omega
            case rel => exact ⟨j + 1, by omega, by go_num, by rw [HT.out]; exact HTZ.out, HMZ.out, HOZ.out, HWZ.out⟩
          | some d =>
            have hrun := HMZ.out.look_yes Tryz.underlying74 ((HDP.out.all x (numV d)).2 ⟨d, rfl, hf⟩)
            unfold numV at hrun
            rw [hf] at HT
            have HFL := Lib.hid (show (natI (((readsX q.eq.e).take j).filterMap (firstD items))).length ≤ 4194304 by rw [natI_len]; have := filt_le items (readsX q.eq.e) j; have := HRL.out; omega)
            obtain ⟨u, r0, r1, hO, hne, hstep⟩ := HTZ.out.row (matL_get HKL.out _)
            have HOU := Lib.hid (hO.under ((Below.refl wz.heap.size wz).alloc (Nat.le_refl _) (.cells #[.int .i64 (d : Int)] 3)))
            have HNE := Lib.hid hne
            have HSTEP := Lib.hid (hstep d)
            obtain ⟨hSB0, hSBl, cur, hcur⟩ := HTZ.out.blk
            have HCUR := Lib.hid hcur
            have hcu : cur[k]? = some u := by rw [← cell_of_row _ _ _ _ _ _ hcur]; exact r0
            have HBA := Lib.hid ((Below.refl wz.heap.size wz).alloc (Nat.le_refl _) (.cells #[.int .i64 (d : Int)] 3))
            have HOB := Lib.hid (show ∀ k', u.ownBlock = some k' → ∃ cs T0, wz.heap[k']? = some (.cells cs T0 (0, 0)) ∧ T0 ≠ 9 from fun k' e => by
              obtain ⟨_, _, cs, hh⟩ := row_block hO e
              exact ⟨cs, _, hh, by decide⟩)
            have HSB := Lib.hid hSB0
            clear hf hxl hO hne hstep hcur hSB0
            go_wp2_with (at_builtin
                         refine app_num 33 Tryz.underlying33 rfl _ _ rfl rfl rfl (heap_alloc_new _ _) HOU.out HFL.out ?_ ?_
                         · have := HWZ.out.size; simp; omega
                         intro v5 w5 h5
                         obtain ⟨V5, rfl⟩ : ∃ W, W = w5 := ⟨_, rfl⟩
                         replace h5 : AppN w.heap.size (natI (((readsX q.eq.e).take j).filterMap (firstD items) ++ [d])) u (wz.alloc (.cells #[.int .i64 (d : Int)] 3)) v5 V5 := by rw [natI_snoc]; exact h5
                         obtain ⟨A5, n5, c5, rfl, rfl⟩ := h5.own.shape
                         have HST := Lib.hid (HSTEP.out _ _ _ HBA.out h5)
                         have HGR := Lib.hid (h5.below HOU.out (Nat.le_trans HWZ.out.size HBA.out.size))
                         have hV : V5.heap[V1.heap.size]? = some (.cells cur 33 (0, 0)) := (h5.grown.block _ (by simp; omega) (fun e => HNE.out e.symm)).trans (alloc_below HCUR.out)
                         have s0 : V5.cell? ⟨V1.heap.size, k, none⟩ = some u := by rw [cell_of_row _ _ _ _ _ _ hV]; exact hcu
                         have f5 := row_frz hV k
                         clear h5 hV)
            go_roundg ((readsX q.eq.e).length - (j + 1))
            case measure => have := HJ.out; omega
            case rel => exact ⟨j + 1, by omega, by go_num, by have := HST.out.1; rw [matL_set HKL.out] at this; rw [HT.out]; exact this, HMZ.out.keptBut HCUR.out (fun k' e => by obtain ⟨cs, T0, h1, _⟩ := HOB.out k' e; exact ⟨cs, T0, h1⟩) (fun k' o h1 h2 h3 => HST.out.2 k' o h1 h2 (alloc_below h3)), HOZ.out.keptBut HCUR.out (by decide) HOB.out (fun k' o h1 h2 h3 => HST.out.2 k' o h1 h2 (alloc_below h3)), ((HWZ.out.trans (HBA.out.mono HWZ.out.size)).trans HGR.out).setCell (p := ⟨V1.heap.size, k, none⟩) HSB.out _⟩
        · have hje : j = (readsX q.eq.e).length := by omega
          have HTN := Lib.hid (show MatAt w.heap.size wz (.slice (some ⟨V1.heap.size, 0, none⟩) items.length items.length) (matK items (k + 1)) by have := HTZ.out; rw [hje, List.take_length] at this; rw [← matL_K HQI.out]; exact this)
          clear hje
          go_wp2_with fail
          go_roundg (items.length - (k + 1))
          case measure => have := HK.out; omega
          case rel => exact ⟨k + 1, by omega, by go_num, HTN.out, HMZ.out, HWZ.out⟩
    · have hke : k = items.length := by omega
      have HTE := Lib.hid (show MatAt w.heap.size wq (.slice (some ⟨V1.heap.size, 0, none⟩) items.length items.length) (srcS items) by have := HMT.out; rwa [hke, matK_end] at this)
      clear hke
      go_wp2_with fail
      go_ret
      exact ⟨_, rfl, HTE.out, HW.out⟩
end Go.Proofs.YtifbdglhfoimjaaGreatDoor
