/-
  order: the items, each behind its sources, the least first.
-/
import Derived.Test.YtifbdglhfoimjaaGreatDoorCauSt
import Derived.Test.YtifbdglhfoimjaaGreatDoorHeld
namespace Go.Proofs.YtifbdglhfoimjaaGreatDoor
open Go.RowKit

/-- what order answers -/
def OrdPost (S : List (List Nat)) (w : World) (e : Ending) (w' : World) : Prop := ∃ v, e = .returned v ∧ OwnN w.heap.size w' v (natI (ordQ S)) ∧ Below w.heap.size w w'
/-- behind the two that are made in either order -/
theorem st_start {w V : World} {MB : Nat} {v rv : Value} {S R : List (List Nat)} (hM : OwnN w.heap.size V (.slice (some ⟨MB, 0, none⟩) S.length S.length) (List.replicate S.length 0)) (hs : RowsAt (fun _ => True) w v S) (hr : RowsAt (fun g => g ≠ MB) V rv R) (hb : Below w.heap.size w V) (hlo : w.heap.size ≤ MB) (hhi : MB < V.heap.size) :
    St w MB V.heap.size v rv S R (V.alloc (.cells #[.slice none 0 0] 84)) (.slice none 0 0) (List.replicate S.length 0) [] := by
  have ha := (Below.refl V.heap.size V).alloc (Nat.le_refl _) (.cells #[.slice none 0 0] 84)
  refine ⟨hM.under ha, by simp, ⟨heap_alloc_new V _, OwnN.nil _ _, Nat.le_refl _⟩, fun k hk => by simp at hk, ?_, ?_, hb.alloc hb.size _, hlo, hhi⟩
  · have h1 := hs.imp (Q := fun g => g < w.heap.size) fun g _ hg => hg
    have h2 := (h1.keep (w' := V) fun g hg _ => hb.block g hg).imp (Q := fun g => g < V.heap.size ∧ g ≠ MB) fun g hg hw => ⟨hw, by omega⟩
    exact h2.keep fun g _ hg => ha.block g hg
  · have h2 := hr.imp (Q := fun g => g < V.heap.size ∧ g ≠ MB) fun g hg hw => ⟨hw, hg⟩
    exact h2.keep fun g _ hg => ha.block g hg
theorem made_intsA {w : World} {B n : Nat} (hB : B ≤ w.heap.size) (hn : n ≤ 1048576) : OwnN B (w.alloc (.cells (Array.replicate n (.int .i64 0)) 3)).drew (.slice (some ⟨w.heap.size, 0, none⟩) n n) (List.replicate n 0) := by
  have := made_ints (w := w) hB hn
  rw [List.toArray_replicate] at this
  exact this
theorem rdr_rows {B : Nat} {w : World} {v : Value} {R : List (List Nat)} (h : MatAt B w v R) {MB : Nat} (hm : ∀ g, B ≤ g → g < w.heap.size → g ≠ MB) : RowsAt (fun g => g ≠ MB) w v R :=
  h.rows.imp fun g hg hw => hm g hg.1 hw
set_option maxHeartbeats 2000000 in
set_option maxRecDepth 100000 in
theorem order_any {w : World} {v : Value} {S : List (List Nat)} (h : RowsAt (fun _ => True) w v S) (hlt : ∀ l ∈ S, ∀ d ∈ l, d < S.length) (hn : S.length ≤ 1048576) (hf : S.flatten.length ≤ 2097152) : Calls Tryz.prog 18 #[v] w (OrdPost S w) := by
  have HS := Lib.hid h
  have HLT := Lib.hid hlt
  have HN := Lib.hid hn
  have HF := Lib.hid hf
  have HRD := Lib.hid (fun (W : World) (hW : Below w.heap.size w W) => readers_any (w := W) (h.keep fun g _ hg => hW.block g hg) hlt hn hf)
  have hms := make_run (t := 33) (e := 3) Tryz.underlying33 int_info rfl (by decide) hn
  have hta : ∀ (x : Int) (W : World), (Instr.typeAssert (.iface 3 (.int .i64 x)) 20 3 false).run Tryz.prog W = .ok (.int .i64 x) W := fun x W => by kernel_rfl
  obtain ⟨A, c, rfl, _, _, _⟩ := h
  clear hlt hf
  go_enter Tryz.func18, Tryz.ntmps18
  go_wp2_with fail
  refine wp_region_held_drew (S := fun _ => True) (by kernel_rfl) trivial (fun hHeld => ?_)
  refine take_now 0 rfl ?_
  try simp only [Act.put, setA, setZ, setS]
  refine take_now 1 rfl ?_
  try simp only [Act.put, setA, setZ, setS]
  refine take_now 3 rfl ?_
  try simp only [Act.put, setA, setZ, setS]
  refine wpAnyH_ready (rs := [2, 4]) (by kernel_rfl) (by simp) (cons_at 2 rfl (fun K hK => ?c1) (cons_at 4 rfl (fun K hK => ?c2) AllReadyH.nil))
  case' c1 =>
    go_simp
    refine hK.out _ _ trivial (fun hHeld => ?_)
    clear hK K
    try simp only [Act.put, setA, setZ, setS]
    have hal : Below w.heap.size w (w.alloc (.cells (Array.replicate S.length (.int .i64 0)) 3)).drew := ((Below.refl w.heap.size w).alloc (Nat.le_refl _) _).drew
    refine only_at 4 (by kernel_rfl) rfl (fun K hK => ?_)
    go_simp
    (go_at_call 30
     (with_reducible refine (HRD.out _ hal).mono ?_)
     rintro e w1 ⟨rv, R, rfl, hmt, hrd, hb1⟩
     obtain ⟨V2, rfl⟩ : ∃ W, W = w1 := ⟨_, rfl⟩
     have HRK := Lib.hid hrd
     have HB1 := Lib.hid (hal.trans (hb1.mono hal.size))
     have hsz : w.heap.size < V2.heap.size := by have := hb1.size; simp [World.drew] at this; omega
     have HST := Lib.hid (st_start (MB := w.heap.size) (v := .slice A S.length c) ((made_intsA (w := w) (B := w.heap.size) (Nat.le_refl _) HN.out).under hb1) HS.out (rdr_rows hmt (fun g hg _ => by simp [World.drew] at hg; omega)) HB1.out (Nat.le_refl _) hsz)
     obtain ⟨A2, n2, k2, rfl⟩ : ∃ A n k, rv = .slice A n k := by obtain ⟨A, k, e, _⟩ := HST.out.rdr; exact ⟨A, _, k, e⟩
     obtain ⟨MB, hMB⟩ : ∃ MB, MB = w.heap.size := ⟨_, rfl⟩
     rw [← hMB] at HST
     rw [← hMB]
     clear hmt hrd hb1 hsz hal HB1 hMB)
    refine hK.out _ _ trivial (fun hHeld => ?_)
    clear hK K
    try simp only [Act.put, setA, setZ, setS]
    refine take_now 5 rfl ?_
    try simp only [Act.put, setA, setZ, setS]
    refine take_now 6 rfl ?_
    try simp only [Act.put, setA, setZ, setS]
    refine wpAnyH_done (by kernel_rfl) ?_ _
    clear hms HRD HS
  case' c2 =>
    go_simp
    (go_at_call 30
     (with_reducible refine (HRD.out _ (Below.refl w.heap.size w).drew).mono ?_)
     rintro e w1 ⟨rv, R, rfl, hmt, hrd, hb1⟩
     obtain ⟨V1, rfl⟩ : ∃ W, W = w1 := ⟨_, rfl⟩
     have HRK := Lib.hid hrd
     have HB1 := Lib.hid ((Below.refl w.heap.size w).drew.trans hb1)
     have hal := (Below.refl V1.heap.size V1).alloc (Nat.le_refl _) (.cells (Array.replicate S.length (.int .i64 0)) 3)
     have hmi := made_intsA (w := V1) (B := w.heap.size) HB1.out.size HN.out
     have hrr : RowsAt (fun g => g ≠ V1.heap.size) (V1.alloc (.cells (Array.replicate S.length (.int .i64 0)) 3)) rv R := (rdr_rows hmt (fun g _ hg => by omega)).keep fun g _ hg => hal.block g hg
     have HST := Lib.hid (st_start (MB := V1.heap.size) (v := .slice A S.length c) (V := V1.alloc (.cells (Array.replicate S.length (.int .i64 0)) 3)) hmi HS.out hrr (HB1.out.trans (hal.mono HB1.out.size)) HB1.out.size (by simp))
     obtain ⟨A2, n2, k2, rfl⟩ : ∃ A n k, rv = .slice A n k := by obtain ⟨A, k, e, _⟩ := HST.out.rdr; exact ⟨A, _, k, e⟩
     clear hmt hrd hb1 hal hmi hrr)
    refine hK.out _ _ trivial (fun hHeld => ?_)
    clear hK K
    try simp only [Act.put, setA, setZ, setS]
    refine only_at 2 (by kernel_rfl) rfl (fun K hK => ?_)
    go_simp
    refine hK.out _ _ trivial (fun hHeld => ?_)
    clear hK K
    try simp only [Act.put, setA, setZ, setS]
    refine take_now 5 rfl ?_
    try simp only [Act.put, setA, setZ, setS]
    refine take_now 6 rfl ?_
    try simp only [Act.put, setA, setZ, setS]
    refine wpAnyH_done (by kernel_rfl) ?_ _
    clear hms HRD HS
    obtain ⟨MB, hMB⟩ : ∃ MB, MB = V1.heap.size := ⟨_, rfl⟩
    rw [← hMB] at HST
    rw [← hMB]
    generalize V1.alloc (.cells (Array.replicate S.length (.int .i64 0)) 3) = V2 at *
    clear hMB HB1
  all_goals
    go_wp2_with fail
    obtain ⟨NB, hNB⟩ : ∃ NB, NB = V2.heap.size := ⟨_, rfl⟩
    rw [← hNB] at HST
    rw [← hNB]
    generalize V2.alloc (.cells #[.slice none 0 0] 84) = V3 at *
    clear hNB
    go_loopg [19] S.length (fun g v wr => ∃ (k : Nat) (qv : Value) (M H : List Int), k + g = S.length ∧ v = .int .i64 k ∧ St w MB NB (.slice A S.length c) (.slice A2 n2 k2) S R wr qv M H ∧ IniOk S k M H)
    case atStart => exact ⟨0, _, _, _, by omega, rfl, HST.out, IniOk.start⟩
    case round =>
      obtain ⟨k, qv, M, H, hkg, rfl, hst, hini⟩ := hrel
      obtain ⟨wq, rfl⟩ : ∃ W, W = wr := ⟨_, rfl⟩
      have HK := Lib.hid hkg
      have HSQ := Lib.hid hst
      have HIN := Lib.hid hini
      have hkl : k ≤ S.length := by omega
      clear hkg hst hini
      by_cases hlt : k < S.length
      · obtain ⟨l, hl⟩ : ∃ l, S[k]? = some l := ⟨_, List.getElem?_eq_getElem hlt⟩
        have HLI := Lib.hid hl
        obtain ⟨A', c', e, _, _, he⟩ := HSQ.out.src
        injection e with e1 e2 e3
        subst e1 e3
        clear e2
        obtain ⟨g, o, rfl, _, A3, c3, r0, hc2, hm2, _⟩ := he k l hl
        obtain ⟨r1, r2⟩ := HSQ.out.mis.cellAt (M_get HSQ.out.len hlt)
        have hll : l.length ≤ 9223372036854775807 := by unfold maxLen at hm2; omega
        have HS2 := Lib.hid (HSQ.out.store k (l.length : Int))
        have s1 := (HS2.out.mis.cellAt (k := k) (x := (l.length : Int)) (by rw [List.getElem?_set_self (by rw [HSQ.out.len]; exact hlt)])).1
        have HFW := Lib.hid HIN.out.few
        have HKL := Lib.hid hlt
        clear hl he hm2
        by_cases h0 : l = []
        · subst h0
          have HS4 := Lib.hid (HSQ.out.store k 0)
          have HPU := Lib.hid (heapPush_any (x := (k : Int)) HS4.out.que (by have := HFW.out; have := HKL.out; have := HN.out; omega) (by have := lt_of_heap HS4.out.que.1; omega) HS4.out.hea)
          go_wp2_with (go_at_call 31
                       (with_reducible refine HPU.out.mono ?_)
                       rintro e w3 ⟨_, rfl, rfl, q3, H3, hq3, hs3, hp3, hh3⟩
                       obtain ⟨V4, rfl⟩ : ∃ W, W = w3 := ⟨_, rfl⟩
                       have HS3 := Lib.hid (HS4.out.queue hs3 hq3 (by have := hp3.length_eq; rw [this]; simpa using hh3))
                       have HI3 := Lib.hid (HIN.out.push HLI.out HSQ.out.len hp3)
                       clear hq3 hs3 hp3 hh3)
          go_roundg (S.length - (k + 1))
          case measure => have := HK.out; omega
          case rel => exact ⟨k + 1, q3, _, H3, by omega, by go_num, HS3.out, HI3.out⟩
        · have hz : ((l.length : Int) == 0) = false := by simpa using h0
          have HI3 := Lib.hid (HIN.out.stay HLI.out HSQ.out.len h0)
          clear h0
          go_wp2_with fail
          go_roundg (S.length - (k + 1))
          case measure => have := HK.out; omega
          case rel => exact ⟨k + 1, qv, _, H, by omega, by go_num, HS2.out, HI3.out⟩
      · have hke : k = S.length := by omega
        have HOU := Lib.hid (show OuterOk S [] M H from IniOk.done (by rw [← hke]; exact HIN.out) HSQ.out.len)
        clear hke
        go_wp2_with fail
        go_loopg [8] S.length (fun g lv wr => ∃ (out : List Nat) (qv : Value) (M H : List Int), g + out.length = S.length ∧ St w MB NB (.slice A S.length c) (.slice A2 n2 k2) S R wr qv M H ∧ OwnN NB wr lv (natI out) ∧ (∀ g, lv.ownBlock = some g → qv.ownBlock ≠ some g) ∧ OuterOk S out M H ∧ ordQ S = ordF S g out)
        case atStart => exact ⟨[], qv, M, H, by simp, HSQ.out, OwnN.nil _ _, (fun g h => by simp [Value.ownBlock] at h), HOU.out, rfl⟩
        case round =>
          obtain ⟨out, q2, M2, H2, hgo, hst, hown, hdis, hou, hord⟩ := hrel
          obtain ⟨wz, rfl⟩ : ∃ W, W = wr := ⟨_, rfl⟩
          have HGO := Lib.hid hgo
          have HSZ := Lib.hid hst
          have HOZ := Lib.hid hown
          have HDZ := Lib.hid hdis
          have HOO := Lib.hid hou
          have HOR := Lib.hid hord
          obtain ⟨A5, n5, c5, rfl, rfl⟩ := hown.shape
          obtain ⟨A6, n6, c6, rfl, rfl⟩ := hst.que.2.1.shape
          have t0 := hst.que.cell
          have HLE := Lib.hid (len_any hst.que.2.1)
          have HFW := Lib.hid hou.few
          have hfw : H2.length ≤ 1048576 := by have := hou.few; omega
          clear hgo hst hown hdis hou hord HSQ HIN HOU HST HK hkl hlt
          by_cases h0 : H2.length = 0
          · have hd0 : decide (0 < H2.length) = false := decide_eq_false (by omega)
            have HE := Lib.hid (show ordQ S = out by rw [HOR.out]; exact ordF_end (HOO.out.last h0))
            clear h0
            go_wp2_with (go_at_call 32
                         (with_reducible refine HLE.out.mono ?_)
                         rintro e w3 ⟨rfl, hb3⟩
                         obtain ⟨V4, rfl⟩ : ∃ W, W = w3 := ⟨_, rfl⟩
                         have HO4 := Lib.hid (HOZ.out.under hb3)
                         have HB4 := Lib.hid (HSZ.out.bel.trans (hb3.mono HSZ.out.bel.size))
                         clear hb3)
            go_ret
            exact ⟨_, rfl, by rw [HE.out]; exact HO4.out.mono (Nat.le_trans HSZ.out.lo (Nat.le_of_lt HSZ.out.hi)), HB4.out⟩
          · have hd0 : decide (0 < H2.length) = true := decide_eq_true (by omega)
            have HPOP := Lib.hid (fun (W : World) (hW : Below wz.heap.size wz W) => heapPop_any (HSZ.out.que.under hW) hfw (by omega) HSZ.out.hea)
            obtain ⟨b, hb0, hbr, hbn⟩ := HOO.out.least HSZ.out.hea (by omega)
            have HBR := Lib.hid hbr
            have HBN := Lib.hid hbn
            have HB0 := Lib.hid hb0
            have HLO := Lib.hid (show (natI out).length ≤ 4194304 by rw [natI_len]; have := HGO.out; have := HN.out; omega)
            clear h0 hbr hbn hb0
            go_wp2_with (first
              | (go_at_call 32
                 (with_reducible refine HLE.out.mono ?_)
                 rintro e w3 ⟨rfl, hb3⟩
                 obtain ⟨V4, rfl⟩ : ∃ W, W = w3 := ⟨_, rfl⟩
                 have HS4 := Lib.hid (HSZ.out.under hb3)
                 have HO4 := Lib.hid (HOZ.out.under hb3)
                 have HP4 := Lib.hid (HPOP.out V4 hb3)
                 clear hb3)
              | (go_at_call 33
                 (with_reducible refine HP4.out.mono ?_)
                 rintro e w4 ⟨he, q5, H5, hq5, hs5, hp5, hh5⟩
                 rw [HB0.out] at he hp5
                 subst he
                 obtain ⟨V5, rfl⟩ : ∃ W, W = w4 := ⟨_, rfl⟩
                 have HS5 := Lib.hid (HS4.out.queue hs5 hq5 hh5)
                 obtain ⟨ho5, hd5⟩ := HS4.out.beside HO4.out HDZ.out hs5
                 have HO5 := Lib.hid ho5
                 have HD5 := Lib.hid hd5
                 have HPE := Lib.hid hp5
                 have HBA := Lib.hid ((Below.refl V5.heap.size V5).alloc (Nat.le_refl _) (.cells #[.int .i64 (b : Int)] 3))
                 clear hq5 hs5 hp5 hh5 ho5 hd5)
              | (at_builtin
                 refine app_num 33 Tryz.underlying33 rfl _ _ rfl rfl rfl (heap_alloc_new _ _) (HO5.out.under HBA.out) HLO.out ?_ ?_
                 · have := lt_of_heap HS5.out.que.1; simp; omega
                 intro v6 w6 h6
                 obtain ⟨V6, rfl⟩ : ∃ W, W = w6 := ⟨_, rfl⟩
                 obtain ⟨s6, d6⟩ := (HS5.out.under HBA.out).app (HO5.out.under HBA.out) HD5.out h6
                 have HS6 := Lib.hid s6
                 have HD6 := Lib.hid d6
                 have HO6 := Lib.hid (show OwnN NB V6 v6 (natI (out ++ [b])) by rw [natI_snoc]; exact h6.own)
                 obtain ⟨A7, n7, c7, rfl, rfl⟩ := HO6.out.shape
                 have hbl := HBR.out.1
                 obtain ⟨rb, hrb⟩ : ∃ rb, rb = R.getD b [] := ⟨_, rfl⟩
                 have HRB := Lib.hid hrb
                 have hRb : R[b]? = some rb := by rw [hrb, List.getD_eq_getElem?_getD, List.getElem?_eq_getElem (by rw [HRK.out.1]; exact hbl)]; rfl
                 obtain ⟨A8, c8, e8, _, _, he8⟩ := HS6.out.rdr
                 injection e8 with e81 e82 e83
                 subst e81 e82 e83
                 obtain ⟨g8, o8, rfl, _, A9, c9, r9, hc9, hm9, hrow⟩ := he8 b _ hRb
                 have HROW := Lib.hid hrow
                 have hbR : b < R.length := by rw [HRK.out.1]; exact hbl
                 clear s6 d6 h6 he8 hrow hRb hrb))
            have HIN := Lib.hid (show InnerOk S out b rb 0 M2 H5 by rw [HRB.out]; exact HOO.out.pop HBR.out HPE.out (HRK.out.done b hbl).1 (HRK.out.done b hbl).2)
            have hrl : rb.length ≤ 9223372036854775807 := by unfold maxLen at hm9; omega
            clear r9 HPE HPOP HLE HS4 HO4 HP4 HS5 HO5 HD5 HBA t0 hd0 HSZ HOZ HDZ HB0
            have hroom := HOO.out.ook.room HBR.out
            obtain ⟨f, hf⟩ : ∃ f, gk = f + 1 := ⟨gk - 1, by have := HGO.out; omega⟩
            have HFG := Lib.hid (show f < gk by omega)
            have HG2 := Lib.hid (show f + (out ++ [b]).length = S.length by have := HGO.out; simp; omega)
            have HO2 := Lib.hid (show ordQ S = ordF S f (out ++ [b]) by rw [HOR.out, hf]; exact ordF_step HBN.out)
            clear hroom hf
            go_loopg [55] rb.length (fun g v wr => ∃ (j : Nat) (qx : Value) (Mx Hx : List Int), j + g = rb.length ∧ v = .int .i64 j ∧ St w MB NB (.slice A S.length c) (.slice (some ⟨g8, o8, none⟩) R.length k2) S R wr qx Mx Hx ∧ OwnN NB wr (.slice A7 (natI (out ++ [b])).length c7) (natI (out ++ [b])) ∧ (∀ g, (Value.slice A7 (natI (out ++ [b])).length c7).ownBlock = some g → qx.ownBlock ≠ some g) ∧ InnerOk S out b rb j Mx Hx ∧ ∀ g, g < NB → g ≠ MB → wr.heap[g]? = V6.heap[g]?)
            case atStart => exact ⟨0, _, _, _, by omega, rfl, HS6.out, HO6.out, HD6.out, HIN.out, fun _ _ _ => rfl⟩
            case round =>
              obtain ⟨j, qx, Mx, Hx, hjg, rfl, hst, hown, hdis, hin, hkb⟩ := hrel
              obtain ⟨wy, rfl⟩ : ∃ W, W = wr := ⟨_, rfl⟩
              have HJ := Lib.hid hjg
              have HSY := Lib.hid hst
              have HOY := Lib.hid hown
              have HDY := Lib.hid hdis
              have HIY := Lib.hid hin
              have HKB := Lib.hid hkb
              have hjl : j ≤ rb.length := by omega
              clear hjg hst hown hdis hin hkb HS6 HO6 HD6 HIN
              by_cases hjt : j < rb.length
              · obtain ⟨r, hr⟩ : ∃ r, rb[j]? = some r := ⟨_, List.getElem?_eq_getElem hjt⟩
                have HRI := Lib.hid hr
                have hrS := HIY.out.below r (List.mem_of_getElem? hr)
                obtain ⟨g', o', rfl, ⟨hg1, hg2⟩, q00⟩ := HROW.out j r hr
                have q0 : wy.cell? ⟨g', o' + j, none⟩ = some (.int .i64 (r : Int)) := (World.cell?_of_block (HKB.out g' hg1 hg2)).trans q00
                obtain ⟨r1, r2⟩ := HSY.out.mis.cellAt (M_get HSY.out.len hrS)
                have HMORE := Lib.hid (HIY.out.more hr)
                have hmx := HIY.out.miss r hrS
                have HROOM := Lib.hid (HIY.out.room hr)
                have hml := miss_le S out r
                have HHI := Lib.hid HSY.out.hi
                obtain ⟨x, hx⟩ : ∃ x, Mx.getD r 0 = x := ⟨_, rfl⟩
                rw [hx] at r1 hmx
                have hxb : 1 ≤ x ∧ x ≤ 2097152 := by have := HMORE.out; have := HF.out; omega
                have HX := Lib.hid hx
                have HRS := Lib.hid hrS
                clear hr q00 hmx hml hx
                by_cases h1 : x = 1
                · subst h1
                  have HS8 := Lib.hid (HSY.out.store r 0)
                  have s1 := (HS8.out.mis.cellAt (k := r) (x := 0) (by rw [List.getElem?_set_self (by rw [HSY.out.len]; exact hrS)])).1
                  have HO8 := Lib.hid (HSY.out.besideSet HOY.out r (.int .i64 0))
                  have HPU := Lib.hid (heapPush_any (x := (r : Int)) HS8.out.que (by have := HROOM.out; have := HN.out; omega) (by have := lt_of_heap HS8.out.que.1; omega) HS8.out.hea)
                  go_wp2_with (go_at_call 31
                               (with_reducible refine HPU.out.mono ?_)
                               rintro e w3 ⟨_, rfl, rfl, q3, H3, hq3, hs3, hp3, hh3⟩
                               obtain ⟨V4, rfl⟩ : ∃ W, W = w3 := ⟨_, rfl⟩
                               have HS9 := Lib.hid (HS8.out.queue hs3 hq3 (by have := hp3.length_eq; rw [this]; simpa using hh3))
                               obtain ⟨ho9, hd9⟩ := HS8.out.beside HO8.out HDY.out hs3
                               have HO9 := Lib.hid ho9
                               have HD9 := Lib.hid hd9
                               have HI9 := Lib.hid (show InnerOk S out b rb (j + 1) (Mx.set r 0) H3 by have := HIY.out.push HRI.out (by rw [HX.out]; rfl) hp3; rwa [HX.out] at this)
                               have HK9 := Lib.hid (show ∀ g, g < NB → g ≠ MB → V4.heap[g]? = V6.heap[g]? from fun g h1 h2 => (hs3.block g (by have := lt_of_heap HS8.out.que.1; omega) (by omega) (fun e => by have := (row_block HS8.out.que.2.1 e).1; omega)).trans ((Below.heap_setCell _ ⟨MB, r, none⟩ _ g h2).trans (HKB.out g h1 h2)))
                               clear hq3 hs3 hp3 hh3 ho9 hd9)
                  go_roundg (rb.length - (j + 1))
                  case measure => have := HJ.out; omega
                  case rel => exact ⟨j + 1, q3, _, H3, by omega, by go_num, HS9.out, HO9.out, HD9.out, HI9.out, HK9.out⟩
                · have hz : (((x - 1 : Int)) == 0) = false := by simp; omega
                  have HS8 := Lib.hid (HSY.out.store r (x - 1))
                  have s1 := (HS8.out.mis.cellAt (k := r) (x := x - 1) (by rw [List.getElem?_set_self (by rw [HSY.out.len]; exact hrS)])).1
                  have HO8 := Lib.hid (HSY.out.besideSet HOY.out r (.int .i64 (x - 1)))
                  have HI9 := Lib.hid (show InnerOk S out b rb (j + 1) (Mx.set r (x - 1)) Hx by have := HIY.out.stay HRI.out (by rw [HX.out]; omega); rwa [HX.out] at this)
                  have HK9 := Lib.hid (show ∀ g, g < NB → g ≠ MB → (wy.setCell ⟨MB, r, none⟩ (.int .i64 (x - 1))).heap[g]? = V6.heap[g]? from fun g h1 h2 => (Below.heap_setCell _ ⟨MB, r, none⟩ _ g h2).trans (HKB.out g h1 h2))
                  clear h1
                  go_wp2_with fail
                  go_roundg (rb.length - (j + 1))
                  case measure => have := HJ.out; omega
                  case rel => exact ⟨j + 1, qx, _, Hx, by omega, by go_num, HS8.out, HO8.out, HDY.out, HI9.out, HK9.out⟩
              · have hje : j = rb.length := by omega
                have HFI := Lib.hid (HIY.out.done hje)
                clear hje
                go_wp2_with fail
                go_roundg f
                case measure => exact HFG.out
                case rel => exact ⟨out ++ [b], qx, Mx, Hx, HG2.out, HSY.out, HOY.out, HDY.out, HFI.out, HO2.out⟩
end Go.Proofs.YtifbdglhfoimjaaGreatDoor
