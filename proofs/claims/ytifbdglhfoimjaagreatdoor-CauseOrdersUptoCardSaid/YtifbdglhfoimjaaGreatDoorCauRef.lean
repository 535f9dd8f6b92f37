/-
  The reference's reads and Reads.
-/
import Derived.Test.YtifbdglhfoimjaaGreatDoorCauRd
namespace Go.Proofs.YtifbdglhfoimjaaGreatDoor
open Go.RowKit

theorem readK_le {X : Type} (op : Int) (l : List X) : (readK op l).length ≤ l.length := by
  unfold readK
  split
  · simp
  · split
    · rw [List.length_take]; omega
    · exact Nat.le_refl _
theorem op_kind (op : Int) : op = 4 ∨ op = 11 ∨ op = 12 ∨ op = 9 ∨ op = 8 ∨ (op ≠ 4 ∧ op ≠ 11 ∧ op ≠ 12 ∧ op ≠ 9 ∧ op ≠ 8) := by omega
theorem take_all1 {X : Type} (l : List X) : (l.take 1).take l.length = l.take 1 := by
  rw [List.take_take]
  cases l with
  | nil => rfl
  | cons x r => rw [Nat.min_eq_right (by simp)]
theorem take1_ge {X : Type} (l : List X) {k : Nat} (h : k ≠ 0) : (l.take 1).take k = l.take 1 := by rw [List.take_take, Nat.min_eq_right (by omega)]
set_option maxHeartbeats 4000000 in
set_option maxRecDepth 100000 in
theorem readsR_any {w0 : World} {L : List Value} {x : Ex} (h : ExAt w0 L x) : ∀ (B : Nat) (v : Value) (l : List Tx) (w : World), w0.heap.size ≤ B → Below w0.heap.size w0 w → OwnS B w v l → B ≤ w.heap.size → l.length + (occX x).length ≤ 2097152 →
    Calls Tryz.prog 16 #[v, .agg L.toArray] w (MorePost B (allL l (occX x)) w) := by
  induction h with
  | @mk op nm n cs ks cv A c C hop hnm hn hcs hl hc hk hx ih =>
    intro B v l w hWB hb hr hBw hlen
    have hO := Lib.hid (occX_mk op nm n cs ks)
    have hlen1 : l.length + (hereX op nm).length + ((readK op ks).flatMap occX).length ≤ 2097152 := by
      rw [hO.out, List.length_append] at hlen; omega
    have HLEN := Lib.hid hlen1
    have HB := Lib.hid hb
    have HWB := Lib.hid hWB
    have HBW := Lib.hid hBw
    have HNM := Lib.hid hnm
    have hml : ks.length ≤ 9223372036854775807 := by unfold maxLen at hc; omega
    obtain ⟨A2, c2, rfl, _⟩ := hcs
    have b1 : Below w.heap.size w (w.alloc (.cells #[.int .i64 op, .string (str nm), .int .i64 n, .slice A2 cs.length c2, .slice A ks.length c] 25)) := (Below.refl _ w).alloc (Nat.le_refl _) _
    have HB1 := Lib.hid b1
    have E0 := Lib.hid (heap_alloc_new w (.cells #[.int .i64 op, .string (str nm), .int .i64 n, .slice A2 cs.length c2, .slice A ks.length c] 25))
    have HS1 := Lib.hid (Nat.le_trans hBw b1.size)
    have HO1 := Lib.hid (hr.under b1)
    have HA1 := Lib.hid (AppS.of_below hr b1 hBw)
    obtain ⟨Av, nv, cv', rfl, rfl⟩ := hr.shape
    have HL1 := Lib.hid (allL_len (hereX op nm) l)
    obtain ⟨l1, hl1⟩ : ∃ l1, l1 = allL l (hereX op nm) := ⟨_, rfl⟩
    rw [← hl1] at HL1
    have HEQ := Lib.hid (show allL l (occX (.mk op nm n cs ks)) = allL l1 ((readK op ks).flatMap occX) by rw [hO.out, allL_app, hl1])
    clear hop hn hb hl hc hnm hr hBw hWB hlen hlen1 b1 hO
    rcases op_kind op with rfl | rfl | rfl | rfl | rfl | ⟨d4, d11, d12, d9, d8⟩
    · have HE1 := Lib.hid (show moreL l nm = l1 by rw [hl1]; rfl)
      have HLL := Lib.hid (show l.length ≤ 2097152 by have := HLEN.out; omega)
      have HKE := Lib.hid (show readK 4 ks = ks from rfl)
      rw [HKE.out] at HEQ HLEN
      clear hl1
      go_enter Tryz.func16, Tryz.ntmps16
      go_wp2_with (go_at_call 28
                   (with_reducible refine (more_any HO1.out HS1.out HNM.out HLL.out).mono ?_)
                   rintro e w1 ⟨v1, rfl, h1⟩
                   rw [HE1.out] at h1
                   obtain ⟨V1, rfl⟩ : ∃ W, W = w1 := ⟨_, rfl⟩
                   have E1 := Lib.hid (h1.2.2 _ _ _ (by decide) E0.out)
                   have HA2 := Lib.hid (HA1.out.trans h1)
                   obtain ⟨A1, n1, c1, rfl, rfl⟩ := h1.1.shape
                   obtain ⟨p0, p1, p2, p3, p4⟩ := row5 E1.out
                   clear h1)
      go_loopg [0, 5] ks.length (fun g u v wr => ∃ k : Nat, k + g = ks.length ∧ v = .int .i64 k ∧ AppS B (allL l1 ((ks.take k).flatMap occX)) w u wr ∧ wr.heap[w.heap.size]? = some (.cells #[.int .i64 4, .string (str nm), .int .i64 n, .slice A2 cs.length c2, .slice A ks.length c] 25 (0, 0)))
      case atStart => exact ⟨0, by omega, rfl, by simpa [allL] using HA2.out, E1.out⟩
      case round =>
        obtain ⟨k, hkg, rfl, hak, hek⟩ := hrel
        obtain ⟨wq, rfl⟩ : ∃ W, W = wr := ⟨_, rfl⟩
        have HK := Lib.hid hkg
        have HAK := Lib.hid hak
        have HOK := Lib.hid hak.1
        have HSQ := Lib.hid (Nat.le_trans HBW.out hak.2.1.size)
        have EK := Lib.hid hek
        have HBQ := Lib.hid (HB.out.trans (hak.2.1.mono HWB.out))
        obtain ⟨Aq, nq, cq, rfl, rfl⟩ := hak.1.shape
        obtain ⟨q0, q1, q2, q3, q4⟩ := row5 hek
        have hkl : k ≤ ks.length := by omega
        clear hkg hak hek
        by_cases hlt : k < ks.length
        · obtain ⟨y, hy⟩ : ∃ y, ks[k]? = some y := ⟨_, List.getElem?_eq_getElem hlt⟩
          have hC := hk k y hy
          have hih := Lib.hid (ih k y hy)
          have hxk := hx k y hy
          have HF := Lib.hid (flatK occX hy)
          have HFL := Lib.hid (flatK_le occX ks (k + 1))
          obtain ⟨o1, s1, n1', B1, m1, k1, B2, m2, k2, hL⟩ := hxk.shape
          generalize C k = L at hC hih hxk hL
          subst hL
          clear hy hxk hk hx ih
          obtain ⟨a, rfl, ha, haa, d0, d1, d2, d3, d4⟩ := elem5 (hC.under HBQ.out)
          clear hC
          have HLK := Lib.hid (show (allL l1 ((ks.take k).flatMap occX)).length + (occX y).length ≤ 2097152 by
            have h1 := allL_len ((ks.take k).flatMap occX) l1
            have h2 := HFL.out
            rw [HF.out, List.length_append] at h2
            have h3 := HLEN.out
            have h4 := HL1.out
            omega)
          go_wp2_with (go_at_call 16
                       (with_reducible refine (hih.out B _ _ _ HWB.out HBQ.out HOK.out HSQ.out HLK.out).mono ?_)
                       rintro e w8 ⟨v8, rfl, h8⟩
                       obtain ⟨V8, rfl⟩ : ∃ W, W = w8 := ⟨_, rfl⟩
                       have E8 := Lib.hid (h8.2.2 _ _ _ (by decide) EK.out)
                       have HA8 := Lib.hid (HAK.out.trans h8)
                       clear h8)
          go_roundg (ks.length - (k + 1))
          case measure => have := HK.out; omega
          case rel => exact ⟨k + 1, by omega, by go_num, by rw [HF.out, allL_app]; exact HA8.out, E8.out⟩
        · have hke : k = ks.length := by omega
          have HRF := Lib.hid (show AppS B (allL l (occX (.mk 4 nm n cs ks))) w (.slice Aq (allL l1 ((ks.take k).flatMap occX)).length cq) wq by rw [HEQ.out]; have := HAK.out; rw [hke, List.take_length] at this; rwa [hke, List.take_length])
          clear hke
          go_wp2_with fail
          go_ret
          exact ⟨_, rfl, HRF.out⟩
    · have HE1 := Lib.hid (show moreL l nm = l1 by rw [hl1]; rfl)
      have HLL := Lib.hid (show l.length ≤ 2097152 by have := HLEN.out; omega)
      have HKE := Lib.hid (show readK 11 ks = ks from rfl)
      rw [HKE.out] at HEQ HLEN
      clear hl1
      go_enter Tryz.func16, Tryz.ntmps16
      go_wp2_with (go_at_call 28
                   (with_reducible refine (more_any HO1.out HS1.out HNM.out HLL.out).mono ?_)
                   rintro e w1 ⟨v1, rfl, h1⟩
                   rw [HE1.out] at h1
                   obtain ⟨V1, rfl⟩ : ∃ W, W = w1 := ⟨_, rfl⟩
                   have E1 := Lib.hid (h1.2.2 _ _ _ (by decide) E0.out)
                   have HA2 := Lib.hid (HA1.out.trans h1)
                   obtain ⟨A1, n1, c1, rfl, rfl⟩ := h1.1.shape
                   obtain ⟨p0, p1, p2, p3, p4⟩ := row5 E1.out
                   clear h1)
      go_loopg [0, 5] ks.length (fun g u v wr => ∃ k : Nat, k + g = ks.length ∧ v = .int .i64 k ∧ AppS B (allL l1 ((ks.take k).flatMap occX)) w u wr ∧ wr.heap[w.heap.size]? = some (.cells #[.int .i64 11, .string (str nm), .int .i64 n, .slice A2 cs.length c2, .slice A ks.length c] 25 (0, 0)))
      case atStart => exact ⟨0, by omega, rfl, by simpa [allL] using HA2.out, E1.out⟩
      case round =>
        obtain ⟨k, hkg, rfl, hak, hek⟩ := hrel
        obtain ⟨wq, rfl⟩ : ∃ W, W = wr := ⟨_, rfl⟩
        have HK := Lib.hid hkg
        have HAK := Lib.hid hak
        have HOK := Lib.hid hak.1
        have HSQ := Lib.hid (Nat.le_trans HBW.out hak.2.1.size)
        have EK := Lib.hid hek
        have HBQ := Lib.hid (HB.out.trans (hak.2.1.mono HWB.out))
        obtain ⟨Aq, nq, cq, rfl, rfl⟩ := hak.1.shape
        obtain ⟨q0, q1, q2, q3, q4⟩ := row5 hek
        have hkl : k ≤ ks.length := by omega
        clear hkg hak hek
        by_cases hlt : k < ks.length
        · obtain ⟨y, hy⟩ : ∃ y, ks[k]? = some y := ⟨_, List.getElem?_eq_getElem hlt⟩
          have hC := hk k y hy
          have hih := Lib.hid (ih k y hy)
          have hxk := hx k y hy
          have HF := Lib.hid (flatK occX hy)
          have HFL := Lib.hid (flatK_le occX ks (k + 1))
          obtain ⟨o1, s1, n1', B1, m1, k1, B2, m2, k2, hL⟩ := hxk.shape
          generalize C k = L at hC hih hxk hL
          subst hL
          clear hy hxk hk hx ih
          obtain ⟨a, rfl, ha, haa, d0, d1, d2, d3, d4⟩ := elem5 (hC.under HBQ.out)
          clear hC
          have HLK := Lib.hid (show (allL l1 ((ks.take k).flatMap occX)).length + (occX y).length ≤ 2097152 by
            have h1 := allL_len ((ks.take k).flatMap occX) l1
            have h2 := HFL.out
            rw [HF.out, List.length_append] at h2
            have h3 := HLEN.out
            have h4 := HL1.out
            omega)
          go_wp2_with (go_at_call 16
                       (with_reducible refine (hih.out B _ _ _ HWB.out HBQ.out HOK.out HSQ.out HLK.out).mono ?_)
                       rintro e w8 ⟨v8, rfl, h8⟩
                       obtain ⟨V8, rfl⟩ : ∃ W, W = w8 := ⟨_, rfl⟩
                       have E8 := Lib.hid (h8.2.2 _ _ _ (by decide) EK.out)
                       have HA8 := Lib.hid (HAK.out.trans h8)
                       clear h8)
          go_roundg (ks.length - (k + 1))
          case measure => have := HK.out; omega
          case rel => exact ⟨k + 1, by omega, by go_num, by rw [HF.out, allL_app]; exact HA8.out, E8.out⟩
        · have hke : k = ks.length := by omega
          have HRF := Lib.hid (show AppS B (allL l (occX (.mk 11 nm n cs ks))) w (.slice Aq (allL l1 ((ks.take k).flatMap occX)).length cq) wq by rw [HEQ.out]; have := HAK.out; rw [hke, List.take_length] at this; rwa [hke, List.take_length])
          clear hke
          go_wp2_with fail
          go_ret
          exact ⟨_, rfl, HRF.out⟩
    · have HE1 := Lib.hid (show moreL l nm = l1 by rw [hl1]; rfl)
      have HLL := Lib.hid (show l.length ≤ 2097152 by have := HLEN.out; omega)
      have HKE := Lib.hid (show readK 12 ks = ks from rfl)
      rw [HKE.out] at HEQ HLEN
      clear hl1
      go_enter Tryz.func16, Tryz.ntmps16
      go_wp2_with (go_at_call 28
                   (with_reducible refine (more_any HO1.out HS1.out HNM.out HLL.out).mono ?_)
                   rintro e w1 ⟨v1, rfl, h1⟩
                   rw [HE1.out] at h1
                   obtain ⟨V1, rfl⟩ : ∃ W, W = w1 := ⟨_, rfl⟩
                   have E1 := Lib.hid (h1.2.2 _ _ _ (by decide) E0.out)
                   have HA2 := Lib.hid (HA1.out.trans h1)
                   obtain ⟨A1, n1, c1, rfl, rfl⟩ := h1.1.shape
                   obtain ⟨p0, p1, p2, p3, p4⟩ := row5 E1.out
                   clear h1)
      go_loopg [0, 5] ks.length (fun g u v wr => ∃ k : Nat, k + g = ks.length ∧ v = .int .i64 k ∧ AppS B (allL l1 ((ks.take k).flatMap occX)) w u wr ∧ wr.heap[w.heap.size]? = some (.cells #[.int .i64 12, .string (str nm), .int .i64 n, .slice A2 cs.length c2, .slice A ks.length c] 25 (0, 0)))
      case atStart => exact ⟨0, by omega, rfl, by simpa [allL] using HA2.out, E1.out⟩
      case round =>
        obtain ⟨k, hkg, rfl, hak, hek⟩ := hrel
        obtain ⟨wq, rfl⟩ : ∃ W, W = wr := ⟨_, rfl⟩
        have HK := Lib.hid hkg
        have HAK := Lib.hid hak
        have HOK := Lib.hid hak.1
        have HSQ := Lib.hid (Nat.le_trans HBW.out hak.2.1.size)
        have EK := Lib.hid hek
        have HBQ := Lib.hid (HB.out.trans (hak.2.1.mono HWB.out))
        obtain ⟨Aq, nq, cq, rfl, rfl⟩ := hak.1.shape
        obtain ⟨q0, q1, q2, q3, q4⟩ := row5 hek
        have hkl : k ≤ ks.length := by omega
        clear hkg hak hek
        by_cases hlt : k < ks.length
        · obtain ⟨y, hy⟩ : ∃ y, ks[k]? = some y := ⟨_, List.getElem?_eq_getElem hlt⟩
          have hC := hk k y hy
          have hih := Lib.hid (ih k y hy)
          have hxk := hx k y hy
          have HF := Lib.hid (flatK occX hy)
          have HFL := Lib.hid (flatK_le occX ks (k + 1))
          obtain ⟨o1, s1, n1', B1, m1, k1, B2, m2, k2, hL⟩ := hxk.shape
          generalize C k = L at hC hih hxk hL
          subst hL
          clear hy hxk hk hx ih
          obtain ⟨a, rfl, ha, haa, d0, d1, d2, d3, d4⟩ := elem5 (hC.under HBQ.out)
          clear hC
          have HLK := Lib.hid (show (allL l1 ((ks.take k).flatMap occX)).length + (occX y).length ≤ 2097152 by
            have h1 := allL_len ((ks.take k).flatMap occX) l1
            have h2 := HFL.out
            rw [HF.out, List.length_append] at h2
            have h3 := HLEN.out
            have h4 := HL1.out
            omega)
          go_wp2_with (go_at_call 16
                       (with_reducible refine (hih.out B _ _ _ HWB.out HBQ.out HOK.out HSQ.out HLK.out).mono ?_)
                       rintro e w8 ⟨v8, rfl, h8⟩
                       obtain ⟨V8, rfl⟩ : ∃ W, W = w8 := ⟨_, rfl⟩
                       have E8 := Lib.hid (h8.2.2 _ _ _ (by decide) EK.out)
                       have HA8 := Lib.hid (HAK.out.trans h8)
                       clear h8)
          go_roundg (ks.length - (k + 1))
          case measure => have := HK.out; omega
          case rel => exact ⟨k + 1, by omega, by go_num, by rw [HF.out, allL_app]; exact HA8.out, E8.out⟩
        · have hke : k = ks.length := by omega
          have HRF := Lib.hid (show AppS B (allL l (occX (.mk 12 nm n cs ks))) w (.slice Aq (allL l1 ((ks.take k).flatMap occX)).length cq) wq by rw [HEQ.out]; have := HAK.out; rw [hke, List.take_length] at this; rwa [hke, List.take_length])
          clear hke
          go_wp2_with fail
          go_ret
          exact ⟨_, rfl, HRF.out⟩
    · have HE1 := Lib.hid (show l = l1 by rw [hl1]; rfl)
      clear hl1
      obtain rfl := HE1.out
      obtain ⟨p0, p1, p2, p3, p4⟩ := row5 E0.out
      have HRF := Lib.hid (show AppS B (allL l (occX (.mk 9 nm n cs ks))) w (.slice Av l.length cv') (w.alloc (.cells #[.int .i64 9, .string (str nm), .int .i64 n, .slice A2 cs.length c2, .slice A ks.length c] 25)) by rw [HEQ.out]; exact HA1.out)
      go_enter Tryz.func16, Tryz.ntmps16
      go_wp2_with fail
      go_ret
      exact ⟨_, rfl, HRF.out⟩
    · have HE1 := Lib.hid (show l = l1 by rw [hl1]; rfl)
      have HKE := Lib.hid (show readK 8 ks = ks.take 1 from rfl)
      rw [HKE.out] at HEQ HLEN
      clear hl1
      obtain rfl := HE1.out
      have HA2 := Lib.hid HA1.out
      have E1 := Lib.hid E0.out
      obtain ⟨p0, p1, p2, p3, p4⟩ := row5 E1.out
      go_enter Tryz.func16, Tryz.ntmps16
      go_wp2_with fail
      go_loopg [0, 5] ks.length (fun g u v wr => ∃ k : Nat, k + g = ks.length ∧ v = .int .i64 k ∧ AppS B (allL l (((ks.take 1).take k).flatMap occX)) w u wr ∧ wr.heap[w.heap.size]? = some (.cells #[.int .i64 8, .string (str nm), .int .i64 n, .slice A2 cs.length c2, .slice A ks.length c] 25 (0, 0)))
      case atStart => exact ⟨0, by omega, rfl, by simpa [allL] using HA2.out, E1.out⟩
      case round =>
        obtain ⟨k, hkg, rfl, hak, hek⟩ := hrel
        obtain ⟨wq, rfl⟩ : ∃ W, W = wr := ⟨_, rfl⟩
        have HK := Lib.hid hkg
        have HAK := Lib.hid hak
        have HOK := Lib.hid hak.1
        have HSQ := Lib.hid (Nat.le_trans HBW.out hak.2.1.size)
        have EK := Lib.hid hek
        have HBQ := Lib.hid (HB.out.trans (hak.2.1.mono HWB.out))
        obtain ⟨Aq, nq, cq, rfl, rfl⟩ := hak.1.shape
        obtain ⟨q0, q1, q2, q3, q4⟩ := row5 hek
        have hkl : k ≤ ks.length := by omega
        clear hkg hak hek
        by_cases hlt : k < ks.length
        · by_cases hk0 : k = 0
          case' pos =>
           obtain ⟨y, hy⟩ : ∃ y, ks[k]? = some y := ⟨_, List.getElem?_eq_getElem hlt⟩
           have hy1 : (ks.take 1)[k]? = some y := by rw [List.getElem?_take, if_pos (by omega)]; exact hy
           have hz : ((k : Int) == 0) = true := by simpa using hk0
           clear hk0
           have hC := hk k y hy
           have hih := Lib.hid (ih k y hy)
           have hxk := hx k y hy
           have HF := Lib.hid (flatK occX hy1)
           have HFL := Lib.hid (flatK_le occX (ks.take 1) (k + 1))
           obtain ⟨o1, s1, n1', B1, m1, k1, B2, m2, k2, hL⟩ := hxk.shape
           generalize C k = L at hC hih hxk hL
           subst hL
           clear hy hy1 hxk hk hx ih
           obtain ⟨a, rfl, ha, haa, d0, d1, d2, d3, d4⟩ := elem5 (hC.under HBQ.out)
           clear hC
           have HLK := Lib.hid (show (allL l (((ks.take 1).take k).flatMap occX)).length + (occX y).length ≤ 2097152 by
             have h1 := allL_len (((ks.take 1).take k).flatMap occX) l
             have h2 := HFL.out
             rw [HF.out, List.length_append] at h2
             have h3 := HLEN.out
             have h4 := HL1.out
             omega)
           go_wp2_with (go_at_call 16
                        (with_reducible refine (hih.out B _ _ _ HWB.out HBQ.out HOK.out HSQ.out HLK.out).mono ?_)
                        rintro e w8 ⟨v8, rfl, h8⟩
                        obtain ⟨V8, rfl⟩ : ∃ W, W = w8 := ⟨_, rfl⟩
                        have E8 := Lib.hid (h8.2.2 _ _ _ (by decide) EK.out)
                        have HA8 := Lib.hid (HAK.out.trans h8)
                        clear h8)
           go_roundg (ks.length - (k + 1))
           case measure => have := HK.out; omega
           case rel => exact ⟨k + 1, by omega, by go_num, by rw [HF.out, allL_app]; exact HA8.out, E8.out⟩
          case' neg =>
           have hz : ((k : Int) == 0) = false := by simpa using hk0
           have HSK := Lib.hid (show ((ks.take 1).take (k + 1)).flatMap occX = ((ks.take 1).take k).flatMap occX by rw [take1_ge _ hk0, take1_ge _ (by omega)])
           clear hk0
           go_wp2_with fail
           go_roundg (ks.length - (k + 1))
           case measure => have := HK.out; omega
           case rel => exact ⟨k + 1, by omega, by go_num, by rw [HSK.out]; exact HAK.out, EK.out⟩
        · have hke : k = ks.length := by omega
          have HRF := Lib.hid (show AppS B (allL l (occX (.mk 8 nm n cs ks))) w (.slice Aq (allL l (((ks.take 1).take k).flatMap occX)).length cq) wq by rw [HEQ.out]; have := HAK.out; rw [hke, take_all1] at this; rwa [hke, take_all1])
          clear hke
          go_wp2_with fail
          go_ret
          exact ⟨_, rfl, HRF.out⟩
    · have HE1 := Lib.hid (show l = l1 by rw [hl1]; unfold hereX readsN; rw [if_neg (by simp [d4, d11, d12])]; rfl)
      have HKE := Lib.hid (show readK op ks = ks by unfold readK; rw [if_neg d9, if_neg d8])
      rw [HKE.out] at HEQ HLEN
      have e4 : ((op : Int) == 4) = false := by simpa using d4
      have e11 : ((op : Int) == 11) = false := by simpa using d11
      have e12 : ((op : Int) == 12) = false := by simpa using d12
      have e9 : ((op : Int) == 9) = false := by simpa using d9
      have e8 : ((op : Int) != 8) = true := by simpa using d8
      clear hl1 d4 d11 d12 d9 d8
      obtain rfl := HE1.out
      have HA2 := Lib.hid HA1.out
      have E1 := Lib.hid E0.out
      obtain ⟨p0, p1, p2, p3, p4⟩ := row5 E1.out
      go_enter Tryz.func16, Tryz.ntmps16
      go_wp2_with fail
      go_loopg [0, 5] ks.length (fun g u v wr => ∃ k : Nat, k + g = ks.length ∧ v = .int .i64 k ∧ AppS B (allL l ((ks.take k).flatMap occX)) w u wr ∧ wr.heap[w.heap.size]? = some (.cells #[.int .i64 op, .string (str nm), .int .i64 n, .slice A2 cs.length c2, .slice A ks.length c] 25 (0, 0)))
      case atStart => exact ⟨0, by omega, rfl, by simpa [allL] using HA2.out, E1.out⟩
      case round =>
        obtain ⟨k, hkg, rfl, hak, hek⟩ := hrel
        obtain ⟨wq, rfl⟩ : ∃ W, W = wr := ⟨_, rfl⟩
        have HK := Lib.hid hkg
        have HAK := Lib.hid hak
        have HOK := Lib.hid hak.1
        have HSQ := Lib.hid (Nat.le_trans HBW.out hak.2.1.size)
        have EK := Lib.hid hek
        have HBQ := Lib.hid (HB.out.trans (hak.2.1.mono HWB.out))
        obtain ⟨Aq, nq, cq, rfl, rfl⟩ := hak.1.shape
        obtain ⟨q0, q1, q2, q3, q4⟩ := row5 hek
        have hkl : k ≤ ks.length := by omega
        clear hkg hak hek
        by_cases hlt : k < ks.length
        · obtain ⟨y, hy⟩ : ∃ y, ks[k]? = some y := ⟨_, List.getElem?_eq_getElem hlt⟩
          have hC := hk k y hy
          have hih := Lib.hid (ih k y hy)
          have hxk := hx k y hy
          have HF := Lib.hid (flatK occX hy)
          have HFL := Lib.hid (flatK_le occX ks (k + 1))
          obtain ⟨o1, s1, n1', B1, m1, k1, B2, m2, k2, hL⟩ := hxk.shape
          generalize C k = L at hC hih hxk hL
          subst hL
          clear hy hxk hk hx ih
          obtain ⟨a, rfl, ha, haa, d0, d1, d2, d3, d4⟩ := elem5 (hC.under HBQ.out)
          clear hC
          have HLK := Lib.hid (show (allL l ((ks.take k).flatMap occX)).length + (occX y).length ≤ 2097152 by
            have h1 := allL_len ((ks.take k).flatMap occX) l
            have h2 := HFL.out
            rw [HF.out, List.length_append] at h2
            have h3 := HLEN.out
            have h4 := HL1.out
            omega)
          go_wp2_with (go_at_call 16
                       (with_reducible refine (hih.out B _ _ _ HWB.out HBQ.out HOK.out HSQ.out HLK.out).mono ?_)
                       rintro e w8 ⟨v8, rfl, h8⟩
                       obtain ⟨V8, rfl⟩ : ∃ W, W = w8 := ⟨_, rfl⟩
                       have E8 := Lib.hid (h8.2.2 _ _ _ (by decide) EK.out)
                       have HA8 := Lib.hid (HAK.out.trans h8)
                       clear h8)
          go_roundg (ks.length - (k + 1))
          case measure => have := HK.out; omega
          case rel => exact ⟨k + 1, by omega, by go_num, by rw [HF.out, allL_app]; exact HA8.out, E8.out⟩
        · have hke : k = ks.length := by omega
          have HRF := Lib.hid (show AppS B (allL l (occX (.mk op nm n cs ks))) w (.slice Aq (allL l ((ks.take k).flatMap occX)).length cq) wq by rw [HEQ.out]; have := HAK.out; rw [hke, List.take_length] at this; rwa [hke, List.take_length])
          clear hke
          go_wp2_with fail
          go_ret
          exact ⟨_, rfl, HRF.out⟩
set_option maxHeartbeats 1000000 in
set_option maxRecDepth 100000 in
theorem readsR_all {w0 : World} {L : List Value} {x : Ex} (h : ExAt w0 L x) (hlen : (occX x).length ≤ 2097152) (w : World) (hb : Below w0.heap.size w0 w) : Calls Tryz.prog 9 #[.agg L.toArray] w (ReadPost (readsX x) w) := by
  obtain ⟨o1, s1, n1, A1, m1, k1, A2, m2, k2, rfl⟩ := h.shape
  have b1 : Below w.heap.size w (w.alloc (.cells #[.int .i64 o1, .string s1, .int .i64 n1, .slice A1 m1 k1, .slice A2 m2 k2] 25)) := (Below.refl _ w).alloc (Nat.le_refl _) _
  have HR := Lib.hid (readsR_any h w.heap.size (.slice none 0 0) [] (w.alloc (.cells #[.int .i64 o1, .string s1, .int .i64 n1, .slice A1 m1 k1, .slice A2 m2 k2] 25)) hb.size (hb.trans (b1.mono hb.size)) (OwnS.nil _ _) b1.size (by simpa using hlen))
  have HB1 := Lib.hid b1
  clear h hb hlen b1
  go_enter Tryz.func9, Tryz.ntmps9
  go_wp2_with (go_at_call 16
               (with_reducible refine HR.out.mono ?_)
               rintro e w8 ⟨v8, rfl, h8⟩
               obtain ⟨V8, rfl⟩ : ∃ W, W = w8 := ⟨_, rfl⟩
               have HO8 := Lib.hid h8.1
               have HK8 := Lib.hid (HB1.out.trans h8.2.1)
               obtain ⟨A8, n8, c8, rfl, rfl⟩ := h8.1.shape
               clear h8)
  go_ret
  exact ⟨_, rfl, HO8.out, HK8.out⟩
end Go.Proofs.YtifbdglhfoimjaaGreatDoor
