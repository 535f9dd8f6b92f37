/-
  add: what an expression reads, behind what has been read.
-/
import Derived.Test.YtifbdglhfoimjaaGreatDoorCauName
namespace Go.Proofs.YtifbdglhfoimjaaGreatDoor
open Go.RowKit

theorem readKids_ok {ks : List Ex} {A : Option Addr} {c : Nat} (hA : A = none → ks = []) (hc : ks.length ≤ c) (op n : Int) (nm : Tx) (A1 : Option Addr) (a b : Nat) (w : World) :
    Calls Tryz.prog 27 #[.agg #[.int .i64 op, .string (str nm), .int .i64 n, .slice A1 a b, .slice A ks.length c]] w (fun e w' => (∃ A' c', e = .returned (.slice A' (readK op ks).length c') ∧ (readK op ks ≠ [] → A' = A)) ∧ Below w.heap.size w w') := by
  cases A with
  | none =>
    have hk := hA rfl
    subst hk
    refine (readKids_nil op n nm A1 a b c w).mono fun e w' h => ?_
    obtain ⟨⟨c', rfl⟩, hb⟩ := h
    have hr : readK op ([] : List Ex) = [] := by unfold readK; split <;> simp
    exact ⟨⟨none, c', by rw [hr]; rfl, fun h => absurd hr h⟩, hb⟩
  | some A =>
    refine (readKids_any op n nm A1 A a b ks.length c hc w).mono fun e w' h => ?_
    obtain ⟨rfl, hb⟩ := h
    refine ⟨?_, hb⟩
    unfold kidsV readK
    by_cases h9 : op = 9
    · rw [if_pos h9, if_pos h9]; exact ⟨none, 0, rfl, fun h => absurd rfl h⟩
    · rw [if_neg h9, if_neg h9]
      by_cases h8 : op = 8
      · rw [if_pos h8, if_pos h8]; exact ⟨some A, c, by rw [List.length_take], fun _ => rfl⟩
      · rw [if_neg h8, if_neg h8]; exact ⟨some A, c, rfl, fun _ => rfl⟩
theorem readK_get {X : Type} {op : Int} {l : List X} {i : Nat} {x : X} (h : (readK op l)[i]? = some x) : l[i]? = some x := by
  unfold readK at h
  split at h
  · cases h
  · split at h
    · rw [List.getElem?_take] at h
      split at h
      · exact h
      · cases h
    · exact h
theorem flatK {X Y : Type} (f : X → List Y) {l : List X} {k : Nat} {x : X} (h : l[k]? = some x) : (l.take (k + 1)).flatMap f = (l.take k).flatMap f ++ f x := by
  rw [take_snoc h, List.flatMap_append]; simp
theorem flatK_le {X Y : Type} (f : X → List Y) (l : List X) (k : Nat) : ((l.take k).flatMap f).length ≤ (l.flatMap f).length := by
  have : l.flatMap f = (l.take k).flatMap f ++ (l.drop k).flatMap f := by rw [← List.flatMap_append, List.take_append_drop]
  rw [this, List.length_append]
  omega
set_option maxHeartbeats 2000000 in
set_option maxRecDepth 100000 in
theorem add_any {w0 : World} {L : List Value} {x : Ex} (h : ExAt w0 L x) : ∀ (N B : Nat) (l : List Tx) (w : World), w0.heap.size ≤ B → Below w0.heap.size w0 w → RdAt N B w l → B ≤ w.heap.size → l.length + (occX x).length ≤ 2097152 →
    Calls Tryz.prog 15 #[.pointer (some ⟨N, 0, none⟩), .agg L.toArray] w (RdPost N B (allL l (occX x)) w) := by
  induction h with
  | @mk op nm n cs ks cv A c C hop hnm hn hcs hl hc hk hx ih =>
    intro N B l w hWB hb hr hBw hlen
    have hA : A = none → ks = [] := fun e => by
      cases ks with
      | nil => rfl
      | cons k r => obtain ⟨a, ha, _⟩ := hk 0 k rfl; rw [e] at ha; cases ha
    have hO := Lib.hid (occX_mk op nm n cs ks)
    have hlen1 : l.length + (hereX op nm).length + ((readK op ks).flatMap occX).length ≤ 2097152 := by
      rw [hO.out, List.length_append] at hlen; omega
    have HLEN := Lib.hid hlen1
    have HR := Lib.hid hr
    have HB := Lib.hid hb
    have HWB := Lib.hid hWB
    have HBW := Lib.hid hBw
    have HNM := Lib.hid hnm
    obtain ⟨A2, c2, rfl, _⟩ := hcs
    have HRK := Lib.hid (fun W => readKids_ok hA hl op n nm A2 cs.length c2 W)
    have b1 : Below w.heap.size w (w.alloc (.cells #[.int .i64 op, .string (str nm), .int .i64 n, .slice A2 cs.length c2, .slice A ks.length c] 25)) := (Below.refl _ w).alloc (Nat.le_refl _) _
    have HB1 := Lib.hid b1
    have E0 := Lib.hid (heap_alloc_new w (.cells #[.int .i64 op, .string (str nm), .int .i64 n, .slice A2 cs.length c2, .slice A ks.length c] 25))
    have hNw : N ≠ w.heap.size := by have := hr.lt; omega
    have HNW := Lib.hid hNw
    have hml : (readK op ks).length ≤ 9223372036854775807 := by
      have : (readK op ks).length ≤ ks.length := by
        unfold readK
        split
        · simp
        · split
          · rw [List.length_take]; omega
          · exact Nat.le_refl _
      unfold maxLen at hc
      omega
    have HML := Lib.hid hml
    clear hop hn hb hl hc hnm hr hBw hWB hA hlen hlen1 b1 hNw
    have HL1 := Lib.hid (allL_len (hereX op nm) l)
    obtain ⟨l1, hl1⟩ : ∃ l1, l1 = allL l (hereX op nm) := ⟨_, rfl⟩
    rw [← hl1] at HL1
    have HEQ := Lib.hid (show allL l (occX (.mk op nm n cs ks)) = allL l1 ((readK op ks).flatMap occX) by rw [hO.out, allL_app, hl1])
    clear hO
    by_cases hq : readsN op = true
    case' pos =>
      have HQ := Lib.hid hq
      have HR1 := Lib.hid (HR.out.under HB1.out)
      have HE1 := Lib.hid (show moreL l nm = l1 by rw [hl1]; unfold hereX; rw [if_pos hq]; rfl)
      have HLL := Lib.hid (show l.length ≤ 2097152 by have := HLEN.out; omega)
      clear hq hl1
      go_enter Tryz.func15, Tryz.ntmps15
      go_wp2_with (first
        | (go_at_call 25
           (with_reducible refine (readsName_any _ _ _ _ _ _ _ _ _ _).mono ?_)
           rintro e w1 ⟨he, hb1⟩
           rw [HQ.out] at he
           subst he
           obtain ⟨V1, rfl⟩ : ∃ W, W = w1 := ⟨_, rfl⟩
           have E1 := Lib.hid (box_next hb1 E0.out)
           have HB2 := Lib.hid (HB1.out.trans (hb1.mono HB1.out.size))
           have HR2 := Lib.hid (HR1.out.under hb1)
           obtain ⟨p0, p1, p2, p3, p4⟩ := row5 E1.out
           clear hb1)
        | (go_at_call 26
           (with_reducible refine (addName_any HR2.out (Nat.le_trans HBW.out HB2.out.size) HNM.out HLL.out).mono ?_)
           rintro e w7 ⟨rfl, hr7, hk7⟩
           rw [HE1.out] at hr7
           obtain ⟨V7, rfl⟩ : ∃ W, W = w7 := ⟨_, rfl⟩
           have E7 := Lib.hid (hk7.2 _ _ _ (by decide) HNW.out.symm E1.out)
           have HR7 := Lib.hid hr7
           have HK7 := Lib.hid ((RdKept.of_below HB2.out HBW.out).trans hk7)
           obtain ⟨q0, q1, q2, q3, q4⟩ := row5 E7.out
           clear hr7 hk7 p0 p1 p2 p3 p4)
        | (go_at_call 27
           (with_reducible refine (HRK.out _).mono ?_)
           rintro e w2 ⟨⟨A', c', rfl, hA'⟩, hb2⟩
           obtain ⟨V2, rfl⟩ : ∃ W, W = w2 := ⟨_, rfl⟩
           have E2 := Lib.hid (box_next hb2 E7.out)
           have HK2 := Lib.hid (HK7.out.trans (RdKept.of_below hb2 (Nat.le_trans HBW.out HK7.out.1.size)))
           have HRV := Lib.hid (HR7.out.under hb2)
           have HA' := Lib.hid hA'
           clear hb2 hA' q0 q1 q2 q3 q4))
    case' neg =>
      have HQ := Lib.hid (show readsN op = false by simpa using hq)
      have HR1 := Lib.hid (HR.out.under HB1.out)
      have HE1 := Lib.hid (show l = l1 by rw [hl1]; unfold hereX; rw [if_neg hq]; rfl)
      clear hq hl1
      go_enter Tryz.func15, Tryz.ntmps15
      go_wp2_with (first
        | (go_at_call 25
           (with_reducible refine (readsName_any _ _ _ _ _ _ _ _ _ _).mono ?_)
           rintro e w1 ⟨he, hb1⟩
           rw [HQ.out] at he
           subst he
           obtain ⟨V1, rfl⟩ : ∃ W, W = w1 := ⟨_, rfl⟩
           have E1 := Lib.hid (box_next hb1 E0.out)
           have HB2 := Lib.hid (HB1.out.trans (hb1.mono HB1.out.size))
           have HR2 := Lib.hid (HR1.out.under hb1)
           obtain ⟨p0, p1, p2, p3, p4⟩ := row5 E1.out
           clear hb1)
        | (go_at_call 27
           (with_reducible refine (HRK.out _).mono ?_)
           rintro e w2 ⟨⟨A', c', rfl, hA'⟩, hb2⟩
           obtain ⟨V2, rfl⟩ : ∃ W, W = w2 := ⟨_, rfl⟩
           have E2 := Lib.hid (box_next hb2 E1.out)
           have HK2 := Lib.hid ((RdKept.of_below (N := N) HB2.out HBW.out).trans (RdKept.of_below hb2 (Nat.le_trans HBW.out HB2.out.size)))
           have HRV := Lib.hid (show RdAt N B V2 l1 by rw [← HE1.out]; exact HR2.out.under hb2)
           have HA' := Lib.hid hA'
           clear hb2 hA' p0 p1 p2 p3 p4))
    all_goals
      go_loopg [15] (readK op ks).length (fun g v wr => ∃ k : Nat, k + g = (readK op ks).length ∧ v = .int .i64 k ∧ RdAt N B wr (allL l1 (((readK op ks).take k).flatMap occX)) ∧ RdKept N B w wr)
      case atStart => exact ⟨0, by omega, rfl, by simpa [allL] using HRV.out, HK2.out⟩
      case round =>
        obtain ⟨k, hkg, rfl, hrk, hkk⟩ := hrel
        obtain ⟨wq, rfl⟩ : ∃ W, W = wr := ⟨_, rfl⟩
        have HK := Lib.hid hkg
        have HRQ := Lib.hid hrk
        have HKQ := Lib.hid hkk
        have hkl : k ≤ (readK op ks).length := by omega
        clear hkg hrk hkk
        by_cases hlt : k < (readK op ks).length
        · obtain ⟨y, hy⟩ : ∃ y, (readK op ks)[k]? = some y := ⟨_, List.getElem?_eq_getElem hlt⟩
          have hyk := readK_get hy
          have hne : A' = A := HA'.out (fun e => by rw [e] at hlt; exact absurd hlt (by simp))
          subst hne
          have hC := hk k y hyk
          have hih := Lib.hid (ih k y hyk)
          have hxk := hx k y hyk
          have HF := Lib.hid (flatK occX hy)
          have HFL := Lib.hid (flatK_le occX (readK op ks) (k + 1))
          obtain ⟨o1, s1, n1', A1, m1, k1, A2', m2, k2, hL⟩ := hxk.shape
          generalize C k = L at hC hih hxk hL
          subst hL
          clear hy hyk hxk hk hx ih
          have hB0 := Lib.hid (HB.out.trans (HKQ.out.1.mono HWB.out))
          obtain ⟨a, rfl, ha, haa, d0, d1, d2, d3, d4⟩ := elem5 (hC.under hB0.out)
          clear hC
          have HLK := Lib.hid (show (allL l1 (((readK op ks).take k).flatMap occX)).length + (occX y).length ≤ 2097152 by
            have h1 := allL_len (((readK op ks).take k).flatMap occX) l1
            have h2 := HFL.out
            rw [HF.out, List.length_append] at h2
            have h3 := HLEN.out
            have h4 := HL1.out
            omega)
          have bq : Below wq.heap.size wq (wq.alloc (.cells #[.int .i64 o1, .string s1, .int .i64 n1', .slice A1 m1 k1, .slice A2' m2 k2] 25)) := (Below.refl _ wq).alloc (Nat.le_refl _) _
          have HBQ := Lib.hid bq
          have HBB := Lib.hid (hB0.out.trans (bq.mono (Nat.le_trans HWB.out (Nat.le_trans HBW.out HKQ.out.1.size))))
          have HRB := Lib.hid (HRQ.out.under bq)
          have HS1 := Lib.hid (Nat.le_trans HBW.out HKQ.out.1.size)
          have HS2 := Lib.hid (Nat.le_trans HS1.out bq.size)
          clear bq
          go_wp2_with (go_at_call 15
                       (with_reducible refine (hih.out N B _ _ HWB.out HBB.out HRB.out HS2.out HLK.out).mono ?_)
                       rintro e w8 ⟨rfl, hr8, hk8⟩
                       obtain ⟨V8, rfl⟩ : ∃ W, W = w8 := ⟨_, rfl⟩
                       have HR8 := Lib.hid hr8
                       have HK8 := Lib.hid (HKQ.out.trans ((RdKept.of_below HBQ.out HS1.out).trans hk8))
                       clear hr8 hk8)
          go_roundg ((readK op ks).length - (k + 1))
          case measure => have := HK.out; omega
          case rel => exact ⟨k + 1, by omega, by go_num, by rw [HF.out, allL_app]; exact HR8.out, HK8.out⟩
        · have hke : k = (readK op ks).length := by omega
          have HRF := Lib.hid (show RdAt N B wq (allL l (occX (.mk op nm n cs ks))) by rw [HEQ.out]; have := HRQ.out; rwa [hke, List.take_length] at this)
          clear hke
          go_wp2_with fail
          exact bodyPost_ret (results_none rfl _ _ _) rfl ⟨rfl, HRF.out, HKQ.out⟩
end Go.Proofs.YtifbdglhfoimjaaGreatDoor
