/-
  Texts joined.
-/
import Derived.Test.YtlhmdjhfmhkllaaGreatDoorKb42
namespace Go.Proofs.YtlhmdjhfmhkllaaGreatDoor
open Go.RowKit
def extraM (made : Bool) (op : Int) (cs : List Tx) (ks : List Ex) : Bool :=
  if op = 11 then allM cs 1 1 (conM made)
  else if op = 12 ∨ op = 13 then cs.length == ks.length && allM cs 1 8 (conM made)
  else if op = 14 then allM cs 0 6 (nameM made)
  else if op = 15 then (ks.headD (.mk 0 [] 0 [] [])).op == 14
  else true
theorem len0 {X : Type} (l : List X) : l.isEmpty = decide (l.length = 0) := by cases l <;> simp
theorem allM_int {X : Type} (l : List X) (a b : Nat) (f : X → Bool) : allM l a b f = (decide ((a : Int) ≤ l.length) && decide ((l.length : Int) ≤ b) && l.all f) := by simp only [allM, Int.ofNat_le]
theorem shape_split (made : Bool) (op : Int) (nm : Tx) (n : Int) (cs : List Tx) (ks : List Ex) : shapeM made op nm n cs ks = (rshapeV made op nm n cs.length ks.length && extraM made op cs ks) := by
  have hb : binsL.contains nm = binsL.any (nm == ·) := (by rw [List.contains_eq_any_beq]); rcases op_casesR op with rfl | rfl | rfl | rfl | rfl | rfl | rfl | rfl | rfl | rfl | rfl | rfl | rfl | rfl | rfl | ⟨h1, h2, h3, h4, h5, h6, h7, h8, h9, h10, h11, h12, h13, h14, h15⟩; all_goals rw [Bool.eq_iff_iff]
  all_goals simp only [shapeM, rshapeV, extraM, len0, allM, hb]
  all_goals simp
  all_goals first
    | omega
    | exact ⟨fun ⟨⟨x, y, p⟩, e⟩ => ⟨⟨⟨x, by omega⟩, e⟩, y, p⟩, fun ⟨⟨⟨x, _⟩, e⟩, y, p⟩ => ⟨⟨x, y, p⟩, e⟩⟩
    | exact ⟨fun ⟨⟨x, y, p⟩, e⟩ => ⟨⟨⟨x, y⟩, by omega, by omega⟩, e.symm, y, p⟩, fun ⟨⟨⟨x, _⟩, _⟩, e, y, p⟩ => ⟨⟨x, y, p⟩, e.symm⟩⟩
    | exact ⟨fun ⟨⟨x, y, p⟩, e⟩ => ⟨⟨⟨x, y⟩, e⟩, y, p⟩, fun ⟨⟨⟨x, _⟩, e⟩, y, p⟩ => ⟨⟨x, y, p⟩, e⟩⟩
    | exact and_assoc.symm
    | simp [*]
set_option maxHeartbeats 4000000 in
set_option maxRecDepth 100000 in
theorem rExpr_any (made : Bool) {w0 : World} {L : List Value} {x : Ex} (h : ExAt w0 L x) : ∀ w, Below w0.heap.size w0 w → Calls Tryz.prog 13 #[.agg L.toArray, .bool made] w (BoolPost (rightX made x) w) := by
  induction h with
  | @mk op nm n cs ks cv A c C hop hnm hn hcs hl hc hk hx ih =>
    intro w hb; have HC1 := Lib.hid (rCons_any hcs 1 1 made); have HC2 := Lib.hid (rCons_any hcs 1 8 made); have HC3 := Lib.hid (rNames_any hcs 0 6 made); obtain ⟨A1, c1, rfl, hc1, hm1, _⟩ := hcs; have hlm : ks.length ≤ 9223372036854775807 := (by unfold maxLen at hc; omega); have hlc : cs.length ≤ 9223372036854775807 := (by unfold maxLen at hm1; omega); have HS := Lib.hid (fun w => rshape_any op n nm made A1 A cs.length ks.length c1 c w hnm hlc hlm); have HB := Lib.hid hb; have hsz := hb.size; have HKS := Lib.hid hk; have HXS := Lib.hid hx; have HIH := Lib.hid ih; have hr : rightX made (.mk op nm n cs ks) = (rshapeV made op nm n cs.length ks.length && extraM made op cs ks && ks.all (rightX made)) := by
      rw [rightX, rightXs_all, shape_split]
    have HR := Lib.hid hr; clear hop hn hb hl hc hnm hc1 hm1 hk hx ih hr; cases hsh : rshapeV made op nm n cs.length ks.length
    · rw [hsh] at HS HR; rw [Bool.false_and, Bool.false_and] at HR; clear hsh; go_enter Tryz.func13, Tryz.ntmps13
      go_wp2_with (go_at_call 33; (with_reducible refine (HS.out _).mono ?_); rintro e w7 ⟨rfl, hb7⟩; obtain ⟨z1, rfl⟩ : ∃ W, W = w7 := ⟨_, rfl⟩; have B1 := Lib.hid (box_next hb7 (heap_alloc_new w _)); have G1 := Lib.hid (((Below.refl _ w).alloc (Nat.le_refl _) (.cells #[.int .i64 op, .string (str nm), .int .i64 n, .slice A1 cs.length c1, .slice A ks.length c] 37)).trans (hb7.mono (by simp))); obtain ⟨p0, p1, p2, p3, p4⟩ := row5 B1.out; clear hb7)
      go_ret; exact ⟨ret_bool (by rw [HR.out]), G1.out⟩
    rw [hsh, Bool.true_and] at HR; have HSH := Lib.hid hsh; rw [hsh] at HS; clear hsh; by_cases h11 : op = 11
    · subst h11; rw [show extraM made 11 cs ks = (decide ((1 : Int) ≤ cs.length) && decide ((cs.length : Int) ≤ 1) && cs.all (conM made)) by simp only [extraM, if_true]; exact allM_int cs 1 1 _] at HR; generalize (decide ((1 : Int) ≤ cs.length) && decide ((cs.length : Int) ≤ 1) && cs.all (conM made)) = b at HR HC1; cases b
      · rw [Bool.false_and] at HR; go_enter Tryz.func13, Tryz.ntmps13
        go_wp2_with (first | (go_at_call 33; (with_reducible refine (HS.out _).mono ?_); rintro e w7 ⟨rfl, hb7⟩; obtain ⟨z1, rfl⟩ : ∃ W, W = w7 := ⟨_, rfl⟩; have B1 := Lib.hid (box_next hb7 (heap_alloc_new w _)); have G1 := Lib.hid (((Below.refl _ w).alloc (Nat.le_refl _) (.cells #[.int .i64 11, .string (str nm), .int .i64 n, .slice A1 cs.length c1, .slice A ks.length c] 37)).trans (hb7.mono (by simp))); obtain ⟨p0, p1, p2, p3, p4⟩ := row5 B1.out; clear hb7) | (go_at_call 34; (with_reducible refine (HC1.out _ (HB.out.trans (G1.out.mono hsz))).mono ?_); rintro e w7 ⟨rfl, hb7⟩; obtain ⟨z2, rfl⟩ : ∃ W, W = w7 := ⟨_, rfl⟩; have B2 := Lib.hid (box_next hb7 B1.out); have G2 := Lib.hid (G1.out.trans (hb7.mono G1.out.size)); obtain ⟨p0, p1, p2, p3, p4⟩ := row5 B2.out; clear hb7))
        go_ret; exact ⟨ret_bool (by rw [HR.out]), G2.out⟩
      rw [Bool.true_and] at HR; go_enter Tryz.func13, Tryz.ntmps13
      go_wp2_with (first | (go_at_call 33; (with_reducible refine (HS.out _).mono ?_); rintro e w7 ⟨rfl, hb7⟩; obtain ⟨z1, rfl⟩ : ∃ W, W = w7 := ⟨_, rfl⟩; have B1 := Lib.hid (box_next hb7 (heap_alloc_new w _)); have G1 := Lib.hid (((Below.refl _ w).alloc (Nat.le_refl _) (.cells #[.int .i64 11, .string (str nm), .int .i64 n, .slice A1 cs.length c1, .slice A ks.length c] 37)).trans (hb7.mono (by simp))); obtain ⟨p0, p1, p2, p3, p4⟩ := row5 B1.out; clear hb7) | (go_at_call 34; (with_reducible refine (HC1.out _ (HB.out.trans (G1.out.mono hsz))).mono ?_); rintro e w7 ⟨rfl, hb7⟩; obtain ⟨z2, rfl⟩ : ∃ W, W = w7 := ⟨_, rfl⟩; have B2 := Lib.hid (box_next hb7 B1.out); have G2 := Lib.hid (G1.out.trans (hb7.mono G1.out.size)); obtain ⟨p0, p1, p2, p3, p4⟩ := row5 B2.out; clear hb7))
      obtain ⟨Z, hZ⟩ : ∃ W, W = z2 := ⟨_, rfl⟩; have BZ := Lib.hid B2.out; have HZ := Lib.hid G2.out; rw [← hZ] at BZ HZ ⊢; clear hZ; go_loopg [5] ks.length (fun g v wr => ∃ k : Nat, k + g = ks.length ∧ v = .int .i64 k ∧ AllTo (rightX made) ks k ∧ Below Z.heap.size Z wr)
      case atStart => exact ⟨0, by omega, rfl, AllTo.zero, Below.refl _ _⟩
      case round =>
        obtain ⟨k, hkg, rfl, hto, hbw⟩ := hrel; obtain ⟨wq, rfl⟩ : ∃ W, W = wr := ⟨_, rfl⟩; have HK := Lib.hid hkg; have HT := Lib.hid hto; have HQ := Lib.hid (HZ.out.trans (hbw.mono HZ.out.size)); have HZQ := Lib.hid hbw; have HBQ := Lib.hid (HB.out.trans (HQ.out.mono hsz)); obtain ⟨p0, p1, p2, p3, p4⟩ := row5 (box_next hbw BZ.out); have hkl : k ≤ ks.length := (by omega); clear hkg hto hbw; by_cases hlt : k < ks.length
        · obtain ⟨y, hy⟩ : ∃ y, ks[k]? = some y := ⟨_, List.getElem?_eq_getElem hlt⟩; have hC := HKS.out k y hy; have hxk := HXS.out k y hy; have hih := Lib.hid (HIH.out k y hy); obtain ⟨o1, s1, n1, A5, m5, k5, A6, m6, k6, hL⟩ := hxk.shape; generalize C k = L at hC hih hxk hL; subst hL; obtain ⟨a, rfl, ha, haa, d0, d1, d2, d3, d4⟩ := elem5 (hC.under HBQ.out); have HY := Lib.hid hy; clear hC hy hxk; cases hfx : rightX made y
          · have HFX := Lib.hid hfx; rw [hfx] at hih; clear hfx; go_wp2_with (go_at_call 13; (with_reducible refine (hih.out _ HBQ.out).mono ?_); rintro e w7 ⟨rfl, hb7⟩)
            go_ret; exact ⟨ret_bool (by rw [HR.out, all_no HY.out HFX.out]), HQ.out.trans (hb7.mono HQ.out.size)⟩
          · have HFX := Lib.hid hfx; rw [hfx] at hih; clear hfx; go_wp2_with (go_at_call 13; (with_reducible refine (hih.out _ HBQ.out).mono ?_); rintro e w7 ⟨rfl, hb7⟩)
            go_roundg (ks.length - (k + 1))
            case measure => have := HK.out; omega
            case rel => exact ⟨k + 1, by omega, by go_num, HT.out.succ HY.out HFX.out, HZQ.out.trans (hb7.mono HZQ.out.size)⟩
        · have hke : k = ks.length := by omega
          have HKE := Lib.hid hke; clear hke; go_wp2_with fail
          go_ret; exact ⟨ret_bool (by rw [HR.out, HT.out.all HKE.out]), HQ.out⟩
    by_cases h14 : op = 14
    · subst h14; rw [show extraM made 14 cs ks = (decide ((0 : Int) ≤ cs.length) && decide ((cs.length : Int) ≤ 6) && cs.all (nameM made)) by simp only [extraM]; exact allM_int cs 0 6 _] at HR; generalize (decide ((0 : Int) ≤ cs.length) && decide ((cs.length : Int) ≤ 6) && cs.all (nameM made)) = b at HR HC3; cases b
      · rw [Bool.false_and] at HR; go_enter Tryz.func13, Tryz.ntmps13
        go_wp2_with (first | (go_at_call 33; (with_reducible refine (HS.out _).mono ?_); rintro e w7 ⟨rfl, hb7⟩; obtain ⟨z1, rfl⟩ : ∃ W, W = w7 := ⟨_, rfl⟩; have B1 := Lib.hid (box_next hb7 (heap_alloc_new w _)); have G1 := Lib.hid (((Below.refl _ w).alloc (Nat.le_refl _) (.cells #[.int .i64 14, .string (str nm), .int .i64 n, .slice A1 cs.length c1, .slice A ks.length c] 37)).trans (hb7.mono (by simp))); obtain ⟨p0, p1, p2, p3, p4⟩ := row5 B1.out; clear hb7) | (go_at_call 35; (with_reducible refine (HC3.out _ (HB.out.trans (G1.out.mono hsz))).mono ?_); rintro e w7 ⟨rfl, hb7⟩; obtain ⟨z2, rfl⟩ : ∃ W, W = w7 := ⟨_, rfl⟩; have B2 := Lib.hid (box_next hb7 B1.out); have G2 := Lib.hid (G1.out.trans (hb7.mono G1.out.size)); obtain ⟨p0, p1, p2, p3, p4⟩ := row5 B2.out; clear hb7))
        go_ret; exact ⟨ret_bool (by rw [HR.out]), G2.out⟩
      rw [Bool.true_and] at HR; go_enter Tryz.func13, Tryz.ntmps13
      go_wp2_with (first | (go_at_call 33; (with_reducible refine (HS.out _).mono ?_); rintro e w7 ⟨rfl, hb7⟩; obtain ⟨z1, rfl⟩ : ∃ W, W = w7 := ⟨_, rfl⟩; have B1 := Lib.hid (box_next hb7 (heap_alloc_new w _)); have G1 := Lib.hid (((Below.refl _ w).alloc (Nat.le_refl _) (.cells #[.int .i64 14, .string (str nm), .int .i64 n, .slice A1 cs.length c1, .slice A ks.length c] 37)).trans (hb7.mono (by simp))); obtain ⟨p0, p1, p2, p3, p4⟩ := row5 B1.out; clear hb7) | (go_at_call 35; (with_reducible refine (HC3.out _ (HB.out.trans (G1.out.mono hsz))).mono ?_); rintro e w7 ⟨rfl, hb7⟩; obtain ⟨z2, rfl⟩ : ∃ W, W = w7 := ⟨_, rfl⟩; have B2 := Lib.hid (box_next hb7 B1.out); have G2 := Lib.hid (G1.out.trans (hb7.mono G1.out.size)); obtain ⟨p0, p1, p2, p3, p4⟩ := row5 B2.out; clear hb7))
      obtain ⟨Z, hZ⟩ : ∃ W, W = z2 := ⟨_, rfl⟩; have BZ := Lib.hid B2.out; have HZ := Lib.hid G2.out; rw [← hZ] at BZ HZ ⊢; clear hZ; go_loopg [5] ks.length (fun g v wr => ∃ k : Nat, k + g = ks.length ∧ v = .int .i64 k ∧ AllTo (rightX made) ks k ∧ Below Z.heap.size Z wr)
      case atStart => exact ⟨0, by omega, rfl, AllTo.zero, Below.refl _ _⟩
      case round =>
        obtain ⟨k, hkg, rfl, hto, hbw⟩ := hrel; obtain ⟨wq, rfl⟩ : ∃ W, W = wr := ⟨_, rfl⟩; have HK := Lib.hid hkg; have HT := Lib.hid hto; have HQ := Lib.hid (HZ.out.trans (hbw.mono HZ.out.size)); have HZQ := Lib.hid hbw; have HBQ := Lib.hid (HB.out.trans (HQ.out.mono hsz)); obtain ⟨p0, p1, p2, p3, p4⟩ := row5 (box_next hbw BZ.out); have hkl : k ≤ ks.length := (by omega); clear hkg hto hbw; by_cases hlt : k < ks.length
        · obtain ⟨y, hy⟩ : ∃ y, ks[k]? = some y := ⟨_, List.getElem?_eq_getElem hlt⟩; have hC := HKS.out k y hy; have hxk := HXS.out k y hy; have hih := Lib.hid (HIH.out k y hy); obtain ⟨o1, s1, n1, A5, m5, k5, A6, m6, k6, hL⟩ := hxk.shape; generalize C k = L at hC hih hxk hL; subst hL; obtain ⟨a, rfl, ha, haa, d0, d1, d2, d3, d4⟩ := elem5 (hC.under HBQ.out); have HY := Lib.hid hy; clear hC hy hxk; cases hfx : rightX made y
          · have HFX := Lib.hid hfx; rw [hfx] at hih; clear hfx; go_wp2_with (go_at_call 13; (with_reducible refine (hih.out _ HBQ.out).mono ?_); rintro e w7 ⟨rfl, hb7⟩)
            go_ret; exact ⟨ret_bool (by rw [HR.out, all_no HY.out HFX.out]), HQ.out.trans (hb7.mono HQ.out.size)⟩
          · have HFX := Lib.hid hfx; rw [hfx] at hih; clear hfx; go_wp2_with (go_at_call 13; (with_reducible refine (hih.out _ HBQ.out).mono ?_); rintro e w7 ⟨rfl, hb7⟩)
            go_roundg (ks.length - (k + 1))
            case measure => have := HK.out; omega
            case rel => exact ⟨k + 1, by omega, by go_num, HT.out.succ HY.out HFX.out, HZQ.out.trans (hb7.mono HZQ.out.size)⟩
        · have hke : k = ks.length := by omega
          have HKE := Lib.hid hke; clear hke; go_wp2_with fail
          go_ret; exact ⟨ret_bool (by rw [HR.out, HT.out.all HKE.out]), HQ.out⟩
    by_cases h12 : op = 12 ∨ op = 13
    · by_cases hlen : cs.length = ks.length
      · have hd : ((cs.length : Int) != (ks.length : Int)) = false := by simp [hlen]
        rw [show extraM made op cs ks = (decide ((1 : Int) ≤ cs.length) && decide ((cs.length : Int) ≤ 8) && cs.all (conM made)) by rcases h12 with rfl | rfl <;> (have := allM_int cs 1 8 (conM made); simp [extraM, hlen] at this ⊢; exact this)] at HR
        generalize (decide ((1 : Int) ≤ cs.length) && decide ((cs.length : Int) ≤ 8) && cs.all (conM made)) = b at HR HC2; have HLEN := Lib.hid hlen; clear hlen; rcases h12 with rfl | rfl
        · cases b
          · rw [Bool.false_and] at HR; go_enter Tryz.func13, Tryz.ntmps13
            go_wp2_with (first | (go_at_call 33; (with_reducible refine (HS.out _).mono ?_); rintro e w7 ⟨rfl, hb7⟩; obtain ⟨z1, rfl⟩ : ∃ W, W = w7 := ⟨_, rfl⟩; have B1 := Lib.hid (box_next hb7 (heap_alloc_new w _)); have G1 := Lib.hid (((Below.refl _ w).alloc (Nat.le_refl _) (.cells #[.int .i64 12, .string (str nm), .int .i64 n, .slice A1 cs.length c1, .slice A ks.length c] 37)).trans (hb7.mono (by simp))); obtain ⟨p0, p1, p2, p3, p4⟩ := row5 B1.out; clear hb7) | (go_at_call 34; (with_reducible refine (HC2.out _ (HB.out.trans (G1.out.mono hsz))).mono ?_); rintro e w7 ⟨rfl, hb7⟩; obtain ⟨z2, rfl⟩ : ∃ W, W = w7 := ⟨_, rfl⟩; have B2 := Lib.hid (box_next hb7 B1.out); have G2 := Lib.hid (G1.out.trans (hb7.mono G1.out.size)); obtain ⟨p0, p1, p2, p3, p4⟩ := row5 B2.out; clear hb7))
            go_ret; exact ⟨ret_bool (by rw [HR.out]), G2.out⟩
          rw [Bool.true_and] at HR; go_enter Tryz.func13, Tryz.ntmps13
          go_wp2_with (first | (go_at_call 33; (with_reducible refine (HS.out _).mono ?_); rintro e w7 ⟨rfl, hb7⟩; obtain ⟨z1, rfl⟩ : ∃ W, W = w7 := ⟨_, rfl⟩; have B1 := Lib.hid (box_next hb7 (heap_alloc_new w _)); have G1 := Lib.hid (((Below.refl _ w).alloc (Nat.le_refl _) (.cells #[.int .i64 12, .string (str nm), .int .i64 n, .slice A1 cs.length c1, .slice A ks.length c] 37)).trans (hb7.mono (by simp))); obtain ⟨p0, p1, p2, p3, p4⟩ := row5 B1.out; clear hb7) | (go_at_call 34; (with_reducible refine (HC2.out _ (HB.out.trans (G1.out.mono hsz))).mono ?_); rintro e w7 ⟨rfl, hb7⟩; obtain ⟨z2, rfl⟩ : ∃ W, W = w7 := ⟨_, rfl⟩; have B2 := Lib.hid (box_next hb7 B1.out); have G2 := Lib.hid (G1.out.trans (hb7.mono G1.out.size)); obtain ⟨p0, p1, p2, p3, p4⟩ := row5 B2.out; clear hb7))
          obtain ⟨Z, hZ⟩ : ∃ W, W = z2 := ⟨_, rfl⟩; have BZ := Lib.hid B2.out; have HZ := Lib.hid G2.out; rw [← hZ] at BZ HZ ⊢; clear hZ; go_loopg [5] ks.length (fun g v wr => ∃ k : Nat, k + g = ks.length ∧ v = .int .i64 k ∧ AllTo (rightX made) ks k ∧ Below Z.heap.size Z wr)
          case atStart => exact ⟨0, by omega, rfl, AllTo.zero, Below.refl _ _⟩
          case round =>
            obtain ⟨k, hkg, rfl, hto, hbw⟩ := hrel; obtain ⟨wq, rfl⟩ : ∃ W, W = wr := ⟨_, rfl⟩; have HK := Lib.hid hkg; have HT := Lib.hid hto; have HQ := Lib.hid (HZ.out.trans (hbw.mono HZ.out.size)); have HZQ := Lib.hid hbw; have HBQ := Lib.hid (HB.out.trans (HQ.out.mono hsz)); obtain ⟨p0, p1, p2, p3, p4⟩ := row5 (box_next hbw BZ.out); have hkl : k ≤ ks.length := (by omega); clear hkg hto hbw; by_cases hlt : k < ks.length
            · obtain ⟨y, hy⟩ : ∃ y, ks[k]? = some y := ⟨_, List.getElem?_eq_getElem hlt⟩; have hC := HKS.out k y hy; have hxk := HXS.out k y hy; have hih := Lib.hid (HIH.out k y hy); obtain ⟨o1, s1, n1, A5, m5, k5, A6, m6, k6, hL⟩ := hxk.shape; generalize C k = L at hC hih hxk hL; subst hL; obtain ⟨a, rfl, ha, haa, d0, d1, d2, d3, d4⟩ := elem5 (hC.under HBQ.out); have HY := Lib.hid hy; clear hC hy hxk; cases hfx : rightX made y
              · have HFX := Lib.hid hfx; rw [hfx] at hih; clear hfx; go_wp2_with (go_at_call 13; (with_reducible refine (hih.out _ HBQ.out).mono ?_); rintro e w7 ⟨rfl, hb7⟩)
                go_ret; exact ⟨ret_bool (by rw [HR.out, all_no HY.out HFX.out]), HQ.out.trans (hb7.mono HQ.out.size)⟩
              · have HFX := Lib.hid hfx; rw [hfx] at hih; clear hfx; go_wp2_with (go_at_call 13; (with_reducible refine (hih.out _ HBQ.out).mono ?_); rintro e w7 ⟨rfl, hb7⟩)
                go_roundg (ks.length - (k + 1))
                case measure => have := HK.out; omega
                case rel => exact ⟨k + 1, by omega, by go_num, HT.out.succ HY.out HFX.out, HZQ.out.trans (hb7.mono HZQ.out.size)⟩
            · have hke : k = ks.length := by omega
              have HKE := Lib.hid hke; clear hke; go_wp2_with fail
              go_ret; exact ⟨ret_bool (by rw [HR.out, HT.out.all HKE.out]), HQ.out⟩
        · cases b
          · rw [Bool.false_and] at HR; go_enter Tryz.func13, Tryz.ntmps13
            go_wp2_with (first | (go_at_call 33; (with_reducible refine (HS.out _).mono ?_); rintro e w7 ⟨rfl, hb7⟩; obtain ⟨z1, rfl⟩ : ∃ W, W = w7 := ⟨_, rfl⟩; have B1 := Lib.hid (box_next hb7 (heap_alloc_new w _)); have G1 := Lib.hid (((Below.refl _ w).alloc (Nat.le_refl _) (.cells #[.int .i64 13, .string (str nm), .int .i64 n, .slice A1 cs.length c1, .slice A ks.length c] 37)).trans (hb7.mono (by simp))); obtain ⟨p0, p1, p2, p3, p4⟩ := row5 B1.out; clear hb7) | (go_at_call 34; (with_reducible refine (HC2.out _ (HB.out.trans (G1.out.mono hsz))).mono ?_); rintro e w7 ⟨rfl, hb7⟩; obtain ⟨z2, rfl⟩ : ∃ W, W = w7 := ⟨_, rfl⟩; have B2 := Lib.hid (box_next hb7 B1.out); have G2 := Lib.hid (G1.out.trans (hb7.mono G1.out.size)); obtain ⟨p0, p1, p2, p3, p4⟩ := row5 B2.out; clear hb7))
            go_ret; exact ⟨ret_bool (by rw [HR.out]), G2.out⟩
          rw [Bool.true_and] at HR; go_enter Tryz.func13, Tryz.ntmps13
          go_wp2_with (first | (go_at_call 33; (with_reducible refine (HS.out _).mono ?_); rintro e w7 ⟨rfl, hb7⟩; obtain ⟨z1, rfl⟩ : ∃ W, W = w7 := ⟨_, rfl⟩; have B1 := Lib.hid (box_next hb7 (heap_alloc_new w _)); have G1 := Lib.hid (((Below.refl _ w).alloc (Nat.le_refl _) (.cells #[.int .i64 13, .string (str nm), .int .i64 n, .slice A1 cs.length c1, .slice A ks.length c] 37)).trans (hb7.mono (by simp))); obtain ⟨p0, p1, p2, p3, p4⟩ := row5 B1.out; clear hb7) | (go_at_call 34; (with_reducible refine (HC2.out _ (HB.out.trans (G1.out.mono hsz))).mono ?_); rintro e w7 ⟨rfl, hb7⟩; obtain ⟨z2, rfl⟩ : ∃ W, W = w7 := ⟨_, rfl⟩; have B2 := Lib.hid (box_next hb7 B1.out); have G2 := Lib.hid (G1.out.trans (hb7.mono G1.out.size)); obtain ⟨p0, p1, p2, p3, p4⟩ := row5 B2.out; clear hb7))
          obtain ⟨Z, hZ⟩ : ∃ W, W = z2 := ⟨_, rfl⟩; have BZ := Lib.hid B2.out; have HZ := Lib.hid G2.out; rw [← hZ] at BZ HZ ⊢; clear hZ; go_loopg [5] ks.length (fun g v wr => ∃ k : Nat, k + g = ks.length ∧ v = .int .i64 k ∧ AllTo (rightX made) ks k ∧ Below Z.heap.size Z wr)
          case atStart => exact ⟨0, by omega, rfl, AllTo.zero, Below.refl _ _⟩
          case round =>
            obtain ⟨k, hkg, rfl, hto, hbw⟩ := hrel; obtain ⟨wq, rfl⟩ : ∃ W, W = wr := ⟨_, rfl⟩; have HK := Lib.hid hkg; have HT := Lib.hid hto; have HQ := Lib.hid (HZ.out.trans (hbw.mono HZ.out.size)); have HZQ := Lib.hid hbw; have HBQ := Lib.hid (HB.out.trans (HQ.out.mono hsz)); obtain ⟨p0, p1, p2, p3, p4⟩ := row5 (box_next hbw BZ.out); have hkl : k ≤ ks.length := (by omega); clear hkg hto hbw; by_cases hlt : k < ks.length
            · obtain ⟨y, hy⟩ : ∃ y, ks[k]? = some y := ⟨_, List.getElem?_eq_getElem hlt⟩; have hC := HKS.out k y hy; have hxk := HXS.out k y hy; have hih := Lib.hid (HIH.out k y hy); obtain ⟨o1, s1, n1, A5, m5, k5, A6, m6, k6, hL⟩ := hxk.shape; generalize C k = L at hC hih hxk hL; subst hL; obtain ⟨a, rfl, ha, haa, d0, d1, d2, d3, d4⟩ := elem5 (hC.under HBQ.out); have HY := Lib.hid hy; clear hC hy hxk; cases hfx : rightX made y
              · have HFX := Lib.hid hfx; rw [hfx] at hih; clear hfx; go_wp2_with (go_at_call 13; (with_reducible refine (hih.out _ HBQ.out).mono ?_); rintro e w7 ⟨rfl, hb7⟩)
                go_ret; exact ⟨ret_bool (by rw [HR.out, all_no HY.out HFX.out]), HQ.out.trans (hb7.mono HQ.out.size)⟩
              · have HFX := Lib.hid hfx; rw [hfx] at hih; clear hfx; go_wp2_with (go_at_call 13; (with_reducible refine (hih.out _ HBQ.out).mono ?_); rintro e w7 ⟨rfl, hb7⟩)
                go_roundg (ks.length - (k + 1))
                case measure => have := HK.out; omega
                case rel => exact ⟨k + 1, by omega, by go_num, HT.out.succ HY.out HFX.out, HZQ.out.trans (hb7.mono HZQ.out.size)⟩
            · have hke : k = ks.length := by omega
              have HKE := Lib.hid hke; clear hke; go_wp2_with fail
              go_ret; exact ⟨ret_bool (by rw [HR.out, HT.out.all HKE.out]), HQ.out⟩
      · have hd : ((cs.length : Int) != (ks.length : Int)) = true := by simp; omega
        rw [show extraM made op cs ks = false by rcases h12 with rfl | rfl <;> simp [extraM, hlen], Bool.false_and] at HR
        have HLEN := Lib.hid hlen; clear hlen; rcases h12 with rfl | rfl
        · skip
          go_enter Tryz.func13, Tryz.ntmps13
          go_wp2_with (first | (go_at_call 33; (with_reducible refine (HS.out _).mono ?_); rintro e w7 ⟨rfl, hb7⟩; obtain ⟨z1, rfl⟩ : ∃ W, W = w7 := ⟨_, rfl⟩; have B1 := Lib.hid (box_next hb7 (heap_alloc_new w _)); have G1 := Lib.hid (((Below.refl _ w).alloc (Nat.le_refl _) (.cells #[.int .i64 12, .string (str nm), .int .i64 n, .slice A1 cs.length c1, .slice A ks.length c] 37)).trans (hb7.mono (by simp))); obtain ⟨p0, p1, p2, p3, p4⟩ := row5 B1.out; clear hb7))
          go_ret; exact ⟨ret_bool (by rw [HR.out]), G1.out⟩
        · skip
          go_enter Tryz.func13, Tryz.ntmps13
          go_wp2_with (first | (go_at_call 33; (with_reducible refine (HS.out _).mono ?_); rintro e w7 ⟨rfl, hb7⟩; obtain ⟨z1, rfl⟩ : ∃ W, W = w7 := ⟨_, rfl⟩; have B1 := Lib.hid (box_next hb7 (heap_alloc_new w _)); have G1 := Lib.hid (((Below.refl _ w).alloc (Nat.le_refl _) (.cells #[.int .i64 13, .string (str nm), .int .i64 n, .slice A1 cs.length c1, .slice A ks.length c] 37)).trans (hb7.mono (by simp))); obtain ⟨p0, p1, p2, p3, p4⟩ := row5 B1.out; clear hb7))
          go_ret; exact ⟨ret_bool (by rw [HR.out]), G1.out⟩
    by_cases h15 : op = 15
    · subst h15; have hk2 : ks.length = 2 := (by have := HSH.out; simp [rshapeV] at this; omega); obtain ⟨y, hy⟩ : ∃ y, ks[0]? = some y := ⟨_, List.getElem?_eq_getElem (by omega)⟩; have hC := HKS.out 0 y hy; have hxk := HXS.out 0 y hy; have h15x : extraM made 15 cs ks = (y.op == 14) := by
        have : ks.headD (.mk 0 [] 0 [] []) = y := by cases ks with
          | nil => simp at hy
          | cons z r => simpa using hy
        show ((ks.headD (.mk 0 [] 0 [] [])).op == 14) = _; rw [this]
      rw [h15x] at HR; clear h15x; obtain ⟨yo, yn, yi, yc, yk⟩ := y; obtain ⟨cv, kv, hL, _⟩ := hxk.open_; generalize C 0 = L at hC hxk hL; subst hL; obtain ⟨A5, m5, k5, rfl⟩ : ∃ A5 m5 k5, cv = .slice A5 m5 k5 := by
        obtain ⟨o1, s1, n1, A5, m5, k5, A6, m6, k6, hL⟩ := hxk.shape; injection hL with _ e; injection e with _ e; injection e with _ e; injection e with e _; exact ⟨_, _, _, e⟩
      obtain ⟨A6, m6, k6, rfl⟩ : ∃ A5 m5 k5, kv = .slice A5 m5 k5 := by
        obtain ⟨o1, s1, n1, A5, m5, k5, A6, m6, k6, hL⟩ := hxk.shape; injection hL with _ e; injection e with _ e; injection e with _ e; injection e with _ e; injection e with e _; exact ⟨_, _, _, e⟩
      have EC := Lib.hid hC; have HK2 := Lib.hid hk2; have hpos : (0 : Int) < ks.length := (by omega); clear hC hxk hy hk2; obtain ⟨a, rfl, ha, haa, d0, d1, d2, d3, d4⟩ := elem5 (EC.out.under (HB.out)); rw [Nat.zero_mul, add_zero] at d0; clear d1 d2 d3 d4; rw [show (Ex.mk yo yn yi yc yk).op = yo from rfl] at HR; by_cases e14 : yo = 14
      · have f14 : (yo != 14) = false := by simpa using e14
        rw [show (yo == 14) = true by simpa using e14, Bool.true_and] at HR; have E14 := Lib.hid e14; clear e14; go_enter Tryz.func13, Tryz.ntmps13
        go_wp2_with (first | (go_at_call 33; (with_reducible refine (HS.out _).mono ?_); rintro e w7 ⟨rfl, hb7⟩; obtain ⟨z1, rfl⟩ : ∃ W, W = w7 := ⟨_, rfl⟩; have B1 := Lib.hid (box_next hb7 (heap_alloc_new w _)); have G1 := Lib.hid (((Below.refl _ w).alloc (Nat.le_refl _) (.cells #[.int .i64 15, .string (str nm), .int .i64 n, .slice A1 cs.length c1, .slice (some a) ks.length c] 37)).trans (hb7.mono (by simp))); obtain ⟨p0, p1, p2, p3, p4⟩ := row5 B1.out; obtain ⟨_, ea, _, _, d0, _⟩ := elem5 (EC.out.under (HB.out.trans (G1.out.mono hsz))); obtain rfl := Option.some.inj ea; rw [Nat.zero_mul, add_zero] at d0; clear hb7))
        obtain ⟨Z, hZ⟩ : ∃ W, W = z1 := ⟨_, rfl⟩; have BZ := Lib.hid B1.out; have HZ := Lib.hid G1.out; rw [← hZ] at BZ HZ ⊢; clear hZ; go_loopg [5] ks.length (fun g v wr => ∃ k : Nat, k + g = ks.length ∧ v = .int .i64 k ∧ AllTo (rightX made) ks k ∧ Below Z.heap.size Z wr)
        case atStart => exact ⟨0, by omega, rfl, AllTo.zero, Below.refl _ _⟩
        case round =>
          obtain ⟨k, hkg, rfl, hto, hbw⟩ := hrel; obtain ⟨wq, rfl⟩ : ∃ W, W = wr := ⟨_, rfl⟩; have HK := Lib.hid hkg; have HT := Lib.hid hto; have HQ := Lib.hid (HZ.out.trans (hbw.mono HZ.out.size)); have HZQ := Lib.hid hbw; have HBQ := Lib.hid (HB.out.trans (HQ.out.mono hsz)); obtain ⟨p0, p1, p2, p3, p4⟩ := row5 (box_next hbw BZ.out); have hkl : k ≤ ks.length := (by omega); clear hkg hto hbw; by_cases hlt : k < ks.length
          · obtain ⟨y, hy⟩ : ∃ y, ks[k]? = some y := ⟨_, List.getElem?_eq_getElem hlt⟩; have hC := HKS.out k y hy; have hxk := HXS.out k y hy; have hih := Lib.hid (HIH.out k y hy); obtain ⟨o1, s1, n1, A5, m5, k5, A6, m6, k6, hL⟩ := hxk.shape; generalize C k = L at hC hih hxk hL; subst hL; obtain ⟨_, ea, ha, haa, d0, d1, d2, d3, d4⟩ := elem5 (hC.under HBQ.out); obtain rfl := Option.some.inj ea; have HY := Lib.hid hy; clear hC hy hxk; cases hfx : rightX made y
            · have HFX := Lib.hid hfx; rw [hfx] at hih; clear hfx; go_wp2_with (go_at_call 13; (with_reducible refine (hih.out _ HBQ.out).mono ?_); rintro e w7 ⟨rfl, hb7⟩)
              go_ret; exact ⟨ret_bool (by rw [HR.out, all_no HY.out HFX.out]), HQ.out.trans (hb7.mono HQ.out.size)⟩
            · have HFX := Lib.hid hfx; rw [hfx] at hih; clear hfx; go_wp2_with (go_at_call 13; (with_reducible refine (hih.out _ HBQ.out).mono ?_); rintro e w7 ⟨rfl, hb7⟩)
              go_roundg (ks.length - (k + 1))
              case measure => have := HK.out; omega
              case rel => exact ⟨k + 1, by omega, by go_num, HT.out.succ HY.out HFX.out, HZQ.out.trans (hb7.mono HZQ.out.size)⟩
          · have hke : k = ks.length := by omega
            have HKE := Lib.hid hke; clear hke; go_wp2_with fail
            go_ret; exact ⟨ret_bool (by rw [HR.out, HT.out.all HKE.out]), HQ.out⟩
      · have f14 : (yo != 14) = true := by simpa using e14
        rw [show (yo == 14) = false by simpa using e14, Bool.false_and] at HR; have E14 := Lib.hid e14; clear e14; go_enter Tryz.func13, Tryz.ntmps13
        go_wp2_with (first | (go_at_call 33; (with_reducible refine (HS.out _).mono ?_); rintro e w7 ⟨rfl, hb7⟩; obtain ⟨z1, rfl⟩ : ∃ W, W = w7 := ⟨_, rfl⟩; have B1 := Lib.hid (box_next hb7 (heap_alloc_new w _)); have G1 := Lib.hid (((Below.refl _ w).alloc (Nat.le_refl _) (.cells #[.int .i64 15, .string (str nm), .int .i64 n, .slice A1 cs.length c1, .slice (some a) ks.length c] 37)).trans (hb7.mono (by simp))); obtain ⟨p0, p1, p2, p3, p4⟩ := row5 B1.out; obtain ⟨_, ea, _, _, d0, _⟩ := elem5 (EC.out.under (HB.out.trans (G1.out.mono hsz))); obtain rfl := Option.some.inj ea; rw [Nat.zero_mul, add_zero] at d0; clear hb7))
        go_ret; exact ⟨ret_bool (by rw [HR.out]), G1.out⟩
    · have hr2 : extraM made op cs ks = true := by
        simp only [extraM, if_neg h11, if_neg h12, if_neg h14, if_neg h15]
      rw [hr2, Bool.true_and] at HR; have f11 : (op == 11) = false := (by simpa using h11); have f12 : (op == 12) = false := (by simpa using fun e => h12 (.inl e)); have f13 : (op == 13) = false := (by simpa using fun e => h12 (.inr e)); have f14 : (op == 14) = false := (by simpa using h14); have f15 : (op == 15) = false := (by simpa using h15); clear h11 h12 h14 h15 hr2; go_enter Tryz.func13, Tryz.ntmps13
      go_wp2_with (first | (go_at_call 33; (with_reducible refine (HS.out _).mono ?_); rintro e w7 ⟨rfl, hb7⟩; obtain ⟨z1, rfl⟩ : ∃ W, W = w7 := ⟨_, rfl⟩; have B1 := Lib.hid (box_next hb7 (heap_alloc_new w _)); have G1 := Lib.hid (((Below.refl _ w).alloc (Nat.le_refl _) (.cells #[.int .i64 op, .string (str nm), .int .i64 n, .slice A1 cs.length c1, .slice A ks.length c] 37)).trans (hb7.mono (by simp))); obtain ⟨p0, p1, p2, p3, p4⟩ := row5 B1.out; clear hb7))
      obtain ⟨Z, hZ⟩ : ∃ W, W = z1 := ⟨_, rfl⟩; have BZ := Lib.hid B1.out; have HZ := Lib.hid G1.out; rw [← hZ] at BZ HZ ⊢; clear hZ; go_loopg [5] ks.length (fun g v wr => ∃ k : Nat, k + g = ks.length ∧ v = .int .i64 k ∧ AllTo (rightX made) ks k ∧ Below Z.heap.size Z wr)
      case atStart => exact ⟨0, by omega, rfl, AllTo.zero, Below.refl _ _⟩
      case round =>
        obtain ⟨k, hkg, rfl, hto, hbw⟩ := hrel; obtain ⟨wq, rfl⟩ : ∃ W, W = wr := ⟨_, rfl⟩; have HK := Lib.hid hkg; have HT := Lib.hid hto; have HQ := Lib.hid (HZ.out.trans (hbw.mono HZ.out.size)); have HZQ := Lib.hid hbw; have HBQ := Lib.hid (HB.out.trans (HQ.out.mono hsz)); obtain ⟨p0, p1, p2, p3, p4⟩ := row5 (box_next hbw BZ.out); have hkl : k ≤ ks.length := (by omega); clear hkg hto hbw; by_cases hlt : k < ks.length
        · obtain ⟨y, hy⟩ : ∃ y, ks[k]? = some y := ⟨_, List.getElem?_eq_getElem hlt⟩; have hC := HKS.out k y hy; have hxk := HXS.out k y hy; have hih := Lib.hid (HIH.out k y hy); obtain ⟨o1, s1, n1, A5, m5, k5, A6, m6, k6, hL⟩ := hxk.shape; generalize C k = L at hC hih hxk hL; subst hL; obtain ⟨a, rfl, ha, haa, d0, d1, d2, d3, d4⟩ := elem5 (hC.under HBQ.out); have HY := Lib.hid hy; clear hC hy hxk; cases hfx : rightX made y
          · have HFX := Lib.hid hfx; rw [hfx] at hih; clear hfx; go_wp2_with (go_at_call 13; (with_reducible refine (hih.out _ HBQ.out).mono ?_); rintro e w7 ⟨rfl, hb7⟩)
            go_ret; exact ⟨ret_bool (by rw [HR.out, all_no HY.out HFX.out]), HQ.out.trans (hb7.mono HQ.out.size)⟩
          · have HFX := Lib.hid hfx; rw [hfx] at hih; clear hfx; go_wp2_with (go_at_call 13; (with_reducible refine (hih.out _ HBQ.out).mono ?_); rintro e w7 ⟨rfl, hb7⟩)
            go_roundg (ks.length - (k + 1))
            case measure => have := HK.out; omega
            case rel => exact ⟨k + 1, by omega, by go_num, HT.out.succ HY.out HFX.out, HZQ.out.trans (hb7.mono HZQ.out.size)⟩
        · have hke : k = ks.length := by omega
          have HKE := Lib.hid hke; clear hke; go_wp2_with fail
          go_ret; exact ⟨ret_bool (by rw [HR.out, HT.out.all HKE.out]), HQ.out⟩
end Go.Proofs.YtlhmdjhfmhkllaaGreatDoor
