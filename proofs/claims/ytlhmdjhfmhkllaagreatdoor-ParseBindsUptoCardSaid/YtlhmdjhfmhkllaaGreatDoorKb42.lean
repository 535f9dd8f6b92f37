/-
  Texts joined.
-/
import Derived.Test.YtlhmdjhfmhkllaaGreatDoorKb07
import Derived.Test.YtlhmdjhfmhkllaaGreatDoorKb08
import Derived.Test.YtlhmdjhfmhkllaaGreatDoorKb15
import Derived.Test.YtlhmdjhfmhkllaaGreatDoorKb39
namespace Go.Proofs.YtlhmdjhfmhkllaaGreatDoor
open Go.RowKit
theorem op_casesR (op : Int) : op = 1 ∨ op = 2 ∨ op = 3 ∨ op = 4 ∨ op = 5 ∨ op = 6 ∨ op = 7 ∨ op = 8 ∨ op = 9 ∨ op = 10 ∨ op = 11 ∨ op = 12 ∨ op = 13 ∨ op = 14 ∨ op = 15 ∨ (op ≠ 1 ∧ op ≠ 2 ∧ op ≠ 3 ∧ op ≠ 4 ∧ op ≠ 5 ∧ op ≠ 6 ∧ op ≠ 7 ∧ op ≠ 8 ∧ op ≠ 9 ∧ op ≠ 10 ∧ op ≠ 11 ∧ op ≠ 12 ∧ op ≠ 13 ∧ op ≠ 14 ∧ op ≠ 15) := by omega
/-- a name without its sign of being made -/
theorem ungen_cases (made : Bool) (s : Tx) : (made = true ∧ ∃ d r, s = 95 :: d :: r ∧ ungenL made s = d :: r) ∨ ((made = false ∨ s.length ≤ 1 ∨ s.headD 0 ≠ 95) ∧ (ungenL made s = s ∨ (s = [95] ∧ ungenL made s = []))) := by
  cases made
  · exact .inr ⟨.inl rfl, .inl (by simp [ungenL])⟩
  · match s with
    | [] => exact .inr ⟨.inr (.inl (by simp)), .inl (by simp [ungenL])⟩
    | [c] =>
      refine .inr ⟨.inr (.inl (by simp)), ?_⟩; by_cases h : c = 95
      · subst h; exact .inr ⟨rfl, rfl⟩
      · have h2 : ¬ (95 : UInt8) = c := fun e => h e.symm; exact .inl (by simp [ungenL, List.isPrefixOf, h2])
    | c :: d :: r =>
      by_cases h : c = 95
      · subst h; exact .inl ⟨rfl, d, r, rfl, by simp [ungenL, List.isPrefixOf]⟩
      · have h2 : ¬ (95 : UInt8) = c := fun e => h e.symm; exact .inr ⟨.inr (.inr (by simpa using h)), .inl (by simp [ungenL, List.isPrefixOf, h2])⟩
set_option maxHeartbeats 1000000 in
theorem rName_cut (S : ByteArray) (T : Tx) (w : World) (h1 : 1 < S.size) (h0 : S[0] = 95) (hx : S.extract 1 S.size = str T) (hs : S.size ≤ maxLen) (hT : T.length ≤ maxLen) : Calls Tryz.prog 67 #[.string S, .bool true] w (BoolPost (nameB T) w) := by
  have HI := Lib.hid (fun w => rIsName_any (str T) w (by rw [str_size]; exact hT)); rw [str_toList] at HI; have hm : S.size ≤ 9223372036854775807 := hs; have hz : 1 < (S.size : Int) := (by omega); go_enter Tryz.func67, Tryz.ntmps67
  go_wp2_with (go_at_call 117; refine (HI.out _).mono ?_; rintro e w1 ⟨rfl, hb1⟩)
  go_ret; exact ⟨rfl, hb1⟩
set_option maxHeartbeats 1000000 in
theorem rName_keep (S : ByteArray) (made : Bool) (w : World) (hs : S.size ≤ maxLen) (hc : made = false ∨ S.size ≤ 1 ∨ ∃ h : 0 < S.size, S[0] ≠ 95) : Calls Tryz.prog 67 #[.string S, .bool made] w (BoolPost (nameB S.data.toList) w) := by
  have HI := Lib.hid (fun w => rIsName_any S w hs); have hm : S.size ≤ 9223372036854775807 := hs; rcases hc with rfl | hc | ⟨h0, hc⟩
  · go_enter Tryz.func67, Tryz.ntmps67
    go_wp2_with (go_at_call 117; refine (HI.out _).mono ?_; rintro e w1 ⟨rfl, hb1⟩)
    go_ret; exact ⟨rfl, hb1⟩
  · have hz : (S.size : Int) ≤ 1 := by omega
    cases made; all_goals go_enter Tryz.func67, Tryz.ntmps67
    all_goals go_wp2_with (go_at_call 117; refine (HI.out _).mono ?_; rintro e w1 ⟨rfl, hb1⟩)
    all_goals go_ret
    all_goals exact ⟨rfl, hb1⟩
  · have hq : (S[0] == 95) = false := by simpa using hc
    have hq2 : ((S[0].toNat : Int) == 95) = false := by
      simp only [beq_eq_false_iff_ne, ne_eq] at hq ⊢; intro e; apply hq; have : S[0].toNat = 95 := by omega
      exact UInt8.toNat_inj.1 this
    cases made; all_goals go_enter Tryz.func67, Tryz.ntmps67
    all_goals go_wp2_with (go_at_call 117; refine (HI.out _).mono ?_; rintro e w1 ⟨rfl, hb1⟩)
    all_goals go_ret
    all_goals exact ⟨rfl, hb1⟩
theorem rName_any (s : Tx) (made : Bool) (w : World) (hs : s.length ≤ maxLen) : Calls Tryz.prog 67 #[.string (str s), .bool made] w (BoolPost (nameM made s) w) := by
  rcases ungen_cases made s with ⟨rfl, d, r, rfl, hu⟩ | ⟨hc, hu⟩
  · have hx : (str (95 :: d :: r)).extract 1 (str (95 :: d :: r)).size = str (d :: r) := by
      rw [extract_str, str_size, List.take_of_length_le (by simp [str_toList])]; rfl
    have hn : nameM true (95 :: d :: r) = nameB (d :: r) := (by rw [nameM, hu]); rw [hn]; exact rName_cut _ _ w (by rw [str_size]; simp) rfl hx (by rw [str_size]; exact hs) (by simp at hs ⊢; omega)
  · have hn : nameM made s = nameB s := by
      rcases hu with hu | ⟨rfl, hu⟩
      · rw [nameM, hu]
      · rw [nameM, hu]; decide
    rw [hn]
    have := rName_keep (str s) made w (by rw [str_size]; exact hs) (by
      rcases hc with h | h | h
      · exact .inl h
      · exact .inr (.inl (by rw [str_size]; exact h))
      · cases s with
        | nil => exact .inr (.inl (by rw [str_size]; simp))
        | cons c r => exact .inr (.inr ⟨by rw [str_size]; simp, h⟩))
    rwa [str_toList] at this
set_option maxHeartbeats 1000000 in
theorem rConstructor_cut (S : ByteArray) (T : Tx) (w : World) (h1 : 1 < S.size) (h0 : S[0] = 95) (hx : S.extract 1 S.size = str T) (hs : S.size ≤ maxLen) (hT : T.length ≤ maxLen) : Calls Tryz.prog 66 #[.string S, .bool true] w (BoolPost (conB T) w) := by
  have HI := Lib.hid (fun w => rIsCon_any (str T) w (by rw [str_size]; exact hT)); rw [str_toList] at HI; have hm : S.size ≤ 9223372036854775807 := hs; have hz : 1 < (S.size : Int) := (by omega); go_enter Tryz.func66, Tryz.ntmps66
  go_wp2_with (go_at_call 116; refine (HI.out _).mono ?_; rintro e w1 ⟨rfl, rfl⟩)
  go_ret; exact ⟨rfl, Below.refl _ _⟩
set_option maxHeartbeats 1000000 in
theorem rConstructor_keep (S : ByteArray) (made : Bool) (w : World) (hs : S.size ≤ maxLen) (hc : made = false ∨ S.size ≤ 1 ∨ ∃ h : 0 < S.size, S[0] ≠ 95) : Calls Tryz.prog 66 #[.string S, .bool made] w (BoolPost (conB S.data.toList) w) := by
  have HI := Lib.hid (fun w => rIsCon_any S w hs); have hm : S.size ≤ 9223372036854775807 := hs; rcases hc with rfl | hc | ⟨h0, hc⟩
  · go_enter Tryz.func66, Tryz.ntmps66
    go_wp2_with (go_at_call 116; refine (HI.out _).mono ?_; rintro e w1 ⟨rfl, rfl⟩)
    go_ret; exact ⟨rfl, Below.refl _ _⟩
  · have hz : (S.size : Int) ≤ 1 := by omega
    cases made; all_goals go_enter Tryz.func66, Tryz.ntmps66
    all_goals go_wp2_with (go_at_call 116; refine (HI.out _).mono ?_; rintro e w1 ⟨rfl, rfl⟩)
    all_goals go_ret
    all_goals exact ⟨rfl, Below.refl _ _⟩
  · have hq : (S[0] == 95) = false := by simpa using hc
    have hq2 : ((S[0].toNat : Int) == 95) = false := by
      simp only [beq_eq_false_iff_ne, ne_eq] at hq ⊢; intro e; apply hq; have : S[0].toNat = 95 := by omega
      exact UInt8.toNat_inj.1 this
    cases made; all_goals go_enter Tryz.func66, Tryz.ntmps66
    all_goals go_wp2_with (go_at_call 116; refine (HI.out _).mono ?_; rintro e w1 ⟨rfl, rfl⟩)
    all_goals go_ret
    all_goals exact ⟨rfl, Below.refl _ _⟩
theorem rConstructor_any (s : Tx) (made : Bool) (w : World) (hs : s.length ≤ maxLen) : Calls Tryz.prog 66 #[.string (str s), .bool made] w (BoolPost (conM made s) w) := by
  rcases ungen_cases made s with ⟨rfl, d, r, rfl, hu⟩ | ⟨hc, hu⟩
  · have hx : (str (95 :: d :: r)).extract 1 (str (95 :: d :: r)).size = str (d :: r) := by
      rw [extract_str, str_size, List.take_of_length_le (by simp [str_toList])]; rfl
    have hn : conM true (95 :: d :: r) = conB (d :: r) := (by rw [conM, hu]); rw [hn]; exact rConstructor_cut _ _ w (by rw [str_size]; simp) rfl hx (by rw [str_size]; exact hs) (by simp at hs ⊢; omega)
  · have hn : conM made s = conB s := by
      rcases hu with hu | ⟨rfl, hu⟩
      · rw [conM, hu]
      · rw [conM, hu]; decide
    rw [hn]
    have := rConstructor_keep (str s) made w (by rw [str_size]; exact hs) (by
      rcases hc with h | h | h
      · exact .inl h
      · exact .inr (.inl (by rw [str_size]; exact h))
      · cases s with
        | nil => exact .inr (.inl (by rw [str_size]; simp))
        | cons c r => exact .inr (.inr ⟨by rw [str_size]; simp, h⟩))
    rwa [str_toList] at this
set_option maxHeartbeats 1000000 in
theorem rNames_any {w0 : World} {va : Value} {l : List Tx} (ha : StrsAt w0 va l) (lo hi : Int) (made : Bool) :
    ∀ w, Below w0.heap.size w0 w → Calls Tryz.prog 35 #[va, .int .i64 lo, .int .i64 hi, .bool made] w (BoolPost (decide (lo ≤ l.length) && decide ((l.length : Int) ≤ hi) && l.all (nameM made)) w) := by
  intro w hw; obtain ⟨A, ca, rfl, hca, hma, hea⟩ := ha; have hla : l.length ≤ 9223372036854775807 := (by unfold maxLen at hma; omega); have HW0 := Lib.hid hw; have hsz0 := hw.size; have HEA := Lib.hid hea; clear hw hca hma hea; go_enter Tryz.func35, Tryz.ntmps35
  go_wp2_with fail
  go_loopg [9] l.length (fun g v wr => ∃ k : Nat, k + g = l.length ∧ v = .int .i64 k ∧ AllTo (nameM made) l k ∧ Below w.heap.size w wr)
  case atStart => exact ⟨0, by omega, rfl, AllTo.zero, Below.refl _ _⟩
  case round =>
    obtain ⟨k, hkg, rfl, hto, hbw⟩ := hrel; obtain ⟨wq, rfl⟩ : ∃ W, W = wr := ⟨_, rfl⟩; have HK := Lib.hid hkg; have HW := Lib.hid hbw; have HT := Lib.hid hto; have hkl : k ≤ l.length := (by omega); clear hkg hbw hto; by_cases hlt : k < l.length
    · obtain ⟨x, hx⟩ : ∃ x, l[k]? = some x := ⟨_, List.getElem?_eq_getElem hlt⟩; obtain ⟨L, hEL, rfl, hxm⟩ := HEA.out k x hx; have HB0 := Lib.hid (HW0.out.trans (HW.out.mono hsz0)); obtain ⟨a, rfl, hab, haa, d0⟩ := elem1 (hEL.under HB0.out); rw [Nat.mul_one] at d0; have HX := Lib.hid hx; have HF := Lib.hid (fun w => rName_any x made w hxm); clear hEL hx hxm; cases hfx : nameM made x
      · have HFX := Lib.hid hfx; rw [hfx] at HF; clear hfx; go_wp2_with (go_at_call 67; refine (HF.out _).mono ?_; rintro e w1 ⟨rfl, hb1⟩)
        go_ret; exact ⟨ret_bool (by rw [all_no HX.out HFX.out, Bool.and_false]), HW.out.trans (hb1.mono HW.out.size)⟩
      · have HFX := Lib.hid hfx; rw [hfx] at HF; clear hfx; go_wp2_with (go_at_call 67; refine (HF.out _).mono ?_; rintro e w1 ⟨rfl, hb1⟩)
        go_roundg (l.length - (k + 1))
        case measure => have := HK.out; omega
        case rel => exact ⟨k + 1, by omega, by go_num, HT.out.succ HX.out HFX.out, HW.out.trans (hb1.mono HW.out.size)⟩
    · have hke : k = l.length := by omega
      have HKE := Lib.hid hke; clear hke; go_wp2_with fail
      all_goals go_ret
      all_goals exact ⟨ret_bool (by rw [HT.out.all HKE.out, Bool.and_true, Bool.eq_iff_iff]; simp; omega), HW.out⟩
set_option maxHeartbeats 1000000 in
theorem rCons_any {w0 : World} {va : Value} {l : List Tx} (ha : StrsAt w0 va l) (lo hi : Int) (made : Bool) :
    ∀ w, Below w0.heap.size w0 w → Calls Tryz.prog 34 #[va, .int .i64 lo, .int .i64 hi, .bool made] w (BoolPost (decide (lo ≤ l.length) && decide ((l.length : Int) ≤ hi) && l.all (conM made)) w) := by
  intro w hw; obtain ⟨A, ca, rfl, hca, hma, hea⟩ := ha; have hla : l.length ≤ 9223372036854775807 := (by unfold maxLen at hma; omega); have HW0 := Lib.hid hw; have hsz0 := hw.size; have HEA := Lib.hid hea; clear hw hca hma hea; go_enter Tryz.func34, Tryz.ntmps34
  go_wp2_with fail
  go_loopg [9] l.length (fun g v wr => ∃ k : Nat, k + g = l.length ∧ v = .int .i64 k ∧ AllTo (conM made) l k ∧ Below w.heap.size w wr)
  case atStart => exact ⟨0, by omega, rfl, AllTo.zero, Below.refl _ _⟩
  case round =>
    obtain ⟨k, hkg, rfl, hto, hbw⟩ := hrel; obtain ⟨wq, rfl⟩ : ∃ W, W = wr := ⟨_, rfl⟩; have HK := Lib.hid hkg; have HW := Lib.hid hbw; have HT := Lib.hid hto; have hkl : k ≤ l.length := (by omega); clear hkg hbw hto; by_cases hlt : k < l.length
    · obtain ⟨x, hx⟩ : ∃ x, l[k]? = some x := ⟨_, List.getElem?_eq_getElem hlt⟩; obtain ⟨L, hEL, rfl, hxm⟩ := HEA.out k x hx; have HB0 := Lib.hid (HW0.out.trans (HW.out.mono hsz0)); obtain ⟨a, rfl, hab, haa, d0⟩ := elem1 (hEL.under HB0.out); rw [Nat.mul_one] at d0; have HX := Lib.hid hx; have HF := Lib.hid (fun w => rConstructor_any x made w hxm); clear hEL hx hxm; cases hfx : conM made x
      · have HFX := Lib.hid hfx; rw [hfx] at HF; clear hfx; go_wp2_with (go_at_call 66; refine (HF.out _).mono ?_; rintro e w1 ⟨rfl, hb1⟩)
        go_ret; exact ⟨ret_bool (by rw [all_no HX.out HFX.out, Bool.and_false]), HW.out.trans (hb1.mono HW.out.size)⟩
      · have HFX := Lib.hid hfx; rw [hfx] at HF; clear hfx; go_wp2_with (go_at_call 66; refine (HF.out _).mono ?_; rintro e w1 ⟨rfl, hb1⟩)
        go_roundg (l.length - (k + 1))
        case measure => have := HK.out; omega
        case rel => exact ⟨k + 1, by omega, by go_num, HT.out.succ HX.out HFX.out, HW.out.trans (hb1.mono HW.out.size)⟩
    · have hke : k = l.length := by omega
      have HKE := Lib.hid hke; clear hke; go_wp2_with fail
      all_goals go_ret
      all_goals exact ⟨ret_bool (by rw [HT.out.all HKE.out, Bool.and_true, Bool.eq_iff_iff]; simp; omega), HW.out⟩
/-- which fields an expression has, but for what its constructors are -/
def rshapeV (made : Bool) (op : Int) (nm : Tx) (n : Int) (c k : Nat) : Bool :=
  if op = 1 then nm == [] && decide (0 ≤ n) && decide (c = 0) && decide (k = 0)
  else if op = 2 then nm == [] && (n == 0 || n == 1) && decide (c = 0) && decide (k = 0)
  else if op = 3 then conM made nm && n == 0 && decide (c = 0) && decide (k = 0)
  else if op = 4 then nameM made nm && n == 0 && decide (c = 0) && decide (k = 0)
  else if op = 5 then (nm == [110, 111, 116] || nm == [45]) && n == 0 && decide (c = 0) && decide (k = 1)
  else if op = 6 then binsL.any (nm == ·) && n == 0 && decide (c = 0) && decide (k = 2)
  else if op = 7 then nm == [] && n == 0 && decide (c = 0) && decide (k = 3)
  else if op = 8 then nm == [] && n == 0 && decide (c = 0) && decide (k = 2)
  else if op = 9 then nm == [] && n == 0 && decide (c = 0) && decide (k = 1)
  else if op = 10 then nm == [] && n == 0 && decide (c = 0) && decide (k = 2)
  else if op = 11 then nameM made nm && n == 0 && decide (c = 1) && decide (k = 1)
  else if op = 12 then nameM made nm && n == 0 && (decide (1 ≤ c) && decide (c ≤ 8)) && (decide (1 ≤ k) && decide (k ≤ 8))
  else if op = 13 then nameM made nm && n == 0 && (decide (1 ≤ c) && decide (c ≤ 8)) && (decide (1 ≤ k) && decide (k ≤ 8))
  else if op = 14 then nameM made nm && n == 0 && decide (c ≤ 6) && (decide (1 ≤ k) && decide (k ≤ 6))
  else if op = 15 then nm == [] && n == 0 && decide (c = 0) && decide (k = 2)
  else false
def binsV : Array Value := (binsL.map fun l => Value.string (str l)).toArray
theorem bins_at (w : World) : RefStrs (w.alloc (.cells binsV 9)) w.heap.size 0 binsL := fun i hi => by
  rw [cell_of_row _ _ _ _ _ _ (heap_alloc_new w _)]
  simp [binsV, List.getElem?_eq_getElem hi]
theorem rhasBins_any (s : Tx) (g : Nat) (w : World) (hg : w.heap.size = g) :
    Calls Tryz.prog 68 #[.slice (some ⟨g, 0, none⟩) 11 11, .string (str s)] (w.alloc (.cells #[.string ⟨#[43]⟩, .string ⟨#[45]⟩, .string ⟨#[42]⟩, .string ⟨#[47]⟩, .string ⟨#[37]⟩, .string ⟨#[60]⟩, .string ⟨#[60, 61]⟩, .string ⟨#[61]⟩, .string ⟨#[60, 62]⟩, .string ⟨#[97, 110, 100]⟩, .string ⟨#[111, 114]⟩] 9)) fun e w' => e = .returned (.bool (binsL.any (s == ·))) ∧ w.alloc (.cells #[.string ⟨#[43]⟩, .string ⟨#[45]⟩, .string ⟨#[42]⟩, .string ⟨#[47]⟩, .string ⟨#[37]⟩, .string ⟨#[60]⟩, .string ⟨#[60, 61]⟩, .string ⟨#[61]⟩, .string ⟨#[60, 62]⟩, .string ⟨#[97, 110, 100]⟩, .string ⟨#[111, 114]⟩] 9) = w' := by
  subst hg; have := rhas_any w.heap.size 0 11 binsL (str s) _ (by decide) (bins_at w); rw [str_toList] at this; exact this
set_option maxHeartbeats 1000000 in
set_option maxRecDepth 100000 in
theorem rshape_six (n : Int) (nm : Tx) (made : Bool) (A1 A2 : Option Addr) (c k j1 j2 : Nat) (w : World) (_ : c ≤ 9223372036854775807) (_ : k ≤ 9223372036854775807) :
    Calls Tryz.prog 33 #[.agg #[.int .i64 6, .string (str nm), .int .i64 n, .slice A1 c j1, .slice A2 k j2], .bool made] w (BoolPost (rshapeV made 6 nm n c k) w) := by
  have hs : (str nm).toList = nm := (by rw [Lib.toList_data, str_toList]); have HS := Lib.hid hs; clear hs; rw [show rshapeV made 6 nm n c k = (binsL.any (nm == ·) && n == 0 && decide (c = 0) && decide (k = 2)) by simp [rshapeV]]; generalize hb : binsL.any (nm == ·) = b; have HH := Lib.hid (rhasBins_any nm (w.heap.size + 1) (w.alloc (.cells #[.int .i64 6, .string (str nm), .int .i64 n, .slice A1 c j1, .slice A2 k j2] 37)) (by simp)); rw [hb] at HH; clear hb; go_enter Tryz.func33, Tryz.ntmps33
  go_wp2_with (go_at_call 68; (with_reducible refine (HH.out).mono ?_); rintro e w1 ⟨rfl, rfl⟩)
  all_goals go_ret
  all_goals refine ⟨ret_bool (by have hs := HS.out; clear HS HH; rw [Bool.eq_iff_iff]; simp_all <;> omega), ?_⟩
  all_goals exact (((Below.refl _ w).alloc (Nat.le_refl _) _).alloc (by simp) _)
set_option maxHeartbeats 4000000 in
set_option maxRecDepth 100000 in
theorem rshape_any (op n : Int) (nm : Tx) (made : Bool) (A1 A2 : Option Addr) (c k j1 j2 : Nat) (w : World) (hm : nm.length ≤ maxLen) (hc : c ≤ 9223372036854775807) (hk : k ≤ 9223372036854775807) :
    Calls Tryz.prog 33 #[.agg #[.int .i64 op, .string (str nm), .int .i64 n, .slice A1 c j1, .slice A2 k j2], .bool made] w (BoolPost (rshapeV made op nm n c k) w) := by
  have HN := Lib.hid (fun w => rName_any nm made w hm); have HC := Lib.hid (fun w => rConstructor_any nm made w hm); have hs : (str nm).toList = nm := (by rw [Lib.toList_data, str_toList]); have HS := Lib.hid hs; clear hs; rcases op_casesR op with rfl | rfl | rfl | rfl | rfl | rfl | rfl | rfl | rfl | rfl | rfl | rfl | rfl | rfl | rfl | ⟨h1, h2, h3, h4, h5, h6, h7, h8, h9, h10, h11, h12, h13, h14, h15⟩
  · skip
    go_enter Tryz.func33, Tryz.ntmps33
    go_wp2_with fail
    all_goals go_ret
    all_goals refine ⟨ret_bool (by have hs := HS.out; clear HN HC HS; rw [Bool.eq_iff_iff]; simp_all [rshapeV] <;> omega), ?_⟩
    all_goals exact (Below.refl _ w).alloc (Nat.le_refl _) _
  · skip
    go_enter Tryz.func33, Tryz.ntmps33
    go_wp2_with fail
    all_goals go_ret
    all_goals refine ⟨ret_bool (by have hs := HS.out; clear HN HC HS; rw [Bool.eq_iff_iff]; simp_all [rshapeV] <;> omega), ?_⟩
    all_goals exact (Below.refl _ w).alloc (Nat.le_refl _) _
  · skip
    go_enter Tryz.func33, Tryz.ntmps33
    go_wp2_with (first | (go_at_call 67; refine (HN.out _).mono ?_; rintro e w1 ⟨rfl, hb1⟩; obtain ⟨p0, p1, p2, p3, p4⟩ := row5 (box_next hb1 (heap_alloc_new w _))) | (go_at_call 66; refine (HC.out _).mono ?_; rintro e w1 ⟨rfl, hb1⟩; obtain ⟨p0, p1, p2, p3, p4⟩ := row5 (box_next hb1 (heap_alloc_new w _))))
    all_goals go_ret
    all_goals refine ⟨ret_bool (by have hs := HS.out; clear HN HC HS; rw [Bool.eq_iff_iff]; simp_all [rshapeV] <;> omega), ?_⟩
    all_goals exact ((Below.refl _ w).alloc (Nat.le_refl _) _).trans (hb1.mono (by simp))
  · skip
    go_enter Tryz.func33, Tryz.ntmps33
    go_wp2_with (first | (go_at_call 67; refine (HN.out _).mono ?_; rintro e w1 ⟨rfl, hb1⟩; obtain ⟨p0, p1, p2, p3, p4⟩ := row5 (box_next hb1 (heap_alloc_new w _))) | (go_at_call 66; refine (HC.out _).mono ?_; rintro e w1 ⟨rfl, hb1⟩; obtain ⟨p0, p1, p2, p3, p4⟩ := row5 (box_next hb1 (heap_alloc_new w _))))
    all_goals go_ret
    all_goals refine ⟨ret_bool (by have hs := HS.out; clear HN HC HS; rw [Bool.eq_iff_iff]; simp_all [rshapeV] <;> omega), ?_⟩
    all_goals exact ((Below.refl _ w).alloc (Nat.le_refl _) _).trans (hb1.mono (by simp))
  · skip
    go_enter Tryz.func33, Tryz.ntmps33
    go_wp2_with fail
    all_goals go_ret
    all_goals refine ⟨ret_bool (by have hs := HS.out; clear HN HC HS; rw [Bool.eq_iff_iff]; simp_all [rshapeV] <;> omega), ?_⟩
    all_goals exact (Below.refl _ w).alloc (Nat.le_refl _) _
  · exact rshape_six n nm made A1 A2 c k j1 j2 w hc hk
  · skip
    go_enter Tryz.func33, Tryz.ntmps33
    go_wp2_with fail
    all_goals go_ret
    all_goals refine ⟨ret_bool (by have hs := HS.out; clear HN HC HS; rw [Bool.eq_iff_iff]; simp_all [rshapeV] <;> omega), ?_⟩
    all_goals exact (Below.refl _ w).alloc (Nat.le_refl _) _
  · skip
    go_enter Tryz.func33, Tryz.ntmps33
    go_wp2_with fail
    all_goals go_ret
    all_goals refine ⟨ret_bool (by have hs := HS.out; clear HN HC HS; rw [Bool.eq_iff_iff]; simp_all [rshapeV] <;> omega), ?_⟩
    all_goals exact (Below.refl _ w).alloc (Nat.le_refl _) _
  · skip
    go_enter Tryz.func33, Tryz.ntmps33
    go_wp2_with fail
    all_goals go_ret
    all_goals refine ⟨ret_bool (by have hs := HS.out; clear HN HC HS; rw [Bool.eq_iff_iff]; simp_all [rshapeV] <;> omega), ?_⟩
    all_goals exact (Below.refl _ w).alloc (Nat.le_refl _) _
  · skip
    go_enter Tryz.func33, Tryz.ntmps33
    go_wp2_with fail
    all_goals go_ret
    all_goals refine ⟨ret_bool (by have hs := HS.out; clear HN HC HS; rw [Bool.eq_iff_iff]; simp_all [rshapeV] <;> omega), ?_⟩
    all_goals exact (Below.refl _ w).alloc (Nat.le_refl _) _
  · skip
    go_enter Tryz.func33, Tryz.ntmps33
    go_wp2_with (first | (go_at_call 67; refine (HN.out _).mono ?_; rintro e w1 ⟨rfl, hb1⟩; obtain ⟨p0, p1, p2, p3, p4⟩ := row5 (box_next hb1 (heap_alloc_new w _))) | (go_at_call 66; refine (HC.out _).mono ?_; rintro e w1 ⟨rfl, hb1⟩; obtain ⟨p0, p1, p2, p3, p4⟩ := row5 (box_next hb1 (heap_alloc_new w _))))
    all_goals go_ret
    all_goals refine ⟨ret_bool (by have hs := HS.out; clear HN HC HS; rw [Bool.eq_iff_iff]; simp_all [rshapeV] <;> omega), ?_⟩
    all_goals exact ((Below.refl _ w).alloc (Nat.le_refl _) _).trans (hb1.mono (by simp))
  · skip
    go_enter Tryz.func33, Tryz.ntmps33
    go_wp2_with (first | (go_at_call 67; refine (HN.out _).mono ?_; rintro e w1 ⟨rfl, hb1⟩; obtain ⟨p0, p1, p2, p3, p4⟩ := row5 (box_next hb1 (heap_alloc_new w _))) | (go_at_call 66; refine (HC.out _).mono ?_; rintro e w1 ⟨rfl, hb1⟩; obtain ⟨p0, p1, p2, p3, p4⟩ := row5 (box_next hb1 (heap_alloc_new w _))))
    all_goals go_ret
    all_goals refine ⟨ret_bool (by have hs := HS.out; clear HN HC HS; rw [Bool.eq_iff_iff]; simp_all [rshapeV] <;> omega), ?_⟩
    all_goals exact ((Below.refl _ w).alloc (Nat.le_refl _) _).trans (hb1.mono (by simp))
  · skip
    go_enter Tryz.func33, Tryz.ntmps33
    go_wp2_with (first | (go_at_call 67; refine (HN.out _).mono ?_; rintro e w1 ⟨rfl, hb1⟩; obtain ⟨p0, p1, p2, p3, p4⟩ := row5 (box_next hb1 (heap_alloc_new w _))) | (go_at_call 66; refine (HC.out _).mono ?_; rintro e w1 ⟨rfl, hb1⟩; obtain ⟨p0, p1, p2, p3, p4⟩ := row5 (box_next hb1 (heap_alloc_new w _))))
    all_goals go_ret
    all_goals refine ⟨ret_bool (by have hs := HS.out; clear HN HC HS; rw [Bool.eq_iff_iff]; simp_all [rshapeV] <;> omega), ?_⟩
    all_goals exact ((Below.refl _ w).alloc (Nat.le_refl _) _).trans (hb1.mono (by simp))
  · skip
    go_enter Tryz.func33, Tryz.ntmps33
    go_wp2_with (first | (go_at_call 67; refine (HN.out _).mono ?_; rintro e w1 ⟨rfl, hb1⟩; obtain ⟨p0, p1, p2, p3, p4⟩ := row5 (box_next hb1 (heap_alloc_new w _))) | (go_at_call 66; refine (HC.out _).mono ?_; rintro e w1 ⟨rfl, hb1⟩; obtain ⟨p0, p1, p2, p3, p4⟩ := row5 (box_next hb1 (heap_alloc_new w _))))
    all_goals go_ret
    all_goals refine ⟨ret_bool (by have hs := HS.out; clear HN HC HS; rw [Bool.eq_iff_iff]; simp_all [rshapeV] <;> omega), ?_⟩
    all_goals exact ((Below.refl _ w).alloc (Nat.le_refl _) _).trans (hb1.mono (by simp))
  · skip
    go_enter Tryz.func33, Tryz.ntmps33
    go_wp2_with fail
    all_goals go_ret
    all_goals refine ⟨ret_bool (by have hs := HS.out; clear HN HC HS; rw [Bool.eq_iff_iff]; simp_all [rshapeV] <;> omega), ?_⟩
    all_goals exact (Below.refl _ w).alloc (Nat.le_refl _) _
  · skip
    go_enter Tryz.func33, Tryz.ntmps33
    go_wp2_with fail
    all_goals go_ret
    all_goals refine ⟨ret_bool (by have hs := HS.out; clear HN HC HS; rw [Bool.eq_iff_iff]; simp_all [rshapeV] <;> omega), ?_⟩
    all_goals exact (Below.refl _ w).alloc (Nat.le_refl _) _
end Go.Proofs.YtlhmdjhfmhkllaaGreatDoor
