/-
  Texts joined.
-/
import Derived.Lib.ConvBytes
import Derived.Test.YtlhmdjhfmhkllaaGreatDoorShelf
import Derived.Test.YtlhmdjhfmhkllaaGreatDoorKb14
namespace Go.Proofs.YtlhmdjhfmhkllaaGreatDoor
open Go.RowKit
theorem isSpace_any (c : UInt8) (w : World) :
    Calls Tryz.prog 126 #[.int .u8 (c.toNat : Int)] w fun e w' => e = .returned (.bool (spaceB c)) ∧ w = w' := by
  go_enter Tryz.func126, Tryz.ntmps126
  go_wp2; all_goals go_ret
  all_goals exact ⟨ret_bool (by rw [Bool.eq_iff_iff]; simp [spaceB]; try omega), rfl⟩
theorem hasPrefix_any (s p : ByteArray) (w : World) :
    Calls Tryz.prog 127 #[.string s, .string p] w fun e w' => e = .returned (.bool (p.data.toList.isPrefixOf s.data.toList)) ∧ w = w' :=
  (Any.strings_HasPrefix Tryz.lays99 s p w).mono fun _ _ ⟨h1, h2⟩ => ⟨h1, h2.symm⟩
theorem indexNL_any (s : ByteArray) (w : World) :
    Calls Tryz.prog 159 #[.string s, .int .u8 10] w fun e w' => e = .returned (.int .i64 (Lib.indexByte s.data.toList 10)) ∧ w = w' :=
  (Any.strings_IndexByte Tryz.lays137 s 10 w).mono fun _ _ ⟨h1, h2⟩ => ⟨h1, h2.symm⟩
set_option maxHeartbeats 400000 in
theorem commentLength_any (s : ByteArray) (w : World) :
    Calls Tryz.prog 128 #[.string s] w fun e w' => e = .returned (.int .i64 (comL s.data.toList : Nat)) ∧ w = w' := by
  have hl : s.data.toList.length = s.size := (by simp); rcases indexByte_com s.data.toList with ⟨h1, h2⟩ | h1
  · have H1 := Lib.hid h1; have H2 := Lib.hid h2; clear h1 h2; have hc : Calls Tryz.prog 159 #[.string s, .int .u8 10] w fun e w' => e = .returned (.int .i64 (-1)) ∧ w = w' := by
      have := indexNL_any s w; rwa [H1.out] at this
    have HC := Lib.hid hc; clear hc; go_enter Tryz.func128, Tryz.ntmps128
    go_wp2_with (go_at_call 159; refine HC.out.mono ?_; rintro e w' ⟨rfl, rfl⟩)
    go_ret; exact ⟨ret_int (by rw [H2.out, hl]), rfl⟩
  · have hc : Calls Tryz.prog 159 #[.string s, .int .u8 10] w fun e w' => e = .returned (.int .i64 (comL s.data.toList : Nat)) ∧ w = w' := by
      have := indexNL_any s w; rwa [h1] at this
    clear h1; have HC := Lib.hid hc; clear hc; go_enter Tryz.func128, Tryz.ntmps128
    go_wp2_with (go_at_call 159; refine HC.out.mono ?_; rintro e w' ⟨rfl, rfl⟩)
    go_ret; exact ⟨rfl, rfl⟩
/-- what the sentinels' variables hold: some error -/
structure Errs (w : World) : Prop where
  syn : ∃ te pe, w.cell? ⟨4, 0, none⟩ = some (.iface te pe)
  rng : ∃ te pe, w.cell? ⟨5, 0, none⟩ = some (.iface te pe)
theorem Errs.lt1 {w : World} (h : Errs w) : 4 < w.heap.size := by
  obtain ⟨te, pe, hc⟩ := h.syn; exact World.block_lt_of_cell? w _ hc
theorem Errs.lt2 {w : World} (h : Errs w) : 5 < w.heap.size := by
  obtain ⟨te, pe, hc⟩ := h.rng; exact World.block_lt_of_cell? w _ hc
theorem Errs.below {w w' : World} {B : Nat} (h : Errs w) (hb : Below B w w') (h1 : 4 < B) (h2 : 5 < B) : Errs w' := by
  obtain ⟨te, pe, hc⟩ := h.syn; obtain ⟨te', pe', hc'⟩ := h.rng; exact ⟨⟨te, pe, (hb.cell h1).trans hc⟩, ⟨te', pe', (hb.cell h2).trans hc'⟩⟩
theorem Errs.under {w w' : World} (h : Errs w) (hb : Below w.heap.size w w') : Errs w' := h.below hb h.lt1 h.lt2
/-- strconv.ParseInt at base 10, size 64: the number, or an error that is there -/
def Parsed (s : ByteArray) (w : World) (e : Ending) (w' : World) : Prop :=
  Below w.heap.size w w' ∧ ∃ (v : Int) (x : Value), e = .returned (.tuple #[.int .i64 v, x]) ∧
    ((∃ n, Lib.parseIntB 64 s.data.toList = .ok n ∧ v = n ∧ x = .nilIface) ∨ ((∀ n, Lib.parseIntB 64 s.data.toList ≠ .ok n) ∧ ∃ t p, x = .iface t p))
theorem parseInt_any (s : ByteArray) (w : World) (hs : s.size ≤ 281474976710656) (he : Errs w) :
    Calls Tryz.prog 182 #[.string s, .int .i64 10, .int .i64 64] w (Parsed s w) := by
  obtain ⟨te, pe, hc⟩ := he.syn; obtain ⟨te', pe', hc'⟩ := he.rng; rcases h : Lib.parseIntB 64 s.data.toList with v | _ | _
  · refine (Any.strconv_ParseInt_10_at64_ok Tryz.laysC174 s (by omega) v h w).mono fun e w' ⟨h1, h2⟩ => ⟨?_, v, _, h1, .inl ⟨v, h, rfl, rfl⟩⟩; rcases h2 with rfl | ⟨t, rfl⟩
    · exact Below.refl _ _
    · exact Lib.bytesWorld_below _ _ _
  · refine (Any.strconv_ParseInt_10_at64_syntax Tryz.laysC174 s hs h _ w hc (.inr ⟨te, pe, rfl⟩)).mono fun e w' ⟨N, h1, _, _, h2⟩ => ⟨h2, _, _, h1, .inr ⟨fun n => by rw [h]; simp, _, _, rfl⟩⟩
  · refine (Any.strconv_ParseInt_10_at64_range Tryz.laysC174 s hs h _ w hc' (.inr ⟨te', pe', rfl⟩)).mono fun e w' ⟨N, h1, _, _, h2⟩ => ⟨h2, _, _, h1, .inr ⟨fun n => by rw [h]; simp, _, _, rfl⟩⟩
theorem litL_zero {l : List UInt8} (h1 : 1 < l.length) (h2 : (l.head?.getD 0).toNat = 48) : litL l = none := by simp [litL, h1, h2]
theorem litL_ok {l : List UInt8} {n : Int} (h : ¬(1 < l.length ∧ (l.head?.getD 0).toNat = 48)) (hp : Lib.parseIntB 64 l = .ok n) : litL l = some n := by simp [litL, h, hp]
theorem litL_no {l : List UInt8} (hp : ∀ n, Lib.parseIntB 64 l ≠ .ok n) : litL l = none := by
  unfold litL; split
  · rfl
  · split
    · rename_i v hv; exact absurd hv (hp v)
    · rfl
set_option maxHeartbeats 1000000 in
theorem literal_any (s : ByteArray) (w : World) (hs : s.size ≤ 65536) (he : Errs w) :
    Calls Tryz.prog 162 #[.string s] w fun e w' => e = .returned (.tuple #[.int .i64 (litN s.data.toList), .bool (litB s.data.toList)]) ∧ Below w.heap.size w w' := by
  have hl : s.data.toList.length = s.size := (by simp); have rest : ¬(1 < s.data.toList.length ∧ (s.data.toList.head?.getD 0).toNat = 48) → ∀ (e : Ending) (w' : World), Parsed s w e w' →
      (∃ n, e = .returned (.tuple #[.int .i64 n, .nilIface]) ∧ litN s.data.toList = n ∧ litB s.data.toList = true ∧ Below w.heap.size w w') ∨
      (∃ n t p, e = .returned (.tuple #[.int .i64 n, .iface t p]) ∧ litN s.data.toList = 0 ∧ litB s.data.toList = false ∧ Below w.heap.size w w') := by
    intro hn e w' ⟨hb, v, x, h1, h2⟩; rcases h2 with ⟨n, hp, rfl, rfl⟩ | ⟨hp, t, p, rfl⟩
    · exact .inl ⟨v, h1, by simp [litN, litL_ok hn hp], by simp [litB, litL_ok hn hp], hb⟩
    · exact .inr ⟨v, t, p, h1, by simp [litN, litL_no hp], by simp [litB, litL_no hp], hb⟩
  have REST := Lib.hid rest; clear rest; have HE := Lib.hid he; clear he; by_cases h1 : 1 < s.size
  · have h0 : 0 < s.size := by omega
    have hh := Lib.hid (head_eq h0); by_cases h2 : s[0].toNat = 48
    · have h2' : ((s[0].toNat : Int) == 48) = true := by simp; omega
      have H2 := Lib.hid h2; clear h2; go_enter Tryz.func162, Tryz.ntmps162
      go_wp2_with fail
      go_ret2
      have hz := litL_zero (l := s.data.toList) (by omega) (by rw [hh.out]; exact H2.out); exact ⟨by simp [litN, litB, hz], Below.refl _ _⟩
    · have h2' : ((s[0].toNat : Int) == 48) = false := by simp; omega
      have H2 := Lib.hid h2; clear h2; go_enter Tryz.func162, Tryz.ntmps162
      go_wp2_with (go_at_call 182; refine (parseInt_any _ _ (by omega) HE.out).mono ?_)
      intro e w' hp; rcases REST.out (by rw [hh.out]; exact fun h => H2.out h.2) e w' hp with ⟨n, rfl, e1, e2, hb⟩ | ⟨n, t, p, rfl, e1, e2, hb⟩; all_goals have E1 := Lib.hid e1
      all_goals have E2 := Lib.hid e2
      all_goals clear e1 e2 hp
      all_goals go_wp2_with fail
      all_goals go_ret2
      all_goals exact ⟨by simp [E1.out, E2.out], hb⟩
  · go_enter Tryz.func162, Tryz.ntmps162
    go_wp2_with (go_at_call 182; refine (parseInt_any _ _ (by omega) HE.out).mono ?_)
    intro e w' hp; rcases REST.out (by rw [hl]; exact fun h => h1 h.1) e w' hp with ⟨n, rfl, e1, e2, hb⟩ | ⟨n, t, p, rfl, e1, e2, hb⟩; all_goals have E1 := Lib.hid e1
    all_goals have E2 := Lib.hid e2
    all_goals clear e1 e2 hp
    all_goals go_wp2_with fail
    all_goals go_ret2
    all_goals exact ⟨by simp [E1.out, E2.out], hb⟩
theorem sort_word {l : List UInt8} (h : wordB l = true) : sortL l = 5 ∧ numL l = 0 := by simp [sortL, numL, h]
theorem sort_name {l : List UInt8} (h0 : wordB l = false) (h : nameB l = true) : sortL l = 1 ∧ numL l = 0 := by simp [sortL, numL, h0, h]
theorem sort_con {l : List UInt8} (h0 : wordB l = false) (h1 : nameB l = false) (h : conB l = true) : sortL l = 2 ∧ numL l = 0 := by simp [sortL, numL, h0, h1, h]
theorem sort_lit {l : List UInt8} (h0 : wordB l = false) (h1 : nameB l = false) (h2 : conB l = false) (h : litB l = true) : sortL l = 3 ∧ numL l = litN l := by simp [sortL, numL, h0, h1, h2, h]
theorem sort_none {l : List UInt8} (h0 : wordB l = false) (h1 : nameB l = false) (h2 : conB l = false) (h : litB l = false) : sortL l = 0 ∧ numL l = 0 := by
  have : litN l = 0 := by simp [litB] at h; simp [litN, h]
  simp [sortL, numL, h0, h1, h2, h, this]
set_option maxHeartbeats 1000000 in
theorem classify_any (s : ByteArray) (w : World) (hs : s.size ≤ 65536) (he : Errs w) :
    Calls Tryz.prog 131 #[.string s] w fun e w' => e = .returned (.tuple #[.int .i64 (sortL s.data.toList), .int .i64 (numL s.data.toList)]) ∧ Below w.heap.size w w' := by
  have hm : s.size ≤ maxLen := (by unfold maxLen; omega); have HE := Lib.hid he; clear he; go_enter Tryz.func131, Tryz.ntmps131
  go_wp2_with (first | (go_at_call 140; refine (isWord_any _ _).mono ?_; rintro e w' ⟨rfl, rfl⟩) | (go_at_call 92; refine (isName_any _ _ hm).mono ?_; rintro e w' ⟨rfl, rfl⟩) | (go_at_call 93; refine (isCon_any _ _ hm).mono ?_; rintro e w' ⟨rfl, rfl⟩) | (go_at_call 162; refine (literal_any _ _ hs HE.out).mono ?_; rintro e w' ⟨rfl, hb⟩))
  · rename_i h1; go_ret2
    exact ⟨by simp [(sort_word h1).1, (sort_word h1).2], Below.refl _ _⟩
  · rename_i h1 h2; go_ret2
    exact ⟨by simp [(sort_name h1 h2).1, (sort_name h1 h2).2], Below.refl _ _⟩
  · rename_i h1 h2 h3; go_ret2
    exact ⟨by simp [(sort_con h1 h2 h3).1, (sort_con h1 h2 h3).2], Below.refl _ _⟩
  · have e := sort_lit (l := s.data.toList) (by assumption) (by assumption) (by assumption) (by assumption); have E := Lib.hid e; clear e; go_ret2
    exact ⟨by simp [E.out.1, E.out.2], hb⟩
  · have e := sort_none (l := s.data.toList) (by assumption) (by assumption) (by assumption) (by assumption); have E := Lib.hid e; clear e; go_ret2
    exact ⟨by simp [E.out.1, E.out.2], hb⟩
end Go.Proofs.YtlhmdjhfmhkllaaGreatDoor
