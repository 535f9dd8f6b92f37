/-
  Texts joined.
-/
import Derived.Deep.LoopGhost
import Derived.LoopTactic
import Derived.Test.YtlhmdjhfmhkllaaGreatDoorKb35
namespace Go.Proofs.YtlhmdjhfmhkllaaGreatDoor
open Go.RowKit
theorem Src.set1 {w : World} {b : Nat} {r : List UInt8} {line col : Int} (h : Src w b r line col) (x : Int) : Src (w.setCell ⟨b, 1, none⟩ (.int .i64 x)) b r x col := by
  have := heap_setCell_same w b 1 _ _ (.int .i64 x) h; simpa [Src] using this
theorem Src.set2 {w : World} {b : Nat} {r : List UInt8} {line col : Int} (h : Src w b r line col) (x : Int) : Src (w.setCell ⟨b, 2, none⟩ (.int .i64 x)) b r line x := by
  have := heap_setCell_same w b 2 _ _ (.int .i64 x) h; simpa [Src] using this
theorem Src.set0 {w : World} {b : Nat} {r : List UInt8} {line col : Int} (h : Src w b r line col) (q : List UInt8) : Src (w.setCell ⟨b, 0, none⟩ (.string (str q))) b q line col := by
  have := heap_setCell_same w b 0 _ _ (.string (str q)) h; simpa [Src] using this
theorem Src.fr {w : World} {b : Nat} {r : List UInt8} {line col : Int} (h : Src w b r line col) (j : Nat) : w.frozen? ⟨b, j, none⟩ = false := frozen_of_row w b j _ _ h
theorem grownBy_refl (w : World) (row : Option Nat) : w.grownBy w row := ⟨rfl, rfl, rfl, Nat.le_refl _, fun _ _ _ => rfl⟩
theorem grownBy_trans {a b c : World} {row : Option Nat} (h : a.grownBy b row) (k : b.grownBy c row) : a.grownBy c row :=
  ⟨k.os.trans h.os, k.tape.trans h.tape, k.output.trans h.output, Nat.le_trans h.size k.size, fun i hi hn => (k.block i (Nat.lt_of_lt_of_le hi h.size) hn).trans (h.block i hi hn)⟩
theorem grownBy_set {a w : World} {b j : Nat} (h : a.grownBy w (some b)) (v : Value) : a.grownBy (w.setCell ⟨b, j, none⟩ v) (some b) :=
  grownBy_trans h ⟨rfl, rfl, rfl, by simp [World.setCell], fun k hk hn => heap_setCell_other _ _ _ _ (fun e => hn (by rw [e]))⟩
theorem grownBy_below {w w' : World} (h : Below w.heap.size w w') (row : Option Nat) : w.grownBy w' row := ⟨h.os, h.tape, h.output, h.size, fun k hk _ => h.block k hk⟩
/-- the relation of the loop that passes bytes -/
structure PassRel (w : World) (b : Nat) (r : List UInt8) (n : Nat) (p : Int × Int) (k : Nat) (wr : World) : Prop where
  src : Src wr b r (posL (r.take k) p).1 (posL (r.take k) p).2
  grown : w.grownBy wr (some b)
  row : ∀ j, j < n → wr.cell? ⟨w.heap.size, j, none⟩ = some (.int .u8 ((r.getD j 0).toNat : Int))
theorem take_getD {r : List UInt8} {n j : Nat} (h : j < n) : (r.take n).getD j 0 = r.getD j 0 := by
  simp [List.getD_eq_getElem?_getD, h]
theorem passRel_start {w : World} {b : Nat} {r : List UInt8} {n : Nat} {p : Int × Int} (h : Src w b r p.1 p.2) (hn : n ≤ r.length) : PassRel w b r n p 0 (Lib.bytesWorld w 5 (str (r.take n))) where
  src := by
    have := Lib.bytesWorld_at_old w 5 (str (r.take n)) b h.lt; unfold Src; rw [this]; simpa [posL, Src] using h
  grown := grownBy_below (Lib.bytesWorld_below _ _ _) _
  row := fun j hj => by
    have := Lib.bytesWorld_cell w 5 (str (r.take n)) j (by rw [str_size, List.length_take]; omega); rw [this, str_toList, take_getD hj]
theorem take_succ {r : List UInt8} {k : Nat} (h : k < r.length) : r.take (k + 1) = r.take k ++ [r.getD k 0] := by
  rw [List.take_succ_eq_append_getElem h]; simp [List.getD_eq_getElem?_getD, List.getElem?_eq_getElem h]
theorem PassRel.other {w wr : World} {b : Nat} {r : List UInt8} {n : Nat} {p : Int × Int} {k : Nat} (h : PassRel w b r n p k wr) (hb : b < w.heap.size) (j : Nat) (v : Value) :
    ∀ i, i < n → (wr.setCell ⟨b, j, none⟩ v).cell? ⟨w.heap.size, i, none⟩ = some (.int .u8 ((r.getD i 0).toNat : Int)) := fun i hi => by
  rw [World.cell?_setCell_other _ _ _ _ (by intro e; injection e with e1 e2; omega)]
  exact h.row i hi
theorem passRel_plain {w wr : World} {b : Nat} {r : List UInt8} {n : Nat} {p : Int × Int} {k : Nat} (h : PassRel w b r n p k wr) (hb : b < w.heap.size) (hk : k < n) (hn : n ≤ r.length) (hc : (r.getD k 0).toNat ≠ 10) {x : Int} (hx : x = (posL (r.take k) p).2 + 1) :
    PassRel w b r n p (k + 1) (wr.setCell ⟨b, 2, none⟩ (.int .i64 x)) where
  src := by
    rw [take_succ (by omega), posL_snoc, if_neg hc, hx]; exact h.src.set2 _
  grown := grownBy_set h.grown _
  row := h.other hb 2 _
theorem passRel_line {w wr : World} {b : Nat} {r : List UInt8} {n : Nat} {p : Int × Int} {k : Nat} (h : PassRel w b r n p k wr) (hb : b < w.heap.size) (hk : k < n) (hn : n ≤ r.length) (hc : (r.getD k 0).toNat = 10) {x y : Int} (hx : x = (posL (r.take k) p).1 + 1) :
    PassRel w b r n p (k + 1) (((wr.setCell ⟨b, 2, none⟩ (.int .i64 y)).setCell ⟨b, 1, none⟩ (.int .i64 x)).setCell ⟨b, 2, none⟩ (.int .i64 1)) where
  src := by
    rw [take_succ (by omega), posL_snoc, if_pos hc, hx]; exact ((h.src.set2 _).set1 _).set2 _
  grown := grownBy_set (grownBy_set (grownBy_set h.grown _) _) _
  row := fun i hi => by
    rw [World.cell?_setCell_other _ _ _ _ (by intro e; injection e with e1 e2; omega), World.cell?_setCell_other _ _ _ _ (by intro e; injection e with e1 e2; omega)]; exact h.other hb 2 _ i hi
set_option maxHeartbeats 1000000 in
theorem pass_any (b : Nat) (r : List UInt8) (p : Int × Int) (n : Nat) (w : World) (hs : r.length ≤ 65536) (hn : n ≤ r.length) (h1 : 1 ≤ p.1) (h1' : p.1 ≤ 65537) (h2 : 1 ≤ p.2) (h2' : p.2 ≤ 65537) (hsrc : Src w b r p.1 p.2) :
    Calls Tryz.prog 81 #[.pointer (some ⟨b, 0, none⟩), .int .i64 (n : Int)] w fun e w' => e = .returned (.tuple #[]) ∧ Src w' b (r.drop n) (posL (r.take n) p).1 (posL (r.take n) p).2 ∧ w.grownBy w' (some b) := by
  have hcv : ∀ w, (convert 9 82 (.string (str (r.take n)))).run Tryz.prog w = .ok (.slice (some ⟨w.heap.size, 0, none⟩) n (grownCap w n 0 5)) (Lib.bytesWorld w 5 (str (r.take n))) := fun w => by
    have := Lib.run_convert_string_bytes (P := Tryz.prog) w 9 82 5 (str (r.take n)) Tryz.underlying9 Tryz.underlying82 Tryz.underlying5; have e : (str (r.take n)).size = n := (by rw [str_size, List.length_take]; omega); simpa only [e] using this
  have hx : (str r).extract 0 n = str (r.take n) := (by rw [extract_str]; rfl); have HST := Lib.hid (passRel_start hsrc hn); have h0 := hsrc.c0; have hlt := hsrc.lt; have hle : n ≤ (str r).size := (by rw [str_size]; exact hn); have hs' : (str r).size ≤ 65536 := hs; clear hsrc; go_enter Tryz.func81, Tryz.ntmps81
  go_wp2_with fail
  clear hcv hx; go_loopw [14] (fun i wr => ∃ k : Nat, k ≤ n ∧ i = .int .i64 k ∧ PassRel w b r n p k wr) (fun i _ => n - (intOf i).toNat)
  case atStart => exact ⟨0, Nat.zero_le _, rfl, HST.out⟩
  case round =>
    obtain ⟨k, hk, rfl, hR⟩ := hrel; have c0 := hR.src.c0; have c1 := hR.src.c1; have c2 := hR.src.c2; have f1 := hR.src.fr 1; have f2 := hR.src.fr 2; have f0 := hR.src.fr 0; have hbd := posL_bd (r.take k) p h1 h2; have hlk : (r.take k).length ≤ 65536 := (by rw [List.length_take]; omega); have HR := Lib.hid hR; have hblt : b ≠ w.heap.size := (by omega); obtain ⟨lk, el⟩ : ∃ x, x = (posL (r.take k) p).1 := ⟨_, rfl⟩; obtain ⟨ck, ec⟩ : ∃ x, x = (posL (r.take k) p).2 := ⟨_, rfl⟩; rw [← el] at c1 hbd; rw [← ec] at c2 hbd; obtain ⟨hb1, hb2, hb3, hb4⟩ := hbd; have EL := Lib.hid el; have EC := Lib.hid ec; by_cases hkn : k < n
    · have hcell := hR.row k hkn; have PL := fun (hc : (r.getD k 0).toNat ≠ 10) => passRel_plain hR hlt hkn hn hc (x := ck + 1) (by rw [ec]); have PN := fun (hc : (r.getD k 0).toNat = 10) (y : Int) => passRel_line hR hlt hkn hn hc (x := lk + 1) (y := y) (by rw [el]); clear hR el ec; generalize r.getD k 0 = c at hcell PL PN; by_cases hc : c.toNat = 10
      · have hc' : ((c.toNat : Int) == 10) = true := by simp; omega
        have P := PN hc; have HP := Lib.hid P; clear P PL PN hc; go_wp2_with fail
        go_roundw
        case rel => exact ⟨k + 1, by omega, by go_num, HP.out _⟩
        case measure => simp [intOf]; omega
      · have hc' : ((c.toNat : Int) == 10) = false := by simp; omega
        have P := PL hc; have HP := Lib.hid P; clear P PL PN hc; go_wp2_with fail
        go_roundw
        case rel => exact ⟨k + 1, by omega, by go_num, HP.out⟩
        case measure => simp [intOf]; omega
    · obtain rfl : k = n := by omega
      have hx2 : (str r).extract k (str r).size = str (r.drop k) := by
        rw [extract_str, str_size, List.take_of_length_le (by rw [str_toList]; omega), str_toList]
      clear hR el ec; go_wp2_with fail
      go_end0
      exact ⟨rfl, HR.out.src.set0 _, grownBy_set HR.out.grown _⟩
theorem pass_one (b : Nat) (r : List UInt8) (p : Int × Int) (w : World) (hs : r.length ≤ 65536) (hn : 1 ≤ r.length) (h1 : 1 ≤ p.1) (h1' : p.1 ≤ 65537) (h2 : 1 ≤ p.2) (h2' : p.2 ≤ 65537) (hsrc : Src w b r p.1 p.2) :
    Calls Tryz.prog 81 #[.pointer (some ⟨b, 0, none⟩), .int .i64 1] w fun e w' => e = .returned (.tuple #[]) ∧ Src w' b (r.drop 1) (posL (r.take 1) p).1 (posL (r.take 1) p).2 ∧ w.grownBy w' (some b) :=
  pass_any b r p 1 w hs hn h1 h1' h2 h2' hsrc
def dashB (l : List UInt8) : Bool := [45, 45].isPrefixOf l
theorem dash_any (s : ByteArray) (w : World) :
    Calls Tryz.prog 127 #[.string s, .string ⟨#[45, 45]⟩] w fun e w' => e = .returned (.bool (dashB s.data.toList)) ∧ w = w' := hasPrefix_any s ⟨#[45, 45]⟩ w
/-- the scanner m bytes behind where it was -/
structure Past (w : World) (b : Nat) (r : List UInt8) (p : Int × Int) (m : Nat) (wr : World) : Prop where
  src : Src wr b (r.drop m) (posL (r.take m) p).1 (posL (r.take m) p).2
  grown : w.grownBy wr (some b)
theorem Past.next {w wr wz : World} {b : Nat} {r : List UInt8} {p : Int × Int} {m n : Nat} (h : Past w b r p m wr)
    (hz : Src wz b ((r.drop m).drop n) (posL ((r.drop m).take n) (posL (r.take m) p)).1 (posL ((r.drop m).take n) (posL (r.take m) p)).2 ∧ wr.grownBy wz (some b)) : Past w b r p (m + n) wz where
  src := by
    have h1 := hz.1; rw [List.drop_drop, ← posL_append, ← List.take_add] at h1; exact h1
  grown := grownBy_trans h.grown hz.2
theorem Past.bd {w wr : World} {b : Nat} {r : List UInt8} {p : Int × Int} {m : Nat} (_h : Past w b r p m wr) (h1 : 1 ≤ p.1) (h1' : p.1 + r.length ≤ 65537) (h2 : 1 ≤ p.2) (h2' : p.2 + r.length ≤ 65537) :
    1 ≤ (posL (r.take m) p).1 ∧ (posL (r.take m) p).1 ≤ 65537 ∧ 1 ≤ (posL (r.take m) p).2 ∧ (posL (r.take m) p).2 ≤ 65537 := by
  have := posL_bd (r.take m) p h1 h2; have hl : (r.take m).length ≤ r.length := (by rw [List.length_take]; omega); omega
set_option maxHeartbeats 1000000 in
theorem skipBlanks_any (b : Nat) (r : List UInt8) (p : Int × Int) (w : World) (hs : r.length ≤ 65536) (h1 : 1 ≤ p.1) (h1' : p.1 + r.length ≤ 65537) (h2 : 1 ≤ p.2) (h2' : p.2 + r.length ≤ 65537) (hsrc : Src w b r p.1 p.2) :
    Calls Tryz.prog 79 #[.pointer (some ⟨b, 0, none⟩)] w fun e w' => e = .returned (.tuple #[]) ∧ Past w b r p (gapL r) w' := by
  have HS := Lib.hid hsrc; clear hsrc; go_enter Tryz.func79, Tryz.ntmps79
  go_wp2_with fail
  go_loopg [] r.length (fun g wr => ∃ m : Nat, m + g = r.length ∧ Past w b r p m wr ∧ gapL r = m + gapL (r.drop m))
  case atStart => exact ⟨0, by omega, ⟨HS.out, grownBy_refl _ _⟩, by simp⟩
  case round =>
    obtain ⟨m, hm, hP, hg⟩ := hrel; have HG := Lib.hid hg; have HP := Lib.hid hP; have c0 := hP.src.c0; have c1 := hP.src.c1; have c2 := hP.src.c2; have HB := Lib.hid (hP.bd h1 h1' h2 h2'); clear hg; have hql : (r.drop m).length ≤ 65536 := (by rw [List.length_drop]; omega); have hqm : (r.drop m).length = r.length - m := List.length_drop; have HQM := Lib.hid hqm; clear hqm; by_cases hq : r.drop m = []
    · have h0 : (str (r.drop m)).toList = [] := by rw [Lib.toList_data, str_toList, hq]
      have HQ := Lib.hid hq; clear hq hP; go_wp2_with fail
      go_end0
      have e : gapL r = m := (by rw [HG.out, HQ.out, gapL_nil]; rfl); exact ⟨rfl, by rw [e]; exact HP.out⟩
    · obtain ⟨c, q, hcq⟩ : ∃ c q, r.drop m = c :: q := by
        cases h : r.drop m with
        | nil => exact absurd h hq
        | cons c q => exact ⟨c, q, rfl⟩
      obtain ⟨S, hS⟩ : ∃ S, S = str (r.drop m) := ⟨_, rfl⟩; have hSl : S.data.toList = r.drop m := (by rw [hS, str_toList]); rw [← hS] at c0; have hpos : 0 < S.size := (by rw [hS, str_size, hcq]; simp); have hSs : S.size ≤ 65536 := (by rw [hS, str_size]; exact hql); have hhead : S[0] = c := by
        have := drop_cons S 0 hpos; rw [hSl] at this; simp [hcq] at this; exact this.symm
      have hne : S.toList.isEmpty = false := (by rw [Lib.toList_data, hSl, hcq]; rfl); have hne' : (!S.toList.isEmpty) = true := (by rw [hne]; rfl); have hml : m + 1 ≤ r.length := (by have := HQM.out; rw [hcq, List.length_cons] at this; omega); have hl1 : 1 ≤ (r.drop m).length := (by rw [hcq, List.length_cons]; omega); have HC := Lib.hid hcq; have HSL := Lib.hid hSl; have HH := Lib.hid hhead; have HM := Lib.hid hm; have HL1 := Lib.hid hl1; clear hcq hS hSl hhead hq hP hm hl1; by_cases hsp : spaceB S[0] = true
      · have eg : gapL r = m + 1 + gapL (r.drop (m + 1)) := by
          have e2 : r.drop (m + 1) = q := by
            have : r.drop (m + 1) = (r.drop m).drop 1 := by rw [List.drop_drop]
            rw [this, HC.out]; rfl
          rw [HG.out, HC.out, gapL_space (by rw [← HH.out]; exact hsp), e2]; omega
        have EG := Lib.hid eg; clear eg; go_wp2_with (first | (go_at_call 126; refine (isSpace_any _ _).mono ?_; rintro e w' ⟨rfl, rfl⟩) | (go_at_call 81; refine (pass_one b (r.drop m) (posL (r.take m) p) _ hql HL1.out HB.out.1 HB.out.2.1 HB.out.2.2.1 HB.out.2.2.2 HP.out.src).mono ?_; rintro e w' ⟨rfl, hz⟩))
        go_roundg (gk - 1)
        case measure => have := HM.out; omega
        case rel => exact ⟨m + 1, by have := HM.out; omega, HP.out.next hz, EG.out⟩
      · have hsp' : spaceB S[0] = false := by simpa using hsp
        clear hsp; by_cases hd : dashB S.data.toList = true
        · obtain ⟨n, hn⟩ : ∃ n, n = comL S.data.toList := ⟨_, rfl⟩; have hd2 : [45, 45].isPrefixOf (c :: q) = true := (by rw [← HC.out, ← HSL.out]; exact hd); have hnl : n ≤ (r.drop m).length := (by rw [hn, HSL.out]; exact comL_le _); have hnp : 0 < n := (by rw [hn, HSL.out, HC.out]; exact comL_pos hd2); have eg : gapL r = m + n + gapL (r.drop (m + n)) := by
            have e2 : r.drop (m + n) = (r.drop m).drop n := (by rw [List.drop_drop]); rw [HG.out, e2, HC.out, gapL_note (by rw [← HH.out]; exact hsp') hd2, hn, HSL.out, HC.out]; omega
          have EG := Lib.hid eg; have hcom : ∀ w, Calls Tryz.prog 128 #[.string S] w fun e w' => e = .returned (.int .i64 (n : Int)) ∧ w = w' := fun w => by
            rw [hn]; exact commentLength_any S w
          have HCOM := Lib.hid hcom; have hml2 : m + n ≤ r.length := (by have := HQM.out; omega); clear eg hn hcom hd2; go_wp2_with (first | (go_at_call 126; refine (isSpace_any _ _).mono ?_; rintro e w' ⟨rfl, rfl⟩) | (go_at_call 127; refine (dash_any _ _).mono ?_; rintro e w' ⟨rfl, rfl⟩) | (go_at_call 128; refine (HCOM.out _).mono ?_; rintro e w' ⟨rfl, rfl⟩) | (go_at_call 81; refine (pass_any b (r.drop m) (posL (r.take m) p) n _ hql hnl HB.out.1 HB.out.2.1 HB.out.2.2.1 HB.out.2.2.2 HP.out.src).mono ?_; rintro e w' ⟨rfl, hz⟩))
          go_roundg (gk - n)
          case measure => have := HM.out; omega
          case rel => exact ⟨m + n, by have := HM.out; omega, HP.out.next hz, EG.out⟩
        · have hd' : dashB S.data.toList = false := by simpa using hd
          clear hd; have eg : gapL r = m := by
            rw [HG.out, HC.out, gapL_none (by rw [← HH.out]; exact hsp') (by rw [← HC.out, ← HSL.out]; exact hd')]; rfl
          have EG := Lib.hid eg; clear eg; go_wp2_with (first | (go_at_call 126; refine (isSpace_any _ _).mono ?_; rintro e w' ⟨rfl, rfl⟩) | (go_at_call 127; refine (dash_any _ _).mono ?_; rintro e w' ⟨rfl, rfl⟩))
          refine bodyPost_ret (results_none rfl _ _ _) rfl ?_; exact ⟨rfl, by rw [EG.out]; exact HP.out⟩
end Go.Proofs.YtlhmdjhfmhkllaaGreatDoor
