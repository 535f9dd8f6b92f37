/-
  Contracts of the reference's parts: numbers, gaps, places, signs.
-/
import Derived.Test.YtnoifghbcfoaaaaDoorRef
import Derived.Test.YtnoifghbcfoaaaaDoorNumSpec
import Derived.Test.YtnoifghbcfoaaaaDoorPlaceSpec
import Derived.LoopTactic
import Derived.Deep.LoopGhost
namespace Go.Proofs.YtnoifghbcfoaaaaDoor
open Go.RowKit

def RNum (l : List UInt8) (w : World) (e : Ending) (w' : World) : Prop := ∃ x, e = .returned (.tuple #[.int .i64 x, .bool (litB l)]) ∧ (litB l = true → x = litN l) ∧ w = w'
theorem rnum_no {l : List UInt8} {w : World} {x : Int} (h : litL l = none) : RNum l w (.returned (.tuple #[.int .i64 x, .bool false])) w :=
  ⟨x, by simp [litB, h], by simp [litB, h], rfl⟩
theorem rnum_yes {l : List UInt8} {w : World} {x : Int} (h : litL l = some x) : RNum l w (.returned (.tuple #[.int .i64 x, .bool true])) w :=
  ⟨x, by simp [litB, h], by simp [litN, h], rfl⟩
theorem dig_at {s : ByteArray} (h : AllDig s.data.toList) (k : Nat) (hk : k < s.size) : 48 ≤ (s[k].toNat : Int) ∧ (s[k].toNat : Int) ≤ 57 := by
  have := h s[k] (by
    have h1 := drop_cons s k hk
    have h2 : s[k] ∈ s.data.toList.drop k := by rw [h1]; simp
    exact List.mem_of_mem_drop h2)
  omega
theorem take_next (s : ByteArray) (k : Nat) (hk : k < s.size) : s.data.toList.take (k + 1) = s.data.toList.take k ++ [s[k]] := by
  rw [List.take_add, drop_cons s k hk]; rfl

set_option maxHeartbeats 1000000 in
theorem rnumber_any (s : ByteArray) (w : World) (hs : s.size ≤ 65536) (hd : AllDig s.data.toList) (hne : s.data.toList ≠ []) :
    Calls Tryd.prog 48 #[.string s] w (RNum s.data.toList w) := by
  have hl : s.data.toList.length = s.size := by simp
  have hpos : 0 < s.size := by rw [← hl]; exact List.length_pos_iff.2 hne
  have hh := Lib.hid (head_eq hpos)
  have HL := Lib.hid (litL_dig hne hd)
  have HD := Lib.hid hd
  clear hd hne
  by_cases h19 : 19 < s.size
  · have hno : litL s.data.toList = none := by
      rw [HL.out]
      by_cases h0 : (s.data.toList.head?.getD 0).toNat = 48
      · rw [if_pos ⟨by omega, h0⟩]
      · rw [if_neg (fun h => h0 h.2), if_neg (by have := dig_long HD.out (by omega) h0; omega)]
    have HN := Lib.hid hno
    clear hno
    go_enter Tryd.func48, Tryd.ntmps48
    go_wp2_with fail
    go_ret2
    exact rnum_no HN.out
  · by_cases hz : 1 < s.size ∧ s[0].toNat = 48
    · have hno : litL s.data.toList = none := by
        rw [HL.out, if_pos ⟨by omega, by rw [hh.out]; exact hz.2⟩]
      have HN := Lib.hid hno
      have hz1 := hz.1
      have hz2 : ((s[0].toNat : Int) == 48) = true := by simp; omega
      clear hno hz
      go_enter Tryd.func48, Tryd.ntmps48
      go_wp2_with fail
      go_ret2
      exact rnum_no HN.out
    · have hl2 : litL s.data.toList = if digV 0 s.data.toList < 9223372036854775808 then some (digV 0 s.data.toList : Int) else none := by
        rw [HL.out, if_neg (fun h => hz ⟨by omega, by rw [← hh.out]; exact h.2⟩)]
      have HL2 := Lib.hid hl2
      have hz' : 1 < s.size → ((s[0].toNat : Int) == 48) = false := fun h => by
        have : s[0].toNat ≠ 48 := fun e => hz ⟨h, e⟩
        simp; omega
      clear hl2 hz HL
      by_cases h1 : 1 < s.size
      all_goals go_enter Tryd.func48, Tryd.ntmps48
      all_goals go_wp2_with fail
      all_goals go_loop [4, 5] (fun n i => ∃ k : Nat, k ≤ s.size ∧ i = .int .i64 k ∧ n = .int .u64 (digV 0 (s.data.toList.take k) : Nat)) (fun _ i => s.size - (intOf i).toNat)
      case atStart => exact ⟨0, Nat.zero_le _, rfl, rfl⟩
      case round =>
        obtain ⟨k, hk, rfl, rfl⟩ := hrel
        clear hz'
        by_cases hkn : k < s.size
        · have hdk := dig_at HD.out k hkn
          have hv : digV 0 (s.data.toList.take k) ≤ 999999999999999999 := by
            have h1 := dig_short (l := s.data.toList.take k) (fun c hc => HD.out c (List.mem_of_mem_take hc)) (k := 18) (by rw [List.length_take]; omega)
            have h2 : ten 18 = 1000000000000000000 := by kernel_rfl
            omega
          have hsn : digV 0 (s.data.toList.take (k + 1)) = digV 0 (s.data.toList.take k) * 10 + (s[k].toNat - 48) := by rw [take_next s k hkn, digV_snoc]
          have HSN := Lib.hid hsn
          clear hsn
          generalize digV 0 (s.data.toList.take k) = V at hv HSN
          go_wp2_with fail
          go_round
          case rel => exact ⟨k + 1, by omega, by go_num, by rw [HSN.out]; have := hdk.1; congr 1; omega⟩
          case measure => simp [intOf]; omega
        · obtain rfl : k = s.size := by omega
          have he : s.data.toList.take s.size = s.data.toList := List.take_of_length_le (by omega)
          have hv : digV 0 s.data.toList ≤ 9999999999999999999 := by
            have h1 := dig_short HD.out (k := 19) (by omega)
            have h2 : ten 19 = 10000000000000000000 := by kernel_rfl
            omega
          rw [he]
          have HV := Lib.hid HL2.out
          by_cases hb : digV 0 s.data.toList < 9223372036854775808
          · have HY : litL s.data.toList = some (digV 0 s.data.toList : Int) := by rw [HL2.out, if_pos hb]
            have HY := Lib.hid HY
            clear HV he
            generalize digV 0 s.data.toList = V at hv hb HY
            go_wp2_with fail
            go_ret2

            exact ⟨(V : Int), by simp [litB, HY.out]; try omega, by simp [litN, HY.out], rfl⟩
          · have HY : litL s.data.toList = none := by rw [HL2.out, if_neg hb]
            have HY := Lib.hid HY
            clear HV he
            generalize digV 0 s.data.toList = V at hv hb
            go_wp2_with fail
            go_ret2
            exact ⟨wrap64 (V : Int), by simp [litB, HY.out]; omega, by simp [litB, HY.out], rfl⟩
      case atStart => exact ⟨0, Nat.zero_le _, rfl, rfl⟩
      case round =>
        obtain ⟨k, hk, rfl, rfl⟩ := hrel
        clear hz'
        by_cases hkn : k < s.size
        · have hdk := dig_at HD.out k hkn
          have hv : digV 0 (s.data.toList.take k) ≤ 999999999999999999 := by
            have h1 := dig_short (l := s.data.toList.take k) (fun c hc => HD.out c (List.mem_of_mem_take hc)) (k := 18) (by rw [List.length_take]; omega)
            have h2 : ten 18 = 1000000000000000000 := by kernel_rfl
            omega
          have hsn : digV 0 (s.data.toList.take (k + 1)) = digV 0 (s.data.toList.take k) * 10 + (s[k].toNat - 48) := by rw [take_next s k hkn, digV_snoc]
          have HSN := Lib.hid hsn
          clear hsn
          generalize digV 0 (s.data.toList.take k) = V at hv HSN
          go_wp2_with fail
          go_round
          case rel => exact ⟨k + 1, by omega, by go_num, by rw [HSN.out]; have := hdk.1; congr 1; omega⟩
          case measure => simp [intOf]; omega
        · obtain rfl : k = s.size := by omega
          have he : s.data.toList.take s.size = s.data.toList := List.take_of_length_le (by omega)
          have hv : digV 0 s.data.toList ≤ 9999999999999999999 := by
            have h1 := dig_short HD.out (k := 19) (by omega)
            have h2 : ten 19 = 10000000000000000000 := by kernel_rfl
            omega
          rw [he]
          have HV := Lib.hid HL2.out
          by_cases hb : digV 0 s.data.toList < 9223372036854775808
          · have HY : litL s.data.toList = some (digV 0 s.data.toList : Int) := by rw [HL2.out, if_pos hb]
            have HY := Lib.hid HY
            clear HV he
            generalize digV 0 s.data.toList = V at hv hb HY
            go_wp2_with fail
            go_ret2
            exact ⟨(V : Int), by simp [litB, HY.out]; try omega, by simp [litN, HY.out], rfl⟩
          · have HY : litL s.data.toList = none := by rw [HL2.out, if_neg hb]
            have HY := Lib.hid HY
            clear HV he
            generalize digV 0 s.data.toList = V at hv hb
            go_wp2_with fail
            go_ret2
            exact ⟨wrap64 (V : Int), by simp [litB, HY.out]; omega, by simp [litB, HY.out], rfl⟩

theorem gap_nil {l : List UInt8} {m : Nat} (h : l.length ≤ m) : gapL (l.drop m) = 0 := by rw [List.drop_of_length_le h]; rfl
set_option maxHeartbeats 2000000 in
theorem rgap_any (s : ByteArray) (w : World) (hs : s.size ≤ 65536) :
    Calls Tryd.prog 26 #[.string s] w fun e w' => e = .returned (.int .i64 (gapL s.data.toList : Nat)) ∧ w = w' := by
  have hl : s.data.toList.length = s.size := by simp
  go_enter Tryd.func26, Tryd.ntmps26
  go_wp2_with fail
  go_loopg [3] s.size (fun g v wr => ∃ m : Nat, m + g = s.size ∧ v = .int .i64 m ∧ gapL s.data.toList = m + gapL (s.data.toList.drop m) ∧ wr = w)
  case atStart => exact ⟨0, by omega, rfl, by simp, rfl⟩
  case round =>
    obtain ⟨m, hm, rfl, hg, rfl⟩ := hrel
    have HM := Lib.hid hm
    have HG := Lib.hid hg
    have hml : m ≤ s.size := by omega
    clear hm hg
    by_cases hlt : m < s.size
    · have HC := Lib.hid (drop_cons s m hlt)
      by_cases hsp : spaceB s[m] = true
      · have hd : (s[m].toNat : Int) = 32 ∨ (s[m].toNat : Int) = 9 ∨ (s[m].toNat : Int) = 10 ∨ (s[m].toNat : Int) = 13 := by
          simp only [spaceB, Bool.or_eq_true, decide_eq_true_eq] at hsp; omega
        have hfin : gapL s.data.toList = (m + 1) + gapL (s.data.toList.drop (m + 1)) := by rw [HG.out, HC.out, gapL_space hsp]; omega
        have HF := Lib.hid hfin
        clear hfin hsp
        rcases hd with hd | hd | hd | hd
        · have b32 : ((s[m].toNat : Int) == 32) = true := by rw [hd]; rfl
          clear hd
          go_wp2_with fail
          go_roundg (gk - 1)
          case measure => have := HM.out; omega
          case rel => exact ⟨m + 1, by have := HM.out; omega, by go_num, HF.out, rfl⟩
        · have b32 : ((s[m].toNat : Int) == 32) = false := by rw [hd]; rfl
          have b9 : ((s[m].toNat : Int) == 9) = true := by rw [hd]; rfl
          clear hd
          go_wp2_with fail
          go_roundg (gk - 1)
          case measure => have := HM.out; omega
          case rel => exact ⟨m + 1, by have := HM.out; omega, by go_num, HF.out, rfl⟩
        · have b32 : ((s[m].toNat : Int) == 32) = false := by rw [hd]; rfl
          have b9 : ((s[m].toNat : Int) == 9) = false := by rw [hd]; rfl
          have b10 : ((s[m].toNat : Int) == 10) = true := by rw [hd]; rfl
          clear hd
          go_wp2_with fail
          go_roundg (gk - 1)
          case measure => have := HM.out; omega
          case rel => exact ⟨m + 1, by have := HM.out; omega, by go_num, HF.out, rfl⟩
        · have b32 : ((s[m].toNat : Int) == 32) = false := by rw [hd]; rfl
          have b9 : ((s[m].toNat : Int) == 9) = false := by rw [hd]; rfl
          have b10 : ((s[m].toNat : Int) == 10) = false := by rw [hd]; rfl
          have b13 : ((s[m].toNat : Int) == 13) = true := by rw [hd]; rfl
          clear hd
          go_wp2_with fail
          go_roundg (gk - 1)
          case measure => have := HM.out; omega
          case rel => exact ⟨m + 1, by have := HM.out; omega, by go_num, HF.out, rfl⟩
      · have hsp' : spaceB s[m] = false := by simpa using hsp
        have n32 : ((s[m].toNat : Int) == 32) = false := by simp [spaceB] at hsp'; simp; omega
        have n9 : ((s[m].toNat : Int) == 9) = false := by simp [spaceB] at hsp'; simp; omega
        have n10 : ((s[m].toNat : Int) == 10) = false := by simp [spaceB] at hsp'; simp; omega
        have n13 : ((s[m].toNat : Int) == 13) = false := by simp [spaceB] at hsp'; simp; omega
        have HSP := Lib.hid hsp'
        clear hsp hsp'
        by_cases hd : [45, 45].isPrefixOf (s[m] :: s.data.toList.drop (m + 1)) = true
        · have h1 : m + 1 < s.size ∧ s[m].toNat = 45 ∧ ∀ h : m + 1 < s.size, (s[m + 1]'h).toNat = 45 := by
            by_cases h2 : m + 1 < s.size
            · rw [drop_cons s (m + 1) h2] at hd
              simp [List.isPrefixOf] at hd
              exact ⟨h2, by rw [← hd.1]; rfl, fun _ => by rw [← hd.2]; rfl⟩
            · rw [drop_end s (m + 1) (by omega)] at hd
              simp [List.isPrefixOf] at hd
          obtain ⟨h1, h2, h3⟩ := h1
          have h3 := h3 h1
          have e45 : ((s[m].toNat : Int) == 45) = true := by simp; omega
          have f45 : ((s[m + 1].toNat : Int) == 45) = true := by simp; omega
          have HD := Lib.hid hd
          clear hd h2 h3
          go_wp2_with fail
          go_loopg [3] (s.size - m) (fun g v wz => ∃ n : Nat, n + g = s.size ∧ m ≤ n ∧ v = .int .i64 n ∧ comL (s.data.toList.drop m) = (n - m) + comL (s.data.toList.drop n) ∧ wr = wz)
          case atStart => exact ⟨m, by omega, Nat.le_refl _, rfl, by simp, rfl⟩
          case round =>
            clear n32 n9 n10 n13 e45 f45
            obtain ⟨n, hn, hmn, rfl, hc, rfl⟩ := hrel
            have HN := Lib.hid hn
            have HCO := Lib.hid hc
            have hns : n ≤ s.size := by omega
            clear hn hc
            have fin : comL (s.data.toList.drop n) = 0 → m < n ∧ gapL s.data.toList = n + gapL (s.data.toList.drop n) := fun h0 => by
              have e1 := HCO.out
              rw [h0] at e1
              have e2 := comL_pos (c := s[m]) (r := s.data.toList.drop (m + 1)) HD.out
              rw [← HC.out] at e2
              have e3 := gapL_note (c := s[m]) (r := s.data.toList.drop (m + 1)) HSP.out HD.out
              rw [← HC.out, List.drop_drop] at e3
              rw [HG.out, e3]
              rw [show m + comL (s.data.toList.drop m) = n from by omega]
              omega
            have FIN := Lib.hid fin
            clear fin
            by_cases hlt2 : n < s.size
            · have HCN := Lib.hid (drop_cons s n hlt2)
              by_cases h10 : s[n].toNat = 10
              · have e10 : ((s[n].toNat : Int) == 10) = true := by simp; omega
                have e10' : ((s[n].toNat : Int) != 10) = false := by simp; omega
                have h0 := FIN.out (by rw [HCN.out]; simp [comL, h10])
                have hmn2 := h0.1
                have H0 := Lib.hid h0.2
                clear h0 h10
                go_wp2_with fail
                go_roundg (s.size - n)
                case measure => have := HM.out; omega
                case rel => exact ⟨n, by omega, rfl, H0.out, rfl⟩
              · have e10 : ((s[n].toNat : Int) == 10) = false := by simp; omega
                have e10' : ((s[n].toNat : Int) != 10) = true := by simp; omega
                have hst : comL (s.data.toList.drop m) = (n + 1 - m) + comL (s.data.toList.drop (n + 1)) := by
                  have : comL (s.data.toList.drop n) = comL (s.data.toList.drop (n + 1)) + 1 := by rw [HCN.out]; simp [comL, h10]
                  rw [HCO.out, this]; omega
                have HST := Lib.hid hst
                clear hst h10
                go_wp2_with fail
                go_roundg (s.size - n - 1)
                case measure => have := HN.out; omega
                case rel => exact ⟨n + 1, by omega, by omega, by go_num, HST.out, rfl⟩
            · have h0 := FIN.out (by rw [drop_end s n (by omega)]; rfl)
              have hmn2 := h0.1
              have H0 := Lib.hid h0.2
              clear h0
              go_wp2_with fail
              go_roundg (s.size - n)
              case measure => have := HM.out; omega
              case rel => exact ⟨n, by omega, rfl, H0.out, rfl⟩
        · have hd' : [45, 45].isPrefixOf (s[m] :: s.data.toList.drop (m + 1)) = false := Bool.eq_false_iff.2 hd
          have hz : gapL s.data.toList = m := by rw [HG.out, HC.out, gapL_none HSP.out hd']; rfl
          have HZ := Lib.hid hz
          have h1 : s[m].toNat = 45 → ∀ h : m + 1 < s.size, (s[m + 1]'h).toNat ≠ 45 := fun h1 h2 h3 => by
            apply hd
            rw [drop_cons s (m + 1) h2]
            have e1 : s[m] = 45 := UInt8.toNat_inj.1 h1
            have e2 : s[m + 1] = 45 := UInt8.toNat_inj.1 h3
            simp [List.isPrefixOf, e1, e2]
          clear hz hd hd'
          by_cases e : s[m].toNat = 45
          · have e45 : ((s[m].toNat : Int) == 45) = true := by simp; omega
            by_cases h2 : m + 1 < s.size
            · have h3 := h1 e h2
              have f45 : ((s[m + 1].toNat : Int) == 45) = false := by simp; omega
              clear h1 e h3
              go_wp2_with fail
              go_ret
              exact ⟨by rw [HZ.out]; rfl, rfl⟩
            · clear h1 e
              go_wp2_with fail
              go_ret
              exact ⟨by rw [HZ.out]; rfl, rfl⟩
          · have e45 : ((s[m].toNat : Int) == 45) = false := by simp; omega
            clear h1 e
            go_wp2_with fail
            go_ret
            exact ⟨by rw [HZ.out]; rfl, rfl⟩
    · have hz : gapL s.data.toList = m := by rw [HG.out, gap_nil (by omega)]; rfl
      have HZ := Lib.hid hz
      clear hz
      go_wp2_with fail
      go_ret
      exact ⟨by rw [HZ.out]; rfl, rfl⟩
end Go.Proofs.YtnoifghbcfoaaaaDoor
