/-
  enum, node, Print, Show; written by wip/tools/gen-tree-prog2.py.
-/
import Derived.Test.YtjelhdjckdcbaaaGreatDoorTreeSt
import Derived.Test.YtjelhdjckdcbaaaGreatDoorTreeRight
import Derived.Test.YtjelhdjckdcbaaaGreatDoorTreeRead
namespace Go.Proofs.YtjelhdjckdcbaaaGreatDoor
open Go.RowKit

theorem names_comma {B b : Nat} {ts : List Tx} {v : Value} {l : List Tx} {w : World} (h : TextW B b ts w) (hl : ToksAt B b w v l) (hlen : SizeOk (ts ++ namesT [44] l)) :
    Calls Tryz.prog 66 #[.pointer (some ⟨b, 0, none⟩), v, .string ⟨#[44]⟩] w (PutPost B b (ts ++ namesT [44] l) w) := names_any (s := [44]) w h hl hlen (lit_ok (x := str [44]) (by decide))
theorem names_bar {B b : Nat} {ts : List Tx} {v : Value} {l : List Tx} {w : World} (h : TextW B b ts w) (hl : ToksAt B b w v l) (hlen : SizeOk (ts ++ namesT [124] l)) :
    Calls Tryz.prog 66 #[.pointer (some ⟨b, 0, none⟩), v, .string ⟨#[124]⟩] w (PutPost B b (ts ++ namesT [124] l) w) := names_any (s := [124]) w h hl hlen (lit_ok (x := str [124]) (by decide))
set_option maxHeartbeats 2000000 in
theorem enum_pc {B b : Nat} {w0 : World} (hB : w0.heap.size ≤ B) (htab : Tab w0) {x : QEnum} {L : List Value} (hL : EnumAt w0 L x) : PutC 35 B b w0 (.agg L.toArray) (enumT x) := by
  intro w ts ht hb hn
  have HT := Lib.hid ht
  have HB := Lib.hid hb
  have HBB := Lib.hid hB
  have HTB := Lib.hid htab
  have hsz := hb.size
  have hblt := ht.lt
  have hble := ht.2
  obtain ⟨cv, rfl, hnm, h1⟩ := hL
  have HSA1 := Lib.hid h1
  obtain ⟨A1, k1, e, hc0, hc1, _⟩ := h1
  subst e
  have hlmA1 : x.cons.length ≤ 9223372036854775807 := by unfold maxLen at hc1; omega
  clear hc0 hc1
  have HNM := Lib.hid (show (str x.name).size ≤ maxLen from hnm)
  have e : enumT x = [(⟨#[116, 121, 112, 101]⟩ : ByteArray).data.toList, (str x.name : ByteArray).data.toList, (⟨#[61]⟩ : ByteArray).data.toList] ++ namesT [124] x.cons ++ [(⟨#[59]⟩ : ByteArray).data.toList] := by simp [enumT, str_toList]
  have HQ := Lib.hid e
  rw [e] at hn
  have HN := Lib.hid (show SizeOk (ts ++ [(⟨#[116, 121, 112, 101]⟩ : ByteArray).data.toList, (str x.name : ByteArray).data.toList, (⟨#[61]⟩ : ByteArray).data.toList] ++ namesT [124] x.cons ++ [(⟨#[59]⟩ : ByteArray).data.toList]) by simpa using hn)
  clear e hn ht hb hB htab hnm
  have HT0 := Lib.hid (HT.out.alloc (.cells #[.string (str x.name), .slice A1 x.cons.length k1] 70))
  have HK0 := Lib.hid (TKept.refl B b (w.alloc (.cells #[.string (str x.name), .slice A1 x.cons.length k1] 70)))
  have HBA := Lib.hid (HB.out.alloc hsz (.cells #[.string (str x.name), .slice A1 x.cons.length k1] 70))
  go_enter Tryz.func35, Tryz.ntmps35
  go_wp2_with (first
    | (go_at_call 42
       with_reducible refine (putN3 (⟨#[116, 121, 112, 101]⟩) (str x.name) (⟨#[61]⟩) HT0.out HN.out.left.left (lit_ok (by decide)) HNM.out (lit_ok (by decide)) (by simp)).mono ?_
       rintro e w1 ⟨rfl, ht, hk⟩
       have HT1 := Lib.hid ht
       have HK1 := Lib.hid (HK0.out.trans hk)
       clear ht hk
       have hbx := box_kept HK1.out (heap_alloc_new w _) (by omega) (by decide)
       obtain ⟨d0, d1⟩ := row2 hbx
       clear hbx
       skip)
    | (go_at_call 66
       with_reducible refine (names_bar HT1.out (ToksAt.came (b := b) HSA1.out HBB.out (HBA.out.trans (HK1.out.below.mono HBB.out))) HN.out.left).mono ?_
       rintro e w2 ⟨rfl, ht, hk⟩
       have HT2 := Lib.hid ht
       have HK2 := Lib.hid (HK1.out.trans hk)
       clear ht hk
       have hbx := box_kept HK2.out (heap_alloc_new w _) (by omega) (by decide)
       obtain ⟨d0, d1⟩ := row2 hbx
       clear hbx
       skip)
    | (go_at_call 42
       with_reducible refine (putN1 (⟨#[59]⟩) HT2.out HN.out (lit_ok (by decide)) rfl).mono ?_
       rintro e w3 ⟨rfl, ht, hk⟩
       have HT3 := Lib.hid ht
       have HK3 := Lib.hid (HK2.out.trans hk)
       clear ht hk
       have hbx := box_kept HK3.out (heap_alloc_new w _) (by omega) (by decide)
       obtain ⟨d0, d1⟩ := row2 hbx
       clear hbx
       skip))
  go_end0
  exact ⟨rfl, by rw [HQ.out]; simpa using HT3.out, ((TKept.refl B b w).alloc HT.out.2 _).trans HK3.out⟩
set_option maxHeartbeats 2000000 in
theorem node_pc {B b : Nat} {w0 : World} (hB : w0.heap.size ≤ B) (htab : Tab w0) {nd : QNode} {L : List Value} (hL : NodeAt w0 L nd) : PutC 36 B b w0 (.agg L.toArray) (nodeT nd) := by
  intro w ts ht hb hn
  have HT := Lib.hid ht
  have HB := Lib.hid hb
  have HBB := Lib.hid hB
  have HTB := Lib.hid htab
  have hsz := hb.size
  have hblt := ht.lt
  have hble := ht.2
  obtain ⟨fv, iv, ov, xv, rfl, hnm, h1, h2, h3, h4⟩ := hL
  have HSA1 := Lib.hid h1
  obtain ⟨A1, k1, e, hc0, hc1, _⟩ := h1
  subst e
  have hlmA1 : nd.funs.length ≤ 9223372036854775807 := by unfold maxLen at hc1; omega
  clear hc0 hc1
  have HSA2 := Lib.hid h2
  obtain ⟨A2, k2, e, hc0, hc1, _⟩ := h2
  subst e
  have hlmA2 : nd.ins.length ≤ 9223372036854775807 := by unfold maxLen at hc1; omega
  clear hc0 hc1
  have HSA3 := Lib.hid h3
  obtain ⟨A3, k3, e, hc0, hc1, _⟩ := h3
  subst e
  have hlmA3 : nd.outs.length ≤ 9223372036854775807 := by unfold maxLen at hc1; omega
  clear hc0 hc1
  obtain ⟨A4, k4, e4, hc0, hc1, hea⟩ := h4
  subst e4
  have hlm4 : nd.items.length ≤ 9223372036854775807 := by unfold maxLen at hc1; omega
  have HEA4 := Lib.hid hea
  clear hc0 hc1 hea
  have HNM := Lib.hid (show (str nd.name).size ≤ maxLen from hnm)
  have e : nodeT nd = [(⟨#[110, 111, 100, 101]⟩ : ByteArray).data.toList, (str nd.name : ByteArray).data.toList] ++ staticsT nd.funs ++ [(⟨#[40]⟩ : ByteArray).data.toList] ++ namesT [44] nd.ins ++ [(⟨#[41]⟩ : ByteArray).data.toList, (⟨#[61]⟩ : ByteArray).data.toList, (⟨#[40]⟩ : ByteArray).data.toList] ++ namesT [44] nd.outs ++ [(⟨#[41]⟩ : ByteArray).data.toList, (⟨#[119, 104, 101, 114, 101]⟩ : ByteArray).data.toList] ++ nd.items.flatMap itemT ++ [(⟨#[101, 110, 100]⟩ : ByteArray).data.toList] := by simp [nodeT, str_toList]
  have HQ := Lib.hid e
  rw [e] at hn
  have HN2 := Lib.hid (show SizeOk (ts ++ ([(⟨#[110, 111, 100, 101]⟩ : ByteArray).data.toList, (str nd.name : ByteArray).data.toList] ++ staticsT nd.funs ++ [(⟨#[40]⟩ : ByteArray).data.toList] ++ namesT [44] nd.ins ++ [(⟨#[41]⟩ : ByteArray).data.toList, (⟨#[61]⟩ : ByteArray).data.toList, (⟨#[40]⟩ : ByteArray).data.toList] ++ namesT [44] nd.outs ++ [(⟨#[41]⟩ : ByteArray).data.toList, (⟨#[119, 104, 101, 114, 101]⟩ : ByteArray).data.toList]) ++ nd.items.flatMap itemT ++ [(⟨#[101, 110, 100]⟩ : ByteArray).data.toList]) by simpa using hn)
  have HZ1 := Lib.hid HN2.out.left
  have HN := Lib.hid (show SizeOk (ts ++ [(⟨#[110, 111, 100, 101]⟩ : ByteArray).data.toList, (str nd.name : ByteArray).data.toList] ++ staticsT nd.funs ++ [(⟨#[40]⟩ : ByteArray).data.toList] ++ namesT [44] nd.ins ++ [(⟨#[41]⟩ : ByteArray).data.toList, (⟨#[61]⟩ : ByteArray).data.toList, (⟨#[40]⟩ : ByteArray).data.toList] ++ namesT [44] nd.outs ++ [(⟨#[41]⟩ : ByteArray).data.toList, (⟨#[119, 104, 101, 114, 101]⟩ : ByteArray).data.toList]) by have := HZ1.out.left; simpa using this)
  clear e hn ht hb hB htab hnm
  have HT0 := Lib.hid (HT.out.alloc (.cells #[.string (str nd.name), .slice A1 nd.funs.length k1, .slice A2 nd.ins.length k2, .slice A3 nd.outs.length k3, .slice A4 nd.items.length k4] 47))
  have HK0 := Lib.hid (TKept.refl B b (w.alloc (.cells #[.string (str nd.name), .slice A1 nd.funs.length k1, .slice A2 nd.ins.length k2, .slice A3 nd.outs.length k3, .slice A4 nd.items.length k4] 47)))
  have HBA := Lib.hid (HB.out.alloc hsz (.cells #[.string (str nd.name), .slice A1 nd.funs.length k1, .slice A2 nd.ins.length k2, .slice A3 nd.outs.length k3, .slice A4 nd.items.length k4] 47))
  go_enter Tryz.func36, Tryz.ntmps36
  go_wp2_with (first
    | (go_at_call 42
       with_reducible refine (putN2 (⟨#[110, 111, 100, 101]⟩) (str nd.name) HT0.out HN.out.left.left.left.left.left.left (lit_ok (by decide)) HNM.out (by simp)).mono ?_
       rintro e w1 ⟨rfl, ht, hk⟩
       have HT1 := Lib.hid ht
       have HK1 := Lib.hid (HK0.out.trans hk)
       clear ht hk
       have hbx := box_kept HK1.out (heap_alloc_new w _) (by omega) (by decide)
       obtain ⟨d0, d1, d2, d3, d4⟩ := row5 hbx
       clear hbx
       skip)
    | (go_at_call 67
       refine (statics_any _ HT1.out (ToksAt.came (b := b) HSA1.out HBB.out (HBA.out.trans (HK1.out.below.mono HBB.out))) HN.out.left.left.left.left.left).mono ?_
       rintro e w2 ⟨rfl, ht, hk⟩
       have HT2 := Lib.hid ht
       have HK2 := Lib.hid (HK1.out.trans hk)
       clear ht hk
       have hbx := box_kept HK2.out (heap_alloc_new w _) (by omega) (by decide)
       obtain ⟨d0, d1, d2, d3, d4⟩ := row5 hbx
       clear hbx
       skip)
    | (go_at_call 42
       with_reducible refine (putN1 (⟨#[40]⟩) HT2.out HN.out.left.left.left.left (lit_ok (by decide)) rfl).mono ?_
       rintro e w3 ⟨rfl, ht, hk⟩
       have HT3 := Lib.hid ht
       have HK3 := Lib.hid (HK2.out.trans hk)
       clear ht hk
       have hbx := box_kept HK3.out (heap_alloc_new w _) (by omega) (by decide)
       obtain ⟨d0, d1, d2, d3, d4⟩ := row5 hbx
       clear hbx
       skip)
    | (go_at_call 66
       with_reducible refine (names_comma HT3.out (ToksAt.came (b := b) HSA2.out HBB.out (HBA.out.trans (HK3.out.below.mono HBB.out))) HN.out.left.left.left).mono ?_
       rintro e w4 ⟨rfl, ht, hk⟩
       have HT4 := Lib.hid ht
       have HK4 := Lib.hid (HK3.out.trans hk)
       clear ht hk
       have hbx := box_kept HK4.out (heap_alloc_new w _) (by omega) (by decide)
       obtain ⟨d0, d1, d2, d3, d4⟩ := row5 hbx
       clear hbx
       skip)
    | (go_at_call 42
       with_reducible refine (putN3 (⟨#[41]⟩) (⟨#[61]⟩) (⟨#[40]⟩) HT4.out HN.out.left.left (lit_ok (by decide)) (lit_ok (by decide)) (lit_ok (by decide)) rfl).mono ?_
       rintro e w5 ⟨rfl, ht, hk⟩
       have HT5 := Lib.hid ht
       have HK5 := Lib.hid (HK4.out.trans hk)
       clear ht hk
       have hbx := box_kept HK5.out (heap_alloc_new w _) (by omega) (by decide)
       obtain ⟨d0, d1, d2, d3, d4⟩ := row5 hbx
       clear hbx
       skip)
    | (go_at_call 66
       with_reducible refine (names_comma HT5.out (ToksAt.came (b := b) HSA3.out HBB.out (HBA.out.trans (HK5.out.below.mono HBB.out))) HN.out.left).mono ?_
       rintro e w6 ⟨rfl, ht, hk⟩
       have HT6 := Lib.hid ht
       have HK6 := Lib.hid (HK5.out.trans hk)
       clear ht hk
       have hbx := box_kept HK6.out (heap_alloc_new w _) (by omega) (by decide)
       obtain ⟨d0, d1, d2, d3, d4⟩ := row5 hbx
       clear hbx
       skip)
    | (go_at_call 42
       with_reducible refine (putN2 (⟨#[41]⟩) (⟨#[119, 104, 101, 114, 101]⟩) HT6.out HN.out (lit_ok (by decide)) (lit_ok (by decide)) rfl).mono ?_
       rintro e w7 ⟨rfl, ht, hk⟩
       have HT7 := Lib.hid ht
       have HK7 := Lib.hid (HK6.out.trans hk)
       clear ht hk
       have hbx := box_kept HK7.out (heap_alloc_new w _) (by omega) (by decide)
       obtain ⟨d0, d1, d2, d3, d4⟩ := row5 hbx
       clear hbx
       skip))
  go_loopg [35] nd.items.length (fun g v wr => ∃ k : Nat, k + g = nd.items.length ∧ v = .int .i64 k ∧ TextW B b (ts ++ ([(⟨#[110, 111, 100, 101]⟩ : ByteArray).data.toList, (str nd.name : ByteArray).data.toList] ++ staticsT nd.funs ++ [(⟨#[40]⟩ : ByteArray).data.toList] ++ namesT [44] nd.ins ++ [(⟨#[41]⟩ : ByteArray).data.toList, (⟨#[61]⟩ : ByteArray).data.toList, (⟨#[40]⟩ : ByteArray).data.toList] ++ namesT [44] nd.outs ++ [(⟨#[41]⟩ : ByteArray).data.toList, (⟨#[119, 104, 101, 114, 101]⟩ : ByteArray).data.toList]) ++ (nd.items.take k).flatMap itemT) wr ∧ TKept B b (w.alloc (.cells #[.string (str nd.name), .slice A1 nd.funs.length k1, .slice A2 nd.ins.length k2, .slice A3 nd.outs.length k3, .slice A4 nd.items.length k4] 47)) wr)
  case atStart => exact ⟨0, by omega, rfl, by simpa using HT7.out, HK7.out⟩
  case round =>
    obtain ⟨k, hkg, rfl, hto, hkw⟩ := hrel
    obtain ⟨wq35, rfl⟩ : ∃ W, W = wr := ⟨_, rfl⟩
    have HKG := Lib.hid hkg
    have HW := Lib.hid hkw
    have HTO := Lib.hid hto
    have hkl : k ≤ nd.items.length := by omega
    have hblr := hto.lt
    have HBR := Lib.hid (HBA.out.trans (hkw.below.mono HBB.out))
    have hszr := HBR.out.size
    clear hkg hto hkw
    by_cases hlt : k < nd.items.length
    · obtain ⟨x, hx⟩ : ∃ x, nd.items[k]? = some x := ⟨_, List.getElem?_eq_getElem hlt⟩
      obtain ⟨M, hEM, hRM⟩ := HEA4.out k x hx
      have HI := Lib.hid (item_pc (b := b) HBB.out HTB.out hRM)
      obtain ⟨A0, n0, k0, o1, s2, o3, A4, n4, k4, A5, n5, k5, A6, n6, k6, rfl⟩ := hRM.shape
      obtain ⟨a, rfl, hab, haa, xq0, xq1, xq2, xq3, xq4, xq5, xq6⟩ := elem7 (hEM.under HBR.out)
      have HN1 := Lib.hid (show SizeOk (ts ++ ([(⟨#[110, 111, 100, 101]⟩ : ByteArray).data.toList, (str nd.name : ByteArray).data.toList] ++ staticsT nd.funs ++ [(⟨#[40]⟩ : ByteArray).data.toList] ++ namesT [44] nd.ins ++ [(⟨#[41]⟩ : ByteArray).data.toList, (⟨#[61]⟩ : ByteArray).data.toList, (⟨#[40]⟩ : ByteArray).data.toList] ++ namesT [44] nd.outs ++ [(⟨#[41]⟩ : ByteArray).data.toList, (⟨#[119, 104, 101, 114, 101]⟩ : ByteArray).data.toList]) ++ (nd.items.take k).flatMap itemT ++ itemT x) by have := flat_left HZ1.out (k + 1); rw [flat_succ itemT hx] at this; simpa [] using this)
      have HQ1 := Lib.hid (show ts ++ ([(⟨#[110, 111, 100, 101]⟩ : ByteArray).data.toList, (str nd.name : ByteArray).data.toList] ++ staticsT nd.funs ++ [(⟨#[40]⟩ : ByteArray).data.toList] ++ namesT [44] nd.ins ++ [(⟨#[41]⟩ : ByteArray).data.toList, (⟨#[61]⟩ : ByteArray).data.toList, (⟨#[40]⟩ : ByteArray).data.toList] ++ namesT [44] nd.outs ++ [(⟨#[41]⟩ : ByteArray).data.toList, (⟨#[119, 104, 101, 114, 101]⟩ : ByteArray).data.toList]) ++ (nd.items.take (k + 1)).flatMap itemT = ts ++ ([(⟨#[110, 111, 100, 101]⟩ : ByteArray).data.toList, (str nd.name : ByteArray).data.toList] ++ staticsT nd.funs ++ [(⟨#[40]⟩ : ByteArray).data.toList] ++ namesT [44] nd.ins ++ [(⟨#[41]⟩ : ByteArray).data.toList, (⟨#[61]⟩ : ByteArray).data.toList, (⟨#[40]⟩ : ByteArray).data.toList] ++ namesT [44] nd.outs ++ [(⟨#[41]⟩ : ByteArray).data.toList, (⟨#[119, 104, 101, 114, 101]⟩ : ByteArray).data.toList]) ++ (nd.items.take k).flatMap itemT ++ itemT x by rw [flat_succ itemT hx]; simp [])
      have HTr350 := Lib.hid (HTO.out.alloc (.cells #[.slice A0 n0 k0, .int .i64 o1, .string s2, .int .i64 o3, .slice A4 n4 k4, .slice A5 n5 k5, .slice A6 n6 k6] 44))
      have HKr350 := Lib.hid (TKept.refl B b (wq35.alloc (.cells #[.slice A0 n0 k0, .int .i64 o1, .string s2, .int .i64 o3, .slice A4 n4 k4, .slice A5 n5 k5, .slice A6 n6 k6] 44)))
      have HBAr35 := Lib.hid (HBR.out.alloc hszr (.cells #[.slice A0 n0 k0, .int .i64 o1, .string s2, .int .i64 o3, .slice A4 n4 k4, .slice A5 n5 k5, .slice A6 n6 k6] 44))
      clear hx hEM hRM
      go_wp2_with (first
        | (go_at_call 68
           refine (HI.out _ _ HTr350.out (HBAr35.out.trans (HKr350.out.below.mono HBB.out)) HN1.out).mono ?_
           rintro e wr351 ⟨rfl, ht, hk⟩
           have HTr351 := Lib.hid ht
           have HKr351 := Lib.hid (HKr350.out.trans hk)
           clear ht hk
           have hbx := box_kept HKr351.out (heap_alloc_new wq35 _) (by omega) (by decide)
           obtain ⟨r35d0, r35d1, r35d2, r35d3, r35d4, r35d5, r35d6⟩ := row7 hbx
           clear hbx
           skip))
      go_roundg (nd.items.length - (k + 1))
      case measure => have := HKG.out; omega
      case rel => exact ⟨k + 1, by omega, by go_num, by rw [HQ1.out]; exact HTr351.out, (HW.out.alloc HT0.out.2 _).trans HKr351.out⟩
    · have hke : k = nd.items.length := by omega
      have HT8 := Lib.hid (show TextW B b (ts ++ ([(⟨#[110, 111, 100, 101]⟩ : ByteArray).data.toList, (str nd.name : ByteArray).data.toList] ++ staticsT nd.funs ++ [(⟨#[40]⟩ : ByteArray).data.toList] ++ namesT [44] nd.ins ++ [(⟨#[41]⟩ : ByteArray).data.toList, (⟨#[61]⟩ : ByteArray).data.toList, (⟨#[40]⟩ : ByteArray).data.toList] ++ namesT [44] nd.outs ++ [(⟨#[41]⟩ : ByteArray).data.toList, (⟨#[119, 104, 101, 114, 101]⟩ : ByteArray).data.toList]) ++ nd.items.flatMap itemT) wq35 by have := HTO.out; rwa [hke, List.take_length] at this)
      have HK8 := Lib.hid HW.out
      have HKE := Lib.hid hke
      clear hke HTO HW HKG
      have hbx := box_kept HK8.out (heap_alloc_new w _) (by omega) (by decide)
      obtain ⟨d0, d1, d2, d3, d4⟩ := row5 hbx
      clear hbx
      go_wp2_with (first
        | (go_at_call 42
           with_reducible refine (putN1 (⟨#[101, 110, 100]⟩) HT8.out HN2.out (lit_ok (by decide)) rfl).mono ?_
           rintro e w9 ⟨rfl, ht, hk⟩
           have HT9 := Lib.hid ht
           have HK9 := Lib.hid (HK8.out.trans hk)
           clear ht hk
           have hbx := box_kept HK9.out (heap_alloc_new w _) (by omega) (by decide)
           obtain ⟨d0, d1, d2, d3, d4⟩ := row5 hbx
           clear hbx
           skip))
      go_end0
      exact ⟨rfl, by rw [HQ.out]; simpa using HT9.out, ((TKept.refl B b w).alloc HT.out.2 _).trans HK9.out⟩
/-- what Print answers -/
def PrintPost (p : QProg) (w : World) (e : Ending) (w' : World) : Prop := e = .returned (.tuple #[.string (str (if rightL false p = 0 then spellL (progT p) else [])), .int .i64 (rightL false p)]) ∧ Below w.heap.size w w'
theorem rightL_cases (p : QProg) : rightL false p = 0 ∨ rightL false p = 9 ∨ rightL false p = 10 := by unfold rightL; split <;> (try split) <;> simp
set_option maxHeartbeats 2000000 in
theorem print_any {w0 : World} (htab : Tab w0) {p : QProg} {L : List Value} (hL : ProgAt w0 L p) (hq : ∀ x ∈ p.nodes, (nodeX x).length ≤ 1048576) (hs : SizeOk (progT p)) {w : World} (hb : Below w0.heap.size w0 w) :
    Calls Tryz.prog 17 #[.agg L.toArray] w (PrintPost p w) := by
  have HR := Lib.hid (right_any false hL hq)
  obtain ⟨ev, nv, rfl, h1, h2⟩ := hL
  obtain ⟨A1, k1, e1, hc0, hc1, hea⟩ := h1
  subst e1
  have hlm1 : p.enums.length ≤ 9223372036854775807 := by unfold maxLen at hc1; omega
  have HEA1 := Lib.hid hea
  clear hc0 hc1 hea
  obtain ⟨A2, k2, e2, hc0, hc1, hea⟩ := h2
  subst e2
  have hlm2 : p.nodes.length ≤ 9223372036854775807 := by unfold maxLen at hc1; omega
  have HEA2 := Lib.hid hea
  clear hc0 hc1 hea
  have HB := Lib.hid hb
  have HTB := Lib.hid htab
  have hsz := hb.size
  have RC := Lib.hid (show (∃ g : Int, rightL false p = g ∧ g ≠ 0) ∨ rightL false p = 0 by
    rcases rightL_cases p with h | h | h
    · exact .inr h
    · exact .inl ⟨9, h, by decide⟩
    · exact .inl ⟨10, h, by decide⟩)
  have HSZ := Lib.hid hs
  clear hb htab hq hs
  rcases RC.out with ⟨g, hr, hg⟩ | hr
  · rw [hr] at HR
    have HG := Lib.hid hr
    have hg1 : (g == 0) = false := beq_eq_false_iff_ne.2 hg
    have hg2 : (g != 0) = true := by simp [hg]
    have HGN := Lib.hid hg
    clear hr RC hg
    go_enter Tryz.func17, Tryz.ntmps17
    go_wp2_with (go_at_call 15; refine (HR.out _ (HB.out.alloc (by omega) _)).mono ?_; rintro e w1 ⟨rfl, hb1⟩)
    go_ret2
    exact ⟨by rw [HG.out, if_neg HGN.out]; rfl, ((Below.refl _ _).alloc (Nat.le_refl _) _).trans (hb1.mono (by simp))⟩
  · rw [hr] at HR
    have HG := Lib.hid hr
    clear hr RC
    go_enter Tryz.func17, Tryz.ntmps17
    go_wp2_with (go_at_call 15
                 refine (HR.out _ (HB.out.alloc (by omega) _)).mono ?_
                 rintro e w1 ⟨rfl, hb1⟩
                 have hs1 := hb1.size
                 simp only [World.size_alloc] at hs1
                 have hblt : w.heap.size < w1.heap.size := by omega
                 have HB1 := Lib.hid ((HB.out.alloc (by omega) _).trans (hb1.mono (by simp; omega)))
                 have HC1 := Lib.hid (((Below.refl _ w).alloc (Nat.le_refl _) _).trans (hb1.mono (by simp)))
                 have hpx : w1.heap[w.heap.size]? = some (.cells #[.slice A1 p.enums.length k1, .slice A2 p.nodes.length k2] 33 (0, 0)) := (hb1.block w.heap.size (by simp)).trans (heap_alloc_new w _)
                 have HPX := Lib.hid (show (w1.alloc (.cells #[.pointer none, .slice none 0 0, .bool false] 54)).heap[w.heap.size]? = _ from (Lib.alloc_old w1 _ _ (by omega)).trans hpx)
                 obtain ⟨d0, d1⟩ := row2 hpx
                 clear hb1 hpx)
    have HBB := Lib.hid (show w0.heap.size ≤ w1.heap.size by omega)
    have hsz1 := HB1.out.size
    have HT0 := Lib.hid (show TextW w1.heap.size w1.heap.size [] (w1.alloc (.cells #[.pointer none, .slice none 0 0, .bool false] 54)) from ⟨text_fresh w1, by simp⟩)
    have HK0 := Lib.hid (TKept.refl w1.heap.size w1.heap.size (w1.alloc (.cells #[.pointer none, .slice none 0 0, .bool false] 54)))
    have HBA := Lib.hid (HB1.out.alloc hsz1 (.cells #[.pointer none, .slice none 0 0, .bool false] 54))
    have HZ2 := Lib.hid (show SizeOk (([] : List Tx) ++ p.enums.flatMap enumT ++ p.nodes.flatMap nodeT) by simpa [progT] using HSZ.out)
    have HZ1 := Lib.hid (show SizeOk (([] : List Tx) ++ p.enums.flatMap enumT) from HZ2.out.left)
    go_loopg [18] p.enums.length (fun g v wr => ∃ k : Nat, k + g = p.enums.length ∧ v = .int .i64 k ∧ TextW w1.heap.size w1.heap.size (([] : List Tx) ++ (p.enums.take k).flatMap enumT) wr ∧ TKept w1.heap.size w1.heap.size (w1.alloc (.cells #[.pointer none, .slice none 0 0, .bool false] 54)) wr)
    case atStart => exact ⟨0, by omega, rfl, by simpa using HT0.out, HK0.out⟩
    case round =>
      obtain ⟨k, hkg, rfl, hto, hkw⟩ := hrel
      obtain ⟨wq18, rfl⟩ : ∃ W, W = wr := ⟨_, rfl⟩
      have HKG := Lib.hid hkg
      have HW := Lib.hid hkw
      have HTO := Lib.hid hto
      have hkl : k ≤ p.enums.length := by omega
      have hblr := hto.lt
      have HBR := Lib.hid (HBA.out.trans (hkw.below.mono HBB.out))
      have hszr := HBR.out.size
      clear hkg hto hkw
      by_cases hlt : k < p.enums.length
      · obtain ⟨x, hx⟩ : ∃ x, p.enums[k]? = some x := ⟨_, List.getElem?_eq_getElem hlt⟩
        obtain ⟨M, hEM, hRM⟩ := HEA1.out k x hx
        have HI := Lib.hid (enum_pc (b := w1.heap.size) HBB.out HTB.out hRM)
        obtain ⟨t0, B1, m1, j1, rfl⟩ := hRM.shape
        obtain ⟨a, rfl, hab, haa, xq0, xq1⟩ := elem2 (hEM.under HBR.out)
        have HN1 := Lib.hid (show SizeOk (([] : List Tx) ++ (p.enums.take k).flatMap enumT ++ enumT x) by have := flat_left HZ1.out (k + 1); rw [flat_succ enumT hx] at this; simpa [] using this)
        have HQ1 := Lib.hid (show ([] : List Tx) ++ (p.enums.take (k + 1)).flatMap enumT = ([] : List Tx) ++ (p.enums.take k).flatMap enumT ++ enumT x by rw [flat_succ enumT hx]; simp [])
        have HTr180 := Lib.hid (HTO.out.alloc (.cells #[.string t0, .slice B1 m1 j1] 70))
        have HKr180 := Lib.hid (TKept.refl w1.heap.size w1.heap.size (wq18.alloc (.cells #[.string t0, .slice B1 m1 j1] 70)))
        have HBAr18 := Lib.hid (HBR.out.alloc hszr (.cells #[.string t0, .slice B1 m1 j1] 70))
        clear hx hEM hRM
        go_wp2_with (first
          | (go_at_call 35
             refine (HI.out _ _ HTr180.out (HBAr18.out.trans (HKr180.out.below.mono HBB.out)) HN1.out).mono ?_
             rintro e wr181 ⟨rfl, ht, hk⟩
             have HTr181 := Lib.hid ht
             have HKr181 := Lib.hid (HKr180.out.trans hk)
             clear ht hk
             have hbx := box_kept HKr181.out (heap_alloc_new wq18 _) (by omega) (by decide)
             obtain ⟨r18d0, r18d1⟩ := row2 hbx
             clear hbx
             skip))
        go_roundg (p.enums.length - (k + 1))
        case measure => have := HKG.out; omega
        case rel => exact ⟨k + 1, by omega, by go_num, by rw [HQ1.out]; exact HTr181.out, (HW.out.alloc HT0.out.2 _).trans HKr181.out⟩
      · have hke : k = p.enums.length := by omega
        have HT1 := Lib.hid (show TextW w1.heap.size w1.heap.size (([] : List Tx) ++ p.enums.flatMap enumT) wq18 by have := HTO.out; rwa [hke, List.take_length] at this)
        have HK1 := Lib.hid HW.out
        have HKE := Lib.hid hke
        clear hke HTO HW HKG
        have hbx := (HK1.out.below.block w.heap.size (by omega)).trans HPX.out
        obtain ⟨d0, d1⟩ := row2 hbx
        clear hbx
        go_wp2_with fail
        go_loopg [28] p.nodes.length (fun g v wr => ∃ k : Nat, k + g = p.nodes.length ∧ v = .int .i64 k ∧ TextW w1.heap.size w1.heap.size (([] : List Tx) ++ p.enums.flatMap enumT ++ (p.nodes.take k).flatMap nodeT) wr ∧ TKept w1.heap.size w1.heap.size (w1.alloc (.cells #[.pointer none, .slice none 0 0, .bool false] 54)) wr)
        case atStart => exact ⟨0, by omega, rfl, by simpa using HT1.out, HK1.out⟩
        case round =>
          obtain ⟨k, hkg, rfl, hto, hkw⟩ := hrel
          obtain ⟨wq28, rfl⟩ : ∃ W, W = wr := ⟨_, rfl⟩
          have HKG := Lib.hid hkg
          have HW := Lib.hid hkw
          have HTO := Lib.hid hto
          have hkl : k ≤ p.nodes.length := by omega
          have hblr := hto.lt
          have HBR := Lib.hid (HBA.out.trans (hkw.below.mono HBB.out))
          have hszr := HBR.out.size
          clear hkg hto hkw
          by_cases hlt : k < p.nodes.length
          · obtain ⟨x, hx⟩ : ∃ x, p.nodes[k]? = some x := ⟨_, List.getElem?_eq_getElem hlt⟩
            obtain ⟨M, hEM, hRM⟩ := HEA2.out k x hx
            have HI := Lib.hid (node_pc (b := w1.heap.size) HBB.out HTB.out hRM)
            obtain ⟨t0, B1, m1, j1, B2, m2, j2, B3, m3, j3, B4, m4, j4, rfl⟩ := hRM.shape
            obtain ⟨a, rfl, hab, haa, xq0, xq1, xq2, xq3, xq4⟩ := elem5 (hEM.under HBR.out)
            have HN1 := Lib.hid (show SizeOk (([] : List Tx) ++ p.enums.flatMap enumT ++ (p.nodes.take k).flatMap nodeT ++ nodeT x) by have := flat_left HZ2.out (k + 1); rw [flat_succ nodeT hx] at this; simpa [] using this)
            have HQ1 := Lib.hid (show ([] : List Tx) ++ p.enums.flatMap enumT ++ (p.nodes.take (k + 1)).flatMap nodeT = ([] : List Tx) ++ p.enums.flatMap enumT ++ (p.nodes.take k).flatMap nodeT ++ nodeT x by rw [flat_succ nodeT hx]; simp [])
            have HTr280 := Lib.hid (HTO.out.alloc (.cells #[.string t0, .slice B1 m1 j1, .slice B2 m2 j2, .slice B3 m3 j3, .slice B4 m4 j4] 47))
            have HKr280 := Lib.hid (TKept.refl w1.heap.size w1.heap.size (wq28.alloc (.cells #[.string t0, .slice B1 m1 j1, .slice B2 m2 j2, .slice B3 m3 j3, .slice B4 m4 j4] 47)))
            have HBAr28 := Lib.hid (HBR.out.alloc hszr (.cells #[.string t0, .slice B1 m1 j1, .slice B2 m2 j2, .slice B3 m3 j3, .slice B4 m4 j4] 47))
            clear hx hEM hRM
            go_wp2_with (first
              | (go_at_call 36
                 refine (HI.out _ _ HTr280.out (HBAr28.out.trans (HKr280.out.below.mono HBB.out)) HN1.out).mono ?_
                 rintro e wr281 ⟨rfl, ht, hk⟩
                 have HTr281 := Lib.hid ht
                 have HKr281 := Lib.hid (HKr280.out.trans hk)
                 clear ht hk
                 have hbx := box_kept HKr281.out (heap_alloc_new wq28 _) (by omega) (by decide)
                 obtain ⟨r28d0, r28d1, r28d2, r28d3, r28d4⟩ := row5 hbx
                 clear hbx
                 skip))
            go_roundg (p.nodes.length - (k + 1))
            case measure => have := HKG.out; omega
            case rel => exact ⟨k + 1, by omega, by go_num, by rw [HQ1.out]; exact HTr281.out, (HW.out.alloc HT0.out.2 _).trans HKr281.out⟩
          · have hke : k = p.nodes.length := by omega
            have HT2 := Lib.hid (show TextW w1.heap.size w1.heap.size (([] : List Tx) ++ p.enums.flatMap enumT ++ p.nodes.flatMap nodeT) wq28 by have := HTO.out; rwa [hke, List.take_length] at this)
            have HK2 := Lib.hid HW.out
            have HKE := Lib.hid hke
            clear hke HTO HW HKG
            have hbx := (HK2.out.below.block w.heap.size (by omega)).trans HPX.out
            obtain ⟨d0, d1⟩ := row2 hbx
            clear hbx
            go_wp2_with (go_at_call 22; refine (tRead_any _ _ _ _ _ HT2.out.1 HT2.out.2).mono ?_; rintro e w9 ⟨rfl, hb9⟩)
            go_ret2
            exact ⟨by rw [HG.out, if_pos rfl, ← putL_false]; simp [progT], HC1.out.trans ((((Below.refl _ w1).alloc (Nat.le_refl _) _).trans (HK2.out.below.trans hb9)).mono (by omega))⟩
def ShowPost (x : Ex) (w : World) (e : Ending) (w' : World) : Prop := e = .returned (.string (str (spellL (toksX x)))) ∧ Below w.heap.size w w'
set_option maxHeartbeats 1000000 in
set_option maxRecDepth 100000 in
theorem show_any {w0 : World} (htab : Tab w0) {x : Ex} {L : List Value} (hL : ExAt w0 L x) (hs : SizeOk (toksX x)) {w : World} (hb : Below w0.heap.size w0 w) :
    Calls Tryz.prog 11 #[.agg L.toArray] w (ShowPost x w) := by
  have hsz := hb.size
  have HI := Lib.hid (exprT_any (B := w.heap.size + 1) (b := w.heap.size + 1) (by omega) htab hL)
  have HS := Lib.hid hs
  obtain ⟨o1, s1, n1, A1, m1, k1, A2, m2, k2, rfl⟩ := hL.shape
  have ht0 := text_fresh (w.alloc (.cells #[.int .i64 o1, .string s1, .int .i64 n1, .slice A1 m1 k1, .slice A2 m2 k2] 25))
  rw [World.size_alloc] at ht0
  have HT0 := Lib.hid (show TextW (w.heap.size + 1) (w.heap.size + 1) [] _ from ⟨ht0, by simp⟩)
  have HB := Lib.hid (hb.alloc hsz (.cells #[.int .i64 o1, .string s1, .int .i64 n1, .slice A1 m1 k1, .slice A2 m2 k2] 25))
  clear ht0
  clear hb hs htab hL
  go_enter Tryz.func11, Tryz.ntmps11
  go_wp2_with (first
    | (go_at_call 21
       refine (HI.out _ [] HT0.out (HB.out.alloc (by simp; omega) _) HS.out).mono ?_
       rintro e w1 ⟨rfl, ht1, hk1⟩)
    | (go_at_call 22
       refine (tRead_any _ _ _ _ _ ht1.1 ht1.2).mono ?_
       rintro e w2 ⟨rfl, hb2⟩))
  go_ret
  exact ⟨by rw [← putL_false]; rfl, ((((Below.refl _ w).alloc (Nat.le_refl _) _).alloc (by simp) _).trans ((hk1.below.trans hb2).mono (by simp)))⟩
end Go.Proofs.YtjelhdjckdcbaaaGreatDoor
