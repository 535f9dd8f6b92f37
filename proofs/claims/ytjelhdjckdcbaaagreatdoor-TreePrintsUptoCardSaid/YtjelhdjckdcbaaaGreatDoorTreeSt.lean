/-
  state, item; written by wip/tools/gen-tree-prog2.py.
-/
import Derived.Test.YtjelhdjckdcbaaaGreatDoorTreeEqn
namespace Go.Proofs.YtjelhdjckdcbaaaGreatDoor
open Go.RowKit

def PutC (f : FuncId) (B b : Nat) (w0 : World) (a : Value) (T : List Tx) : Prop := ∀ (w : World) (ts : List Tx), TextW B b ts w → Below w0.heap.size w0 w → SizeOk (ts ++ T) →
  Calls Tryz.prog f #[.pointer (some ⟨b, 0, none⟩), a] w (PutPost B b (ts ++ T) w)
theorem equation_pc {B b : Nat} {w0 : World} (hB : w0.heap.size ≤ B) (htab : Tab w0) {q : QEq} {L : List Value} (hL : EqAt w0 L q) : PutC 93 B b w0 (.agg L.toArray) (eqT q) :=
  fun _ _ ht hb hn => equationT_any hB htab hL ht hb hn
theorem expr_pc {B b : Nat} {w0 : World} (hB : w0.heap.size ≤ B) (htab : Tab w0) {x : Ex} {L : List Value} (hL : ExAt w0 L x) : PutC 21 B b w0 (.agg L.toArray) (toksX x) :=
  fun w ts ht hb hn => exprT_any hB htab hL w ts ht hb hn
theorem flat_succ {X : Type} (f : X → List Tx) {l : List X} {k : Nat} {x : X} (h : l[k]? = some x) : (l.take (k + 1)).flatMap f = (l.take k).flatMap f ++ f x := by
  rw [take_snoc h]; simp
theorem flat_left {X : Type} {f : X → List Tx} {a : List Tx} {l : List X} (h : SizeOk (a ++ l.flatMap f)) (k : Nat) : SizeOk (a ++ (l.take k).flatMap f) := by
  have e : l.flatMap f = (l.take k).flatMap f ++ (l.drop k).flatMap f := by rw [← List.flatMap_append, List.take_append_drop]
  rw [e, ← List.append_assoc] at h
  exact h.left
theorem WayAt.parts {w : World} {L : List Value} {y : QWay} (h : WayAt w L y) : ∃ c0 c1 c2 c3 c4, L = [c0, c1, c2, c3, c4, .string (str y.to)] ∧ ExAt w [c0, c1, c2, c3, c4] y.cond ∧ y.to.length ≤ maxLen := by
  obtain ⟨L', rfl, h1, h2⟩ := h
  obtain ⟨c0, c1, c2, c3, c4, rfl⟩ := h1.five
  exact ⟨c0, c1, c2, c3, c4, rfl, h1, h2⟩
set_option maxHeartbeats 2000000 in
theorem state_pc {B b : Nat} {w0 : World} (hB : w0.heap.size ≤ B) (htab : Tab w0) {s : QState} {L : List Value} (hL : StateAt w0 L s) : PutC 94 B b w0 (.agg L.toArray) (stateT s) := by
  intro w ts ht hb hn
  have HT := Lib.hid ht
  have HB := Lib.hid hb
  have HBB := Lib.hid hB
  have HTB := Lib.hid htab
  have hsz := hb.size
  have hblt := ht.lt
  have hble := ht.2
  obtain ⟨ev, wv, rfl, hnm, h1, h2⟩ := hL
  obtain ⟨A1, k1, e1, hc0, hc1, hea⟩ := h1
  subst e1
  have hlm1 : s.eqs.length ≤ 9223372036854775807 := by unfold maxLen at hc1; omega
  have HEA1 := Lib.hid hea
  clear hc0 hc1 hea
  obtain ⟨A2, k2, e2, hc0, hc1, hea⟩ := h2
  subst e2
  have hlm2 : s.ways.length ≤ 9223372036854775807 := by unfold maxLen at hc1; omega
  have HEA2 := Lib.hid hea
  clear hc0 hc1 hea
  have HNM := Lib.hid (show (str s.name).size ≤ maxLen from hnm)
  have e : stateT s = [(⟨#[115, 116, 97, 116, 101]⟩ : ByteArray).data.toList, (str s.name : ByteArray).data.toList, (⟨#[58]⟩ : ByteArray).data.toList] ++ s.eqs.flatMap eqT ++ s.ways.flatMap wayT := by simp [stateT, str_toList]
  have HQ := Lib.hid e
  rw [e] at hn
  have HZ2 := Lib.hid (show SizeOk (ts ++ [(⟨#[115, 116, 97, 116, 101]⟩ : ByteArray).data.toList, (str s.name : ByteArray).data.toList, (⟨#[58]⟩ : ByteArray).data.toList] ++ s.eqs.flatMap eqT ++ s.ways.flatMap wayT) by simpa using hn)
  have HZ1 := Lib.hid (show SizeOk (ts ++ [(⟨#[115, 116, 97, 116, 101]⟩ : ByteArray).data.toList, (str s.name : ByteArray).data.toList, (⟨#[58]⟩ : ByteArray).data.toList] ++ s.eqs.flatMap eqT) by have := HZ2.out.left; simpa using this)
  have HN := Lib.hid HZ1.out.left
  clear e hn ht hb hB htab hnm
  have HT0 := Lib.hid (HT.out.alloc (.cells #[.string (str s.name), .slice A1 s.eqs.length k1, .slice A2 s.ways.length k2] 94))
  have HK0 := Lib.hid (TKept.refl B b (w.alloc (.cells #[.string (str s.name), .slice A1 s.eqs.length k1, .slice A2 s.ways.length k2] 94)))
  have HBA := Lib.hid (HB.out.alloc hsz (.cells #[.string (str s.name), .slice A1 s.eqs.length k1, .slice A2 s.ways.length k2] 94))
  go_enter Tryz.func94, Tryz.ntmps94
  go_wp2_with (first
    | (go_at_call 42
       with_reducible refine (putN3 (⟨#[115, 116, 97, 116, 101]⟩) (str s.name) (⟨#[58]⟩) HT0.out HN.out (lit_ok (by decide)) HNM.out (lit_ok (by decide)) (by simp)).mono ?_
       rintro e w1 ⟨rfl, ht, hk⟩
       have HT1 := Lib.hid ht
       have HK1 := Lib.hid (HK0.out.trans hk)
       clear ht hk
       have hbx := box_kept HK1.out (heap_alloc_new w _) (by omega) (by decide)
       obtain ⟨d0, d1, d2⟩ := row3 hbx
       clear hbx
       skip))
  go_loopg [16] s.eqs.length (fun g v wr => ∃ k : Nat, k + g = s.eqs.length ∧ v = .int .i64 k ∧ TextW B b (ts ++ [(⟨#[115, 116, 97, 116, 101]⟩ : ByteArray).data.toList, (str s.name : ByteArray).data.toList, (⟨#[58]⟩ : ByteArray).data.toList] ++ (s.eqs.take k).flatMap eqT) wr ∧ TKept B b (w.alloc (.cells #[.string (str s.name), .slice A1 s.eqs.length k1, .slice A2 s.ways.length k2] 94)) wr)
  case atStart => exact ⟨0, by omega, rfl, by simpa using HT1.out, HK1.out⟩
  case round =>
    obtain ⟨k, hkg, rfl, hto, hkw⟩ := hrel
    obtain ⟨wq16, rfl⟩ : ∃ W, W = wr := ⟨_, rfl⟩
    have HKG := Lib.hid hkg
    have HW := Lib.hid hkw
    have HTO := Lib.hid hto
    have hkl : k ≤ s.eqs.length := by omega
    have hblr := hto.lt
    have HBR := Lib.hid (HBA.out.trans (hkw.below.mono HBB.out))
    have hszr := HBR.out.size
    clear hkg hto hkw
    by_cases hlt : k < s.eqs.length
    · obtain ⟨x, hx⟩ : ∃ x, s.eqs[k]? = some x := ⟨_, List.getElem?_eq_getElem hlt⟩
      obtain ⟨M, hEM, hRM⟩ := HEA1.out k x hx
      have HI := Lib.hid (equation_pc (b := b) HBB.out HTB.out hRM)
      obtain ⟨A0, n0, k0, o1, s2, o3, A4, n4, k4, A5, n5, k5, rfl⟩ := hRM.shape
      obtain ⟨a, rfl, hab, haa, xq0, xq1, xq2, xq3, xq4, xq5⟩ := elem6 (hEM.under HBR.out)
      have HN1 := Lib.hid (show SizeOk (ts ++ [(⟨#[115, 116, 97, 116, 101]⟩ : ByteArray).data.toList, (str s.name : ByteArray).data.toList, (⟨#[58]⟩ : ByteArray).data.toList] ++ (s.eqs.take k).flatMap eqT ++ eqT x) by have := flat_left HZ1.out (k + 1); rw [flat_succ eqT hx] at this; simpa [] using this)
      have HQ1 := Lib.hid (show ts ++ [(⟨#[115, 116, 97, 116, 101]⟩ : ByteArray).data.toList, (str s.name : ByteArray).data.toList, (⟨#[58]⟩ : ByteArray).data.toList] ++ (s.eqs.take (k + 1)).flatMap eqT = ts ++ [(⟨#[115, 116, 97, 116, 101]⟩ : ByteArray).data.toList, (str s.name : ByteArray).data.toList, (⟨#[58]⟩ : ByteArray).data.toList] ++ (s.eqs.take k).flatMap eqT ++ eqT x by rw [flat_succ eqT hx]; simp [])
      have HTr160 := Lib.hid (HTO.out.alloc (.cells #[.slice A0 n0 k0, .int .i64 o1, .string s2, .int .i64 o3, .slice A4 n4 k4, .slice A5 n5 k5] 41))
      have HKr160 := Lib.hid (TKept.refl B b (wq16.alloc (.cells #[.slice A0 n0 k0, .int .i64 o1, .string s2, .int .i64 o3, .slice A4 n4 k4, .slice A5 n5 k5] 41)))
      have HBAr16 := Lib.hid (HBR.out.alloc hszr (.cells #[.slice A0 n0 k0, .int .i64 o1, .string s2, .int .i64 o3, .slice A4 n4 k4, .slice A5 n5 k5] 41))
      clear hx hEM hRM
      go_wp2_with (first
        | (go_at_call 93
           refine (HI.out _ _ HTr160.out (HBAr16.out.trans (HKr160.out.below.mono HBB.out)) HN1.out).mono ?_
           rintro e wr161 ⟨rfl, ht, hk⟩
           have HTr161 := Lib.hid ht
           have HKr161 := Lib.hid (HKr160.out.trans hk)
           clear ht hk
           have hbx := box_kept HKr161.out (heap_alloc_new wq16 _) (by omega) (by decide)
           obtain ⟨r16d0, r16d1, r16d2, r16d3, r16d4, r16d5⟩ := row6 hbx
           clear hbx
           skip))
      go_roundg (s.eqs.length - (k + 1))
      case measure => have := HKG.out; omega
      case rel => exact ⟨k + 1, by omega, by go_num, by rw [HQ1.out]; exact HTr161.out, (HW.out.alloc HT0.out.2 _).trans HKr161.out⟩
    · have hke : k = s.eqs.length := by omega
      have HT2 := Lib.hid (show TextW B b (ts ++ [(⟨#[115, 116, 97, 116, 101]⟩ : ByteArray).data.toList, (str s.name : ByteArray).data.toList, (⟨#[58]⟩ : ByteArray).data.toList] ++ s.eqs.flatMap eqT) wq16 by have := HTO.out; rwa [hke, List.take_length] at this)
      have HK2 := Lib.hid HW.out
      have HKE := Lib.hid hke
      clear hke HTO HW HKG
      have hbx := box_kept HK2.out (heap_alloc_new w _) (by omega) (by decide)
      obtain ⟨d0, d1, d2⟩ := row3 hbx
      clear hbx
      go_wp2_with fail
      go_loopg [27] s.ways.length (fun g v wr => ∃ k : Nat, k + g = s.ways.length ∧ v = .int .i64 k ∧ TextW B b (ts ++ [(⟨#[115, 116, 97, 116, 101]⟩ : ByteArray).data.toList, (str s.name : ByteArray).data.toList, (⟨#[58]⟩ : ByteArray).data.toList] ++ s.eqs.flatMap eqT ++ (s.ways.take k).flatMap wayT) wr ∧ TKept B b (w.alloc (.cells #[.string (str s.name), .slice A1 s.eqs.length k1, .slice A2 s.ways.length k2] 94)) wr)
      case atStart => exact ⟨0, by omega, rfl, by simpa using HT2.out, HK2.out⟩
      case round =>
        obtain ⟨k, hkg, rfl, hto, hkw⟩ := hrel
        obtain ⟨wq27, rfl⟩ : ∃ W, W = wr := ⟨_, rfl⟩
        have HKG := Lib.hid hkg
        have HW := Lib.hid hkw
        have HTO := Lib.hid hto
        have hkl : k ≤ s.ways.length := by omega
        have hblr := hto.lt
        have HBR := Lib.hid (HBA.out.trans (hkw.below.mono HBB.out))
        have hszr := HBR.out.size
        clear hkg hto hkw
        by_cases hlt : k < s.ways.length
        · obtain ⟨x, hx⟩ : ∃ x, s.ways[k]? = some x := ⟨_, List.getElem?_eq_getElem hlt⟩
          obtain ⟨M, hEM, hRM⟩ := HEA2.out k x hx
          obtain ⟨c0, c1, c2, c3, c4, rfl, hE, hto⟩ := hRM.parts
          have HI := Lib.hid (expr_pc (b := b) HBB.out HTB.out hE)
          have HTOO := Lib.hid (show (str x.to).size ≤ maxLen from hto)
          obtain ⟨o1, s1, m1, B3, q3, r3, B4, q4, r4, e⟩ := hE.shape
          injection e with e0 e
          injection e with e1 e
          injection e with e2 e
          injection e with e3 e
          injection e with e4 _
          subst e0 e1 e2 e3 e4
          clear hE hto
          obtain ⟨a, rfl, hab, haa, xq0, xq1, xq2, xq3, xq4, xq5⟩ := elem6 (hEM.under HBR.out)
          have HN1 := Lib.hid (show SizeOk (ts ++ [(⟨#[115, 116, 97, 116, 101]⟩ : ByteArray).data.toList, (str s.name : ByteArray).data.toList, (⟨#[58]⟩ : ByteArray).data.toList] ++ s.eqs.flatMap eqT ++ (s.ways.take k).flatMap wayT ++ [(⟨#[117, 110, 116, 105, 108]⟩ : ByteArray).data.toList] ++ toksX x.cond ++ [(⟨#[116, 104, 101, 110]⟩ : ByteArray).data.toList, (str x.to : ByteArray).data.toList, (⟨#[59]⟩ : ByteArray).data.toList]) by have := flat_left HZ2.out (k + 1); rw [flat_succ wayT hx] at this; simpa [wayT, str_toList] using this)
          have HQ1 := Lib.hid (show ts ++ [(⟨#[115, 116, 97, 116, 101]⟩ : ByteArray).data.toList, (str s.name : ByteArray).data.toList, (⟨#[58]⟩ : ByteArray).data.toList] ++ s.eqs.flatMap eqT ++ (s.ways.take (k + 1)).flatMap wayT = ts ++ [(⟨#[115, 116, 97, 116, 101]⟩ : ByteArray).data.toList, (str s.name : ByteArray).data.toList, (⟨#[58]⟩ : ByteArray).data.toList] ++ s.eqs.flatMap eqT ++ (s.ways.take k).flatMap wayT ++ [(⟨#[117, 110, 116, 105, 108]⟩ : ByteArray).data.toList] ++ toksX x.cond ++ [(⟨#[116, 104, 101, 110]⟩ : ByteArray).data.toList, (str x.to : ByteArray).data.toList, (⟨#[59]⟩ : ByteArray).data.toList] by rw [flat_succ wayT hx]; simp [wayT, str_toList])
          have HTr270 := Lib.hid (HTO.out.alloc (.cells #[.int .i64 o1, .string s1, .int .i64 m1, .slice B3 q3 r3, .slice B4 q4 r4, .string (str x.to)] 96))
          have HKr270 := Lib.hid (TKept.refl B b (wq27.alloc (.cells #[.int .i64 o1, .string s1, .int .i64 m1, .slice B3 q3 r3, .slice B4 q4 r4, .string (str x.to)] 96)))
          have HBAr27 := Lib.hid (HBR.out.alloc hszr (.cells #[.int .i64 o1, .string s1, .int .i64 m1, .slice B3 q3 r3, .slice B4 q4 r4, .string (str x.to)] 96))
          clear hx hEM hRM
          go_wp2_with (first
            | (go_at_call 42
               with_reducible refine (putN1 (⟨#[117, 110, 116, 105, 108]⟩) HTr270.out HN1.out.left.left (lit_ok (by decide)) (by simp)).mono ?_
               rintro e wr271 ⟨rfl, ht, hk⟩
               have HTr271 := Lib.hid ht
               have HKr271 := Lib.hid (HKr270.out.trans hk)
               clear ht hk
               have hbx := box_kept HKr271.out (heap_alloc_new wq27 _) (by omega) (by decide)
               obtain ⟨r27d0, r27d1, r27d2, r27d3, r27d4, r27d5⟩ := row6 hbx
               clear hbx
               skip)
            | (go_at_call 21
               refine (HI.out _ _ HTr271.out (HBAr27.out.trans (HKr271.out.below.mono HBB.out)) HN1.out.left).mono ?_
               rintro e wr272 ⟨rfl, ht, hk⟩
               have HTr272 := Lib.hid ht
               have HKr272 := Lib.hid (HKr271.out.trans hk)
               clear ht hk
               have hbx := box_kept HKr272.out (heap_alloc_new wq27 _) (by omega) (by decide)
               obtain ⟨r27d0, r27d1, r27d2, r27d3, r27d4, r27d5⟩ := row6 hbx
               clear hbx
               skip)
            | (go_at_call 42
               with_reducible refine (putN3 (⟨#[116, 104, 101, 110]⟩) (str x.to) (⟨#[59]⟩) HTr272.out HN1.out (lit_ok (by decide)) HTOO.out (lit_ok (by decide)) rfl).mono ?_
               rintro e wr273 ⟨rfl, ht, hk⟩
               have HTr273 := Lib.hid ht
               have HKr273 := Lib.hid (HKr272.out.trans hk)
               clear ht hk
               have hbx := box_kept HKr273.out (heap_alloc_new wq27 _) (by omega) (by decide)
               obtain ⟨r27d0, r27d1, r27d2, r27d3, r27d4, r27d5⟩ := row6 hbx
               clear hbx
               skip))
          go_roundg (s.ways.length - (k + 1))
          case measure => have := HKG.out; omega
          case rel => exact ⟨k + 1, by omega, by go_num, by rw [HQ1.out]; exact HTr273.out, (HW.out.alloc HT0.out.2 _).trans HKr273.out⟩
        · have hke : k = s.ways.length := by omega
          have HT3 := Lib.hid (show TextW B b (ts ++ [(⟨#[115, 116, 97, 116, 101]⟩ : ByteArray).data.toList, (str s.name : ByteArray).data.toList, (⟨#[58]⟩ : ByteArray).data.toList] ++ s.eqs.flatMap eqT ++ s.ways.flatMap wayT) wq27 by have := HTO.out; rwa [hke, List.take_length] at this)
          have HK3 := Lib.hid HW.out
          have HKE := Lib.hid hke
          clear hke HTO HW HKG
          have hbx := box_kept HK3.out (heap_alloc_new w _) (by omega) (by decide)
          obtain ⟨d0, d1, d2⟩ := row3 hbx
          clear hbx
          go_wp2_with fail
          go_end0
          exact ⟨rfl, by rw [HQ.out]; simpa using HT3.out, ((TKept.refl B b w).alloc HT.out.2 _).trans HK3.out⟩
set_option maxHeartbeats 2000000 in
theorem item_pc {B b : Nat} {w0 : World} (hB : w0.heap.size ≤ B) (htab : Tab w0) {i : QItem} {L : List Value} (hL : ItemAt w0 L i) : PutC 68 B b w0 (.agg L.toArray) (itemT i) := by
  intro w ts ht hb hn
  have HT := Lib.hid ht
  have HB := Lib.hid hb
  have HBB := Lib.hid hB
  have HTB := Lib.hid htab
  have hsz := hb.size
  have hblt := ht.lt
  have hble := ht.2
  obtain ⟨L', sv, rfl, hE, h2⟩ := hL
  have HE := Lib.hid (equation_pc (b := b) hB htab hE)
  obtain ⟨A0, n0, k0, o1, s2, o3, A4, n4, k4, A5, n5, k5, rfl⟩ := hE.shape
  obtain ⟨A6, k6, e6, hc0, hc1, hea⟩ := h2
  subst e6
  have hlm6 : i.states.length ≤ 9223372036854775807 := by unfold maxLen at hc1; omega
  have HEA6 := Lib.hid hea
  clear hc0 hc1 hea
  have HT0 := Lib.hid (HT.out.alloc (.cells #[.slice A0 n0 k0, .int .i64 o1, .string s2, .int .i64 o3, .slice A4 n4 k4, .slice A5 n5 k5, .slice A6 i.states.length k6] 44))
  have HK0 := Lib.hid (TKept.refl B b (w.alloc (.cells #[.slice A0 n0 k0, .int .i64 o1, .string s2, .int .i64 o3, .slice A4 n4 k4, .slice A5 n5 k5, .slice A6 i.states.length k6] 44)))
  have HBA := Lib.hid (HB.out.alloc hsz (.cells #[.slice A0 n0 k0, .int .i64 o1, .string s2, .int .i64 o3, .slice A4 n4 k4, .slice A5 n5 k5, .slice A6 i.states.length k6] 44))
  by_cases h0 : i.states = []
  · have e : itemT i = eqT i.eq := by simp [itemT, h0]
    have HQ := Lib.hid e
    rw [e] at hn
    have HN := Lib.hid hn
    rw [h0] at HT0 HK0 HBA ⊢
    clear e hn ht hb hB htab hE hlm6 h0
    change Calls _ _ #[_, .agg #[.slice A0 n0 k0, .int .i64 o1, .string s2, .int .i64 o3, .slice A4 n4 k4, .slice A5 n5 k5, .slice A6 0 k6]] _ _
    go_enter Tryz.func68, Tryz.ntmps68
    go_wp2_with (first
      | (go_at_call 93
         refine (HE.out _ _ HT0.out (HBA.out.trans (HK0.out.below.mono HBB.out)) HN.out).mono ?_
         rintro e w1 ⟨rfl, ht, hk⟩
         have HT1 := Lib.hid ht
         have HK1 := Lib.hid (HK0.out.trans hk)
         clear ht hk
         have hbx := box_kept HK1.out (heap_alloc_new w _) (by omega) (by decide)
         obtain ⟨d0, d1, d2, d3, d4, d5, d6⟩ := row7 hbx
         clear hbx
         skip))
    all_goals go_end0
    all_goals exact ⟨rfl, by rw [HQ.out]; simpa using HT1.out, ((TKept.refl B b w).alloc HT.out.2 _).trans HK1.out⟩
  · have e : itemT i = [(⟨#[97, 117, 116, 111, 109, 97, 116, 111, 110]⟩ : ByteArray).data.toList] ++ i.states.flatMap stateT ++ [(⟨#[101, 110, 100]⟩ : ByteArray).data.toList, (⟨#[59]⟩ : ByteArray).data.toList] := by simp [itemT, h0]
    have HQ := Lib.hid e
    rw [e] at hn
    have HN2 := Lib.hid (show SizeOk (ts ++ [(⟨#[97, 117, 116, 111, 109, 97, 116, 111, 110]⟩ : ByteArray).data.toList] ++ i.states.flatMap stateT ++ [(⟨#[101, 110, 100]⟩ : ByteArray).data.toList, (⟨#[59]⟩ : ByteArray).data.toList]) by simpa using hn)
    have HZ1 := Lib.hid HN2.out.left
    have HN := Lib.hid HZ1.out.left
    have hne : ((i.states.length : Int) == 0) = false := by rw [beq_eq_false_iff_ne]; have := List.length_pos_iff.2 h0; omega
    clear e hn ht hb hB htab hE h0
    go_enter Tryz.func68, Tryz.ntmps68
    go_wp2_with (first
      | (go_at_call 42
         with_reducible refine (putN1 (⟨#[97, 117, 116, 111, 109, 97, 116, 111, 110]⟩) HT0.out HN.out (lit_ok (by decide)) (by simp)).mono ?_
         rintro e w1 ⟨rfl, ht, hk⟩
         have HT1 := Lib.hid ht
         have HK1 := Lib.hid (HK0.out.trans hk)
         clear ht hk
         have hbx := box_kept HK1.out (heap_alloc_new w _) (by omega) (by decide)
         obtain ⟨d0, d1, d2, d3, d4, d5, d6⟩ := row7 hbx
         clear hbx
         skip))
    go_loopg [20] i.states.length (fun g v wr => ∃ k : Nat, k + g = i.states.length ∧ v = .int .i64 k ∧ TextW B b (ts ++ [(⟨#[97, 117, 116, 111, 109, 97, 116, 111, 110]⟩ : ByteArray).data.toList] ++ (i.states.take k).flatMap stateT) wr ∧ TKept B b (w.alloc (.cells #[.slice A0 n0 k0, .int .i64 o1, .string s2, .int .i64 o3, .slice A4 n4 k4, .slice A5 n5 k5, .slice A6 i.states.length k6] 44)) wr)
    case atStart => exact ⟨0, by omega, rfl, by simpa using HT1.out, HK1.out⟩
    case round =>
      obtain ⟨k, hkg, rfl, hto, hkw⟩ := hrel
      obtain ⟨wq20, rfl⟩ : ∃ W, W = wr := ⟨_, rfl⟩
      have HKG := Lib.hid hkg
      have HW := Lib.hid hkw
      have HTO := Lib.hid hto
      have hkl : k ≤ i.states.length := by omega
      have hblr := hto.lt
      have HBR := Lib.hid (HBA.out.trans (hkw.below.mono HBB.out))
      have hszr := HBR.out.size
      clear hkg hto hkw
      by_cases hlt : k < i.states.length
      · obtain ⟨x, hx⟩ : ∃ x, i.states[k]? = some x := ⟨_, List.getElem?_eq_getElem hlt⟩
        obtain ⟨M, hEM, hRM⟩ := HEA6.out k x hx
        have HI := Lib.hid (state_pc (b := b) HBB.out HTB.out hRM)
        obtain ⟨t0, B1, m1, j1, B2, m2, j2, rfl⟩ := hRM.shape
        obtain ⟨a, rfl, hab, haa, xq0, xq1, xq2⟩ := elem3 (hEM.under HBR.out)
        have HN1 := Lib.hid (show SizeOk (ts ++ [(⟨#[97, 117, 116, 111, 109, 97, 116, 111, 110]⟩ : ByteArray).data.toList] ++ (i.states.take k).flatMap stateT ++ stateT x) by have := flat_left HZ1.out (k + 1); rw [flat_succ stateT hx] at this; simpa [] using this)
        have HQ1 := Lib.hid (show ts ++ [(⟨#[97, 117, 116, 111, 109, 97, 116, 111, 110]⟩ : ByteArray).data.toList] ++ (i.states.take (k + 1)).flatMap stateT = ts ++ [(⟨#[97, 117, 116, 111, 109, 97, 116, 111, 110]⟩ : ByteArray).data.toList] ++ (i.states.take k).flatMap stateT ++ stateT x by rw [flat_succ stateT hx]; simp [])
        have HTr200 := Lib.hid (HTO.out.alloc (.cells #[.string t0, .slice B1 m1 j1, .slice B2 m2 j2] 94))
        have HKr200 := Lib.hid (TKept.refl B b (wq20.alloc (.cells #[.string t0, .slice B1 m1 j1, .slice B2 m2 j2] 94)))
        have HBAr20 := Lib.hid (HBR.out.alloc hszr (.cells #[.string t0, .slice B1 m1 j1, .slice B2 m2 j2] 94))
        clear hx hEM hRM
        go_wp2_with (first
          | (go_at_call 94
             refine (HI.out _ _ HTr200.out (HBAr20.out.trans (HKr200.out.below.mono HBB.out)) HN1.out).mono ?_
             rintro e wr201 ⟨rfl, ht, hk⟩
             have HTr201 := Lib.hid ht
             have HKr201 := Lib.hid (HKr200.out.trans hk)
             clear ht hk
             have hbx := box_kept HKr201.out (heap_alloc_new wq20 _) (by omega) (by decide)
             obtain ⟨r20d0, r20d1, r20d2⟩ := row3 hbx
             clear hbx
             skip))
        go_roundg (i.states.length - (k + 1))
        case measure => have := HKG.out; omega
        case rel => exact ⟨k + 1, by omega, by go_num, by rw [HQ1.out]; exact HTr201.out, (HW.out.alloc HT0.out.2 _).trans HKr201.out⟩
      · have hke : k = i.states.length := by omega
        have HT2 := Lib.hid (show TextW B b (ts ++ [(⟨#[97, 117, 116, 111, 109, 97, 116, 111, 110]⟩ : ByteArray).data.toList] ++ i.states.flatMap stateT) wq20 by have := HTO.out; rwa [hke, List.take_length] at this)
        have HK2 := Lib.hid HW.out
        have HKE := Lib.hid hke
        clear hke HTO HW HKG
        have hbx := box_kept HK2.out (heap_alloc_new w _) (by omega) (by decide)
        obtain ⟨d0, d1, d2, d3, d4, d5, d6⟩ := row7 hbx
        clear hbx
        go_wp2_with (first
          | (go_at_call 42
             with_reducible refine (putN2 (⟨#[101, 110, 100]⟩) (⟨#[59]⟩) HT2.out HN2.out (lit_ok (by decide)) (lit_ok (by decide)) rfl).mono ?_
             rintro e w3 ⟨rfl, ht, hk⟩
             have HT3 := Lib.hid ht
             have HK3 := Lib.hid (HK2.out.trans hk)
             clear ht hk
             have hbx := box_kept HK3.out (heap_alloc_new w _) (by omega) (by decide)
             obtain ⟨d0, d1, d2, d3, d4, d5, d6⟩ := row7 hbx
             clear hbx
             skip))
        go_end0
        exact ⟨rfl, by rw [HQ.out]; simpa using HT3.out, ((TKept.refl B b w).alloc HT.out.2 _).trans HK3.out⟩
end Go.Proofs.YtjelhdjckdcbaaaGreatDoor
