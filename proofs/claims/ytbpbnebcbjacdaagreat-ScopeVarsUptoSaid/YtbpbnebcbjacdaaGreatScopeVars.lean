/-
  Vars, Node of scope; the reference's Has, Node, Defines, Vars.
-/
import Derived.Test.YtbpbnebcbjacdaaGreatScopeDef
import Derived.Test.YtbpbnebcbjacdaaGreatScopeDist
namespace Go.Proofs.YtbpbnebcbjacdaaGreat
open Go.RowKit

set_option maxHeartbeats 1000000 in
theorem clone_any {w : World} {va : Value} {l : List Tx} (ha : StrsAt w va l) (hl : l.length ≤ 2097152) : Calls Tryz.prog 32 #[va] w (OwnPost l w) := by
  have q24 : ∀ (w : World) (a : Option Addr) (n c n' c' : Nat), (binOp .eql 37 (.slice a n c) (.slice none n' c')).run Tryz.prog w = .ok (.bool a.isNone) w := fun w a n c n' c' => Lib.run_eql_slice_nil w _ _ a n c n' c' Tryz.underlying37
  have HA := Lib.hid ha
  obtain ⟨A, c, rfl, _, _, he⟩ := ha
  cases A with
  | none =>
    have hn : l = [] := by
      cases l with
      | nil => rfl
      | cons y r =>
        obtain ⟨L, ⟨a', e, _⟩, _⟩ := he 0 y rfl
        cases e
    subst hn
    clear he
    go_enter Tryz.func32, Tryz.ntmps32
    go_wp2_with fail
    go_ret
    exact ⟨_, rfl, OwnS.nil _ _, Below.refl _ _⟩
  | some a =>
    have hal := Lib.hid ((Below.refl w.heap.size w).alloc (Nat.le_refl _) (.cells #[] 9))
    have HO := Lib.hid (show OwnS w.heap.size (w.alloc (.cells #[] 9)) (.slice (some ⟨w.heap.size, 0, none⟩) 0 0) [] from ⟨World.ownsRow_made w #[] 0 (Nat.le_refl _) (Nat.zero_le _) rfl, by simp⟩)
    have hlen : ([] : List Tx).length + l.length ≤ 4194304 := by simp; omega
    clear he
    go_enter Tryz.func32, Tryz.ntmps32
    go_wp2_with (at_builtin; refine append_strs rfl _ _ rfl rfl rfl HO.out (HA.out.under hal.out) hlen (by simp) ?_; (intro v5 w5 h5; obtain ⟨ho5, hb5, _⟩ := h5; have HO5 := Lib.hid ho5; have HB5 := Lib.hid (hal.out.trans hb5); clear ho5 hb5))
    go_ret
    exact ⟨_, rfl, by simpa using HO5.out, HB5.out⟩
theorem vars_part {n : QNode} (k : Nat) (h : (varsQ n).length ≤ 2097152) : (n.ins ++ (n.items.take k).flatMap definedQ).length ≤ 2097152 := by
  have h1 := flat_le definedQ n.items k
  unfold varsQ at h
  rw [List.length_append] at h ⊢
  omega
theorem defined_part {n : QNode} {i : QItem} (hi : i ∈ n.items) (h : (varsQ n).length ≤ 2097152) : (definedQ i).length ≤ 2097152 := by
  obtain ⟨k, hk⟩ := List.getElem?_of_mem hi
  have h1 := flat_le definedQ n.items (k + 1)
  rw [flat_snoc hk, List.length_append] at h1
  unfold varsQ at h
  rw [List.length_append] at h
  omega
set_option maxHeartbeats 4000000 in
set_option maxRecDepth 100000 in
theorem vars_any {w0 : World} {L : List Value} {n : QNode} (hL : NodeAt w0 L n) (hlen : (varsQ n).length ≤ 2097152) : ∀ w, Below w0.heap.size w0 w → Calls Tryz.prog 17 #[.agg L.toArray] w (OwnPost (varsQ n) w) := by
  intro w hb
  have HB := Lib.hid hb
  have hsz := hb.size
  have HPART := Lib.hid (fun k => vars_part (n := n) k hlen)
  have HDP := Lib.hid (fun i hi => defined_part (n := n) (i := i) hi hlen)
  have hil : n.ins.length ≤ 2097152 := by have := vars_part (n := n) 0 hlen; simpa using this
  have HVQ := Lib.hid (show varsQ n = n.ins ++ n.items.flatMap definedQ from rfl)
  obtain ⟨fv, iv, ov, xv, rfl, hnl, hfu, hin, hou, hit⟩ := hL
  have HIN := Lib.hid (hin.under hb)
  obtain ⟨fA, fn, fk, rfl⟩ := SliceAt.shape hfu
  obtain ⟨iA, im, ik, rfl⟩ := SliceAt.shape hin
  obtain ⟨oA, on, ok, rfl⟩ := SliceAt.shape hou
  obtain ⟨xA, xk, rfl, hxc, hxm, hxe⟩ := hit
  have HXE := Lib.hid hxe
  have hxl : n.items.length ≤ 9223372036854775807 := by have h : n.items.length ≤ xk := hxc; unfold maxLen at hxm; omega
  have hal := Lib.hid ((Below.refl w.heap.size w).alloc (Nat.le_refl _) (.cells #[.string (str n.name), .slice fA fn fk, .slice iA im ik, .slice oA on ok, .slice xA n.items.length xk] 41))
  have BN := Lib.hid (heap_alloc_new w (.cells #[.string (str n.name), .slice fA fn fk, .slice iA im ik, .slice oA on ok, .slice xA n.items.length xk] 41))
  clear hb hlen hfu hin hou hxc hxm hxe hnl
  go_enter Tryz.func17, Tryz.ntmps17
  go_wp2_with (go_at_call 32
               (with_reducible refine (clone_any (HIN.out.under hal.out) hil).mono ?_)
               rintro e w7 ⟨v7, rfl, ho7, hb7⟩
               obtain ⟨V, rfl⟩ : ∃ W, W = w7 := ⟨_, rfl⟩
               have HO7 := Lib.hid (ho7.mono hal.out.size)
               have HV := Lib.hid (hal.out.trans (hb7.mono hal.out.size))
               have BN7 := Lib.hid (box_next hb7 BN.out)
               obtain ⟨_, _, _, _, nb4⟩ := row5 BN7.out
               clear ho7 hb7)
  have hszV := HV.out.size
  clear nb4
  go_loopg [3, 12] n.items.length (fun g v i wr => ∃ k : Nat, k + g = n.items.length ∧ i = .int .i64 k ∧ OwnS w.heap.size wr v (n.ins ++ (n.items.take k).flatMap definedQ) ∧ Below w.heap.size w wr)
  case atStart => exact ⟨0, by omega, rfl, by simpa using HO7.out, HV.out⟩
  case round =>
    obtain ⟨wq, rfl⟩ : ∃ W, W = wr := ⟨_, rfl⟩
    obtain ⟨k, hkg, rfl, ho, hbw⟩ := hrel
    have HK := Lib.hid hkg
    have HW := Lib.hid hbw
    have HO := Lib.hid ho
    have hszw := hbw.size
    have hkl : k ≤ n.items.length := by omega
    clear hkg hbw ho
    by_cases hlt : k < n.items.length
    · obtain ⟨q, hq⟩ : ∃ q, n.items[k]? = some q := ⟨_, List.getElem?_eq_getElem hlt⟩
      have HT := Lib.hid (show n.ins ++ (n.items.take (k + 1)).flatMap definedQ = (n.ins ++ (n.items.take k).flatMap definedQ) ++ definedQ q by rw [flat_snoc hq, List.append_assoc])
      have HDQ := Lib.hid (HDP.out q (List.mem_of_getElem? hq))
      have hlen1 : (n.ins ++ (n.items.take k).flatMap definedQ).length + (definedQ q).length ≤ 4194304 := by
        have h1 := HPART.out k
        have h2 := HDQ.out
        omega
      obtain ⟨Lq, hEq, hRq⟩ := HXE.out k q hq
      have HITM := Lib.hid hRq
      obtain ⟨A0, n0, k0, o1, s2, o3, A4, n4, k4, A5, n5, k5, A6, n6, k6, rfl⟩ := hRq.shape
      have HBQ := Lib.hid (HB.out.trans (HW.out.mono hsz))
      obtain ⟨a, ea, ha, haa, d0, d1, d2, d3, d4, d5, d6⟩ := elem7 (hEq.under HBQ.out)
      subst ea
      have HA3 := Lib.hid ((Below.refl wq.heap.size wq).alloc (Nat.le_refl _) (.cells #[.slice A0 n0 k0, .int .i64 o1, .string s2, .int .i64 o3, .slice A4 n4 k4, .slice A5 n5 k5, .slice A6 n6 k6] 55))
      have HDEF := Lib.hid (defined_any HITM.out HDQ.out _ (HBQ.out.trans (HA3.out.mono HBQ.out.size)))
      clear hq hEq hRq
      go_wp2_with (first
        | (go_at_call 33
           (with_reducible refine HDEF.out.mono ?_)
           rintro e w8 ⟨v8, rfl, hs8, hb8⟩
           obtain ⟨A8, n8, k8, rfl⟩ := SliceAt.shape hs8
           obtain ⟨V8, rfl⟩ : ∃ W, W = w8 := ⟨_, rfl⟩
           have HS8 := Lib.hid hs8
           have HB8 := Lib.hid (HW.out.trans ((HA3.out.trans (hb8.mono HA3.out.size)).mono hszw))
           have HO8 := Lib.hid ((HO.out.alloc _).under hb8)
           have hsz8 := HB8.out.size
           clear hs8 hb8)
        | (at_builtin; refine append_strs rfl _ _ rfl rfl rfl HO8.out HS8.out hlen1 hsz8 ?_; (intro v5 w5 h5; obtain ⟨ho5, hb5, _⟩ := h5; have HO5 := Lib.hid ho5; have HB5 := Lib.hid (HB8.out.trans hb5); clear ho5 hb5)))
      go_roundg (n.items.length - (k + 1))
      case measure => have := HK.out; omega
      case rel => exact ⟨k + 1, by omega, by go_num, by rw [HT.out]; exact HO5.out, HB5.out⟩
    · have hke : k = n.items.length := by omega
      have HOe := Lib.hid (show OwnS w.heap.size wq _ (varsQ n) by have := HO.out; rwa [hke, List.take_length, ← HVQ.out] at this)
      clear hke
      go_wp2_with fail
      go_ret
      exact ⟨_, rfl, HOe.out, HW.out⟩
def BoolSame (b : Bool) (w : World) (e : Ending) (w' : World) : Prop := e = .returned (.bool b) ∧ w = w'
set_option maxHeartbeats 1000000 in
theorem has_any {va : Value} {l : List Tx} {w : World} (ha : StrsAt w va l) (s : Tx) : Calls Tryz.prog 21 #[va, .string (str s)] w (BoolSame (l.contains s) w) := by
  obtain ⟨A, c, rfl, hlc, hmc, he⟩ := ha
  have hll : l.length ≤ 9223372036854775807 := by unfold maxLen at hmc; omega
  have HE := Lib.hid he
  clear he hlc hmc
  go_enter Tryz.func21, Tryz.ntmps21
  go_wp2_with fail
  go_loop [5] (fun v => ∃ k : Nat, k ≤ l.length ∧ v = .int .i64 k ∧ AllTo (fun y => !(y == s)) l k) (fun v => l.length - (intOf v).toNat)
  case atStart => exact ⟨0, Nat.zero_le _, rfl, AllTo.zero⟩
  case round =>
    obtain ⟨k, hk, rfl, hto⟩ := hrel
    have HT := Lib.hid hto
    clear hto
    by_cases hlt : k < l.length
    · obtain ⟨x, hx⟩ : ∃ x, l[k]? = some x := ⟨_, List.getElem?_eq_getElem hlt⟩
      have HX := Lib.hid hx
      obtain ⟨L, hEL, rfl, _⟩ := HE.out k x hx
      obtain ⟨a, rfl, _, _, c0⟩ := elem1 hEL
      rw [Nat.mul_one] at c0
      clear hx hEL
      by_cases hxs : x = s
      · have hb : ((str x).toList == (str s).toList) = true := by rw [hxs]; simp
        have HN := Lib.hid (show l.contains s = true by rw [List.contains_iff_mem, ← hxs]; exact List.mem_of_getElem? HX.out)
        clear hxs
        go_wp2_with fail
        go_ret
        exact ⟨ret_bool (by simpa using HN.out.symm), rfl⟩
      · have hb : ((str x).toList == (str s).toList) = false := by rw [str_toL, str_toL]; simp; exact hxs
        have HN := Lib.hid (show (!(x == s)) = true by simp [hxs])
        clear hxs
        go_wp2_with fail
        go_round
        case rel => exact ⟨k + 1, by omega, by go_num, HT.out.succ HX.out HN.out⟩
        case measure => simp [intOf]; omega
    · have hke : k = l.length := by omega
      have HN := Lib.hid (idx_none HT.out hke)
      clear hke
      go_wp2_with fail
      go_ret
      exact ⟨ret_bool (by simpa using HN.out.symm), rfl⟩
/-- the first node with a name -/
def nodeF (k : Int) (s : Tx) : List QNode → Int × Bool
  | [] => (0, false)
  | n :: r => if n.name = s then (k, true) else nodeF (k + 1) s r
def NodeRet (r : Int × Bool) (w : World) (e : Ending) (w' : World) : Prop := e = .returned (.tuple #[.int .i64 r.1, .bool r.2]) ∧ Below w.heap.size w w'
set_option maxHeartbeats 2000000 in
theorem node_any {w0 : World} {L : List Value} {p : QProg} (hL : ProgAt w0 L p) (s : Tx) : ∀ w, Below w0.heap.size w0 w → Calls Tryz.prog 14 #[.agg L.toArray, .string (str s)] w (NodeRet (nodeF 0 s p.nodes) w) := by
  intro w hb
  have HB := Lib.hid hb
  have hsz := hb.size
  obtain ⟨ev, nv, rfl, he, hn⟩ := hL
  obtain ⟨E, en, ek, rfl⟩ := SliceAt.shape he
  obtain ⟨C, ck, rfl, hcc, hmc, hce⟩ := hn
  have hnl : p.nodes.length ≤ 9223372036854775807 := by have h : p.nodes.length ≤ ck := hcc; unfold maxLen at hmc; omega
  have HCE := Lib.hid hce
  clear hb he hcc hmc hce
  go_enter Tryz.func14, Tryz.ntmps14
  go_wp2_with fail
  have HV := Lib.hid ((Below.refl w.heap.size w).alloc (Nat.le_refl _) (.cells #[.slice E en ek, .slice C p.nodes.length ck] 25))
  generalize w.alloc (.cells #[.slice E en ek, .slice C p.nodes.length ck] 25) = V at *
  go_loopg [11] p.nodes.length (fun g v wr => ∃ k : Nat, k + g = p.nodes.length ∧ v = .int .i64 k ∧ nodeF 0 s p.nodes = nodeF k s (p.nodes.drop k) ∧ Below V.heap.size V wr)
  case atStart => exact ⟨0, by omega, rfl, rfl, Below.refl _ _⟩
  case round =>
    obtain ⟨wq, rfl⟩ : ∃ W, W = wr := ⟨_, rfl⟩
    obtain ⟨k, hkg, rfl, hr, hbw⟩ := hrel
    have HK := Lib.hid hkg
    have HR := Lib.hid hr
    have HW := Lib.hid hbw
    have HVW := Lib.hid (HV.out.trans (hbw.mono HV.out.size))
    have HBQ := Lib.hid (HB.out.trans (HVW.out.mono hsz))
    have hkl : k ≤ p.nodes.length := by omega
    clear hkg hr hbw
    by_cases hlt : k < p.nodes.length
    · obtain ⟨n, hn⟩ : ∃ n, p.nodes[k]? = some n := ⟨_, List.getElem?_eq_getElem hlt⟩
      have HDR := Lib.hid (drop_consS hn)
      obtain ⟨Ln, hEn, fv, iv, ov, xv, rfl, _, hfu, hin, hou, hit⟩ := HCE.out k n hn
      obtain ⟨fA, fn, fk, rfl⟩ := SliceAt.shape hfu
      obtain ⟨iA, im, ik, rfl⟩ := SliceAt.shape hin
      obtain ⟨oA, on, ok, rfl⟩ := SliceAt.shape hou
      obtain ⟨xA, xn, xk, rfl⟩ := SliceAt.shape hit
      obtain ⟨a, ea, ha, haa, d0, d1, d2, d3, d4⟩ := elem5 (hEn.under HBQ.out)
      subst ea
      have hal := Lib.hid ((Below.refl wq.heap.size wq).alloc (Nat.le_refl _) (.cells #[.string (str n.name), .slice fA fn fk, .slice iA im ik, .slice oA on ok, .slice xA xn xk] 41))
      clear hn hEn hfu hin hou hit
      by_cases hs : n.name = s
      · have hb : ((str n.name).toList == (str s).toList) = true := by rw [hs]; simp
        have HN := Lib.hid (show nodeF 0 s p.nodes = ((k : Int), true) by rw [HR.out, HDR.out, nodeF, if_pos hs])
        clear hs
        go_wp2_with fail
        go_ret2
        exact ⟨by rw [HN.out]; rfl, HVW.out.trans (hal.out.mono HVW.out.size)⟩
      · have hb : ((str n.name).toList == (str s).toList) = false := by rw [str_toL, str_toL]; simp; exact hs
        have HN := Lib.hid (show nodeF 0 s p.nodes = nodeF (k + 1 : Nat) s (p.nodes.drop (k + 1)) by rw [HR.out, HDR.out, nodeF, if_neg hs]; rfl)
        clear hs
        go_wp2_with fail
        go_roundg (p.nodes.length - (k + 1))
        case measure => have := HK.out; omega
        case rel => exact ⟨k + 1, by omega, by go_num, HN.out, HW.out.trans (hal.out.mono HW.out.size)⟩
    · have hke : k = p.nodes.length := by omega
      have HN := Lib.hid (show nodeF 0 s p.nodes = (0, false) by rw [HR.out, hke, List.drop_length]; rfl)
      clear hke
      go_wp2_with fail
      go_ret2
      exact ⟨by rw [HN.out]; rfl, HVW.out⟩
end Go.Proofs.YtbpbnebcbjacdaaGreat
