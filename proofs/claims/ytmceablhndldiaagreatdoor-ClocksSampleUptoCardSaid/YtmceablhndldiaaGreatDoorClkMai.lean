/-
  clocks.Fits, whatever the variables.
-/
import Derived.Test.YtmceablhndldiaaGreatDoorClkNew
namespace Go.Proofs.YtmceablhndldiaaGreatDoor
open Go.RowKit

set_option maxRecDepth 100000 in
set_option maxHeartbeats 1000000 in
theorem fitsMain_any {w0 : World} {va : Value} {vs : List Vr} {x : Ex} {L : List Value} {A : Option Addr} {k : Nat} {c : Clk} (ha : VarsAt w0 va vs) (hvl : ∀ v ∈ vs, v.2.length ≤ 2097151) (hok : OkT vs x) (w : World) (hb : Below w0.heap.size w0 w) (hx : ExAt w L x) (hc : ClkAt w (.slice A c.length k) c) :
    Calls Tryz.prog 11 #[va, .agg L.toArray, .slice A c.length k] w (BoolPost (fitsQ vs x c) w) := by
  obtain ⟨VA, vc, rfl, hvl1, hvl2, he⟩ := ha
  obtain ⟨o1, s1, n1, A1, m1, k1, A2, m2, k2, rfl⟩ := hx.shape
  have hlm : vs.length ≤ 9223372036854775807 := by unfold maxLen at hvl2; omega
  have b1 := (Below.refl w.heap.size w).alloc (Nat.le_refl _) (.cells #[.int .i64 o1, .string s1, .int .i64 n1, .slice A1 m1 k1, .slice A2 m2 k2] 31)
  have HB1 := Lib.hid b1
  have HB := Lib.hid hb
  have HX := Lib.hid hx
  have HC := Lib.hid hc
  have HE := Lib.hid he
  have HVL := Lib.hid hvl
  have hsz0 := hb.size
  have E0 := Lib.hid (heap_alloc_new w (.cells #[.int .i64 o1, .string s1, .int .i64 n1, .slice A1 m1 k1, .slice A2 m2 k2] 31))
  clear hb hx hc he hvl hvl1 hvl2 b1
  go_enter Tryz.func11, Tryz.ntmps11
  go_wp2_with (first
    | (go_at_call 17
       (with_reducible refine (newTiming_any _).mono ?_)
       rintro e w1 ⟨T, m, R, rfl, ht, hm, hmw, hmT, hmR, hb2⟩
       obtain ⟨V1, rfl⟩ : ∃ W, W = w1 := ⟨_, rfl⟩
       have HT1 := Lib.hid ht
       have HM1 := Lib.hid hm
       have E1 := Lib.hid (box_next hb2 E0.out)
       have B1 := Lib.hid (HB1.out.trans (hb2.mono HB1.out.size))
       have hmw' : w.heap.size + 1 ≤ m := by simpa using hmw
       clear ht hm hb2 hmw))
  go_loopg [15] vs.length (fun gh i wr => ∃ (q : Nat) (l : List (Tx × Value)), q + gh = vs.length ∧ i = .int .i64 q ∧ TimAt wr T m R ∧ MapAt wr m l ∧ MapP w0 l (vs.take q) ∧ Below w.heap.size w wr ∧ wr.heap[w.heap.size]? = some (.cells #[.int .i64 o1, .string s1, .int .i64 n1, .slice A1 m1 k1, .slice A2 m2 k2] 31 (0, 0)))
  case atStart => exact ⟨0, [], by omega, rfl, HT1.out, HM1.out, MapP.nil w0, B1.out, E1.out⟩
  case round =>
    obtain ⟨U, rfl⟩ : ∃ W, W = wr := ⟨_, rfl⟩
    obtain ⟨q, l, hqg, rfl, htU, hmU, hpU, hbU, heU⟩ := hrel
    have HQ := Lib.hid hqg
    have HTU := Lib.hid htU
    have HMU := Lib.hid hmU
    have HPU := Lib.hid hpU
    have HBU := Lib.hid hbU
    have HEU := Lib.hid heU
    have hszU := hbU.size
    have hql : q ≤ vs.length := by omega
    have hmlt := hmU.lt
    have hTlt := lt_of_heap htU.box
    clear hqg htU hmU hpU hbU heU
    by_cases hlt : q < vs.length
    · obtain ⟨v, hv⟩ : ∃ v, vs[q]? = some v := ⟨_, List.getElem?_eq_getElem hlt⟩
      obtain ⟨Lv, hEv, t, B, bn, d, rfl, hnm, hcl⟩ := HE.out q v hv
      obtain rfl : bn = v.2.length := by obtain ⟨_, _, e, _⟩ := hcl; cases e; rfl
      have HV := Lib.hid (show vs.take (q + 1) = vs.take q ++ [v] from take_snoc hv)
      have HVM := Lib.hid (List.mem_of_getElem? hv)
      have HNM := Lib.hid hnm
      have HCL := Lib.hid hcl
      have HB0 := Lib.hid (HB.out.trans (HBU.out.mono hsz0))
      obtain ⟨a, rfl, _, _, d0, d1, d2⟩ := elem3 (hEv.under HB0.out)
      obtain ⟨B', j', n', ok, hok', hrun⟩ := HPU.out.look HMU.out hnm
      have HOK := Lib.hid hok'
      have HRUN := Lib.hid hrun
      have V0 := Lib.hid (heap_alloc_new U (.cells #[.string (str v.1), .int .i64 t, .slice B v.2.length d] 64))
      have TU1 := Lib.hid (HTU.out.keep ((Below.refl _ _).alloc (Nat.le_refl _) (.cells #[.string (str v.1), .int .i64 t, .slice B v.2.length d] 64)))
      have UB1 := Lib.hid ((Below.refl U.heap.size U).alloc (Nat.le_refl _) (.cells #[.string (str v.1), .int .i64 t, .slice B v.2.length d] 64))
      obtain ⟨v0, v1, v2⟩ := row3n V0.out
      obtain ⟨t0, t1⟩ := row2c TU1.out.box
      clear hv hEv hnm hcl hok' hrun
      go_wp2_with fail
      have hrun0 := HRUN.out _ UB1.out.drew
      refine wp_region_held_drew (S := (fun Wx => Wx.cell? ⟨T, 0, none⟩ = some (.map (some m)) ∧ Wx.cell? ⟨U.heap.size, 0, none⟩ = some (.string (str v.1)) ∧ (Instr.lookup 70 (.map (some m)) (.string (str v.1)) true).run Tryz.prog Wx = .ok (.tuple #[.agg #[.int .i64 0, .slice B' n' j'], .bool ok]) Wx)) (by kernel_rfl) ?_ (fun hHeld => ?_)
      · (try dsimp only); go_keep
      refine take_now 0 rfl ?_
      try simp only [Act.put, setA, setZ, setS]
      refine take_now 1 rfl ?_
      try simp only [Act.put, setA, setZ, setS]
      refine take_now 2 rfl ?_
      try simp only [Act.put, setA, setZ, setS]
      refine take_now 3 rfl ?_
      try simp only [Act.put, setA, setZ, setS]
      refine take_now 4 rfl ?_
      try simp only [Act.put, setA, setZ, setS]
      refine take_now 5 rfl ?_
      try simp only [Act.put, setA, setZ, setS]
      refine take_now 6 rfl ?_
      try simp only [Act.put, setA, setZ, setS]
      refine take_now 7 rfl ?_
      try simp only [Act.put, setA, setZ, setS]
      refine take_now 8 rfl ?_
      try simp only [Act.put, setA, setZ, setS]
      refine take_now 9 rfl ?_
      try simp only [Act.put, setA, setZ, setS]
      refine only_at 10 (by kernel_rfl) rfl (fun K hK => ?_)
      go_simp
      have Z3 := Lib.hid (UB1.out.alloc UB1.out.size (.cells #[.int .i64 0, .slice none 0 0] 68))
      have Y3 := Lib.hid (UB1.out.alloc UB1.out.size (.cells #[.int .i64 0, .slice B' n' j'] 68))
      have vz := Lib.hid (heap_alloc_keep (o := .cells #[.int .i64 0, .slice none 0 0] 68) V0.out)
      have vy := Lib.hid (heap_alloc_keep (o := .cells #[.int .i64 0, .slice B' n' j'] 68) V0.out)
      have TZ := Lib.hid (TU1.out.keep ((Below.refl _ _).alloc (Nat.le_refl _) (.cells #[.int .i64 0, .slice none 0 0] 68)))
      have TY := Lib.hid (TU1.out.keep ((Below.refl _ _).alloc (Nat.le_refl _) (.cells #[.int .i64 0, .slice B' n' j'] 68)))
      obtain ⟨t2, t3⟩ := row2c TZ.out.box
      obtain ⟨t4, t5⟩ := row2c TY.out.box
      obtain ⟨x0, x1, x2⟩ := row3n vz.out
      obtain ⟨y0, y1, y2⟩ := row3n vy.out
      refine hK.out _ _ ⟨t2, x0, HRUN.out _ Z3.out.drew⟩ (fun hHeld => ?_)
      clear hK K
      try simp only [Act.put, setA, setZ, setS]
      refine only_at 11 (by kernel_rfl) rfl (fun K hK => ?_)
      go_simp
      refine hK.out _ _ ⟨t4, y0, HRUN.out _ Y3.out.drew⟩ (fun hHeld => ?_)
      clear hK K
      try simp only [Act.put, setA, setZ, setS]
      refine take_now 12 rfl ?_
      try simp only [Act.put, setA, setZ, setS]
      refine wpAnyH_done (by kernel_rfl) ?_ _
      cases ok with
      | true =>
        have HIN := Lib.hid (HOK.out.1 rfl)
        clear HOK
        go_wp2_with fail
        go_roundg (vs.length - (q + 1))
        case measure => have := HQ.out; omega
        case rel => exact ⟨q + 1, l, by omega, by go_num, TY.out.keep (Below.refl _ _).drew, HMU.out.under Y3.out.drew, by rw [HV.out]; exact HPU.out.old HIN.out, HBU.out.trans (Y3.out.drew.mono hszU), box_next Y3.out.drew HEU.out⟩
      | false =>
        have HIN := Lib.hid (show v.1 ∉ l.map Prod.fst from fun h => by have := HOK.out.2 h; cases this)
        clear HOK
        go_wp2_with fail
        refine wp_region_held_drew (S := (fun Wx => Wx.cell? ⟨T, 0, none⟩ = some (.map (some m)) ∧ Wx.cell? ⟨U.heap.size, 0, none⟩ = some (.string (str v.1)) ∧ Wx.cell? ⟨U.heap.size, 2, none⟩ = some (.slice B v.2.length d))) (by kernel_rfl) ?_ (fun hHeld => ?_)
        · (try dsimp only); go_keep
        refine take_now 0 rfl ?_
        try simp only [Act.put, setA, setZ, setS]
        refine take_now 1 rfl ?_
        try simp only [Act.put, setA, setZ, setS]
        refine take_now 2 rfl ?_
        try simp only [Act.put, setA, setZ, setS]
        refine take_now 3 rfl ?_
        try simp only [Act.put, setA, setZ, setS]
        refine take_now 4 rfl ?_
        try simp only [Act.put, setA, setZ, setS]
        refine take_now 5 rfl ?_
        try simp only [Act.put, setA, setZ, setS]
        refine take_now 6 rfl ?_
        try simp only [Act.put, setA, setZ, setS]
        refine take_now 7 rfl ?_
        try simp only [Act.put, setA, setZ, setS]
        refine take_now 8 rfl ?_
        try simp only [Act.put, setA, setZ, setS]
        refine only_at 9 (by kernel_rfl) rfl (fun K hK => ?_)
        (refine step_put rfl _ _ _ 70 rfl Tryz.underlying70 rfl rfl rfl (HMU.out.under Y3.out.drew.drew) HNM.out HIN.out ?_
         intro w6 hm6 hg6
         obtain ⟨V6, rfl⟩ : ∃ W, W = w6 := ⟨_, rfl⟩
         have HM6 := Lib.hid hm6
         have HG6 := Lib.hid hg6
         clear hm6 hg6)
        have KE := Lib.hid (show ∀ b o, (((U.alloc (.cells #[.string (str v.1), .int .i64 t, .slice B v.2.length d] 64)).alloc (.cells #[.int .i64 0, .slice B' n' j'] 68)).drew.drew).heap[b]? = some o → b ≠ m → V6.heap[b]? = some o from fun b o h hne => (HG6.out.block b (lt_of_heap h) (fun e => hne (by cases e; rfl))).trans h)
        have t6 := KE.out _ _ TY.out.box hmT.symm
        have r6 := KE.out _ _ TY.out.root hmR.symm
        have v6 := KE.out _ _ vy.out (by omega)
        have e6 := Lib.hid (KE.out _ _ (box_next Y3.out.drew.drew HEU.out) (by omega))
        have T6 := Lib.hid (show TimAt V6 T m R from ⟨t6, r6⟩)
        obtain ⟨a0, a1⟩ := row2c t6
        obtain ⟨b0, b1, b2⟩ := row3n v6
        refine hK.out _ _ ⟨a0, b0, b2⟩ (fun hHeld => ?_)
        clear hK K t6 r6 v6
        try simp only [Act.put]
        refine wpAnyH_done (by kernel_rfl) ?_ _
        go_wp2_with fail
        have hY := Y3.out.drew.drew
        go_roundg (vs.length - (q + 1))
        case measure => have := HQ.out; omega
        case rel => exact ⟨q + 1, _, by omega, by go_num, T6.out, HM6.out, by rw [HV.out]; exact HPU.out.add HCL.out (HVL.out v HVM.out), (HBU.out.trans (hY.mono hszU)).grown HG6.out (Nat.le_trans hszU hY.size) (fun k e => by cases e; omega), e6.out⟩
    · have hqe : q = vs.length := by omega
      have HPE := Lib.hid (show MapP w0 l vs by have := HPU.out; rwa [hqe, List.take_length] at this)
      have HFIN := Lib.hid (fits_ok (T := T) (m := m) (R := R) (l := l) (vs := vs) x hok U (HPE.out.env HTU.out HMU.out (HB.out.trans (HBU.out.mono hsz0))) _ (HX.out.under HBU.out) A k c (HC.out.under HBU.out))
      obtain ⟨p0, p1, p2, p3, p4⟩ := row5 HEU.out
      clear hqe
      go_wp2_with (go_at_call 18; (with_reducible refine HFIN.out.mono ?_); rintro e w9 ⟨rfl, hb9⟩)
      go_ret
      exact ⟨rfl, HBU.out.trans (hb9.mono hszU)⟩
end Go.Proofs.YtmceablhndldiaaGreatDoor
