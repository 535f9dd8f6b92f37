/-
  clocks: whenFits, of a sample whose variable has a clock.
-/
import Derived.Test.YtmceablhndldiaaGreatDoorClkFit
namespace Go.Proofs.YtmceablhndldiaaGreatDoor
open Go.RowKit

variable {T m R : Nat} {l : List (Tx × Value)} {vs : List Vr}
set_option maxRecDepth 100000 in
set_option maxHeartbeats 1000000 in
theorem whenFits_any {W : World} (hE : EnvC T m R l vs W) {nm con : Tx} {n : Int} {cs : List Tx} {k0 : Ex} {ks : List Ex} {L : List Value} (hx : ExAt W L (.mk 11 nm n (con :: cs) (k0 :: ks))) {A : Option Addr} {k : Nat} {c d : Clk} (hc : ClkAt W (.slice A c.length k) c)
    (hd : lookV vs nm = some d) (hF : FitsOk T m R l vs k0) :
    Calls Tryz.prog 35 #[.pointer (some ⟨T, 0, none⟩), .agg L.toArray, .agg #[.int .i64 0, .slice A c.length k]] W (BoolPost (decide (d ++ [(nm, con)] = c) && fitsQ vs k0 d) W) := by
  cases hx with
  | @mk _ _ _ _ _ cv A5 c5 C hop hnm hn hcs hl hcc hk hxx =>
    obtain ⟨A3, c3, rfl, hl3, hc3, he3⟩ := hcs
    obtain ⟨Lc, hEc, rfl, hcon⟩ := he3 0 con rfl
    have hk0 := hk 0 k0 rfl
    have hx0 := hxx 0 k0 rfl
    obtain ⟨o1, s1, n1, A1, m1, k1, A2, m2, k2, hL⟩ := hx0.shape
    rw [hL] at hk0 hx0
    have b2 := ((Below.refl W.heap.size W).alloc (Nat.le_refl _) (.cells #[.int .i64 11, .string (str nm), .int .i64 n, .slice A3 (cs.length + 1) c3, .slice A5 (ks.length + 1) c5] 31)).alloc (by simp) (.cells #[.int .i64 0, .slice A c.length k] 68)
    have HB2 := Lib.hid b2
    have HE2 := Lib.hid (hE.under b2)
    have HCC := Lib.hid hc
    have e0 := heap_alloc_keep (o := .cells #[.int .i64 0, .slice A c.length k] 68) (heap_alloc_new W (.cells #[.int .i64 11, .string (str nm), .int .i64 n, .slice A3 (cs.length + 1) c3, .slice A5 (ks.length + 1) c5] 31))
    have c0 := alloc_at (w := W.alloc (.cells #[.int .i64 11, .string (str nm), .int .i64 n, .slice A3 (cs.length + 1) c3, .slice A5 (ks.length + 1) c5] 31)) (o := .cells #[.int .i64 0, .slice A c.length k] 68) (n := W.heap.size + 1) (by simp)
    have E0 := Lib.hid e0
    have C0 := Lib.hid c0
    obtain ⟨p0, p1, p2, p3, p4⟩ := row5 e0
    obtain ⟨q0, q1⟩ := row2c c0
    obtain ⟨t0, t1⟩ := row2c (hE.under b2).tim.box
    rcases hE.look hnm with ⟨B, j, d', h1, h2, h3, hrun⟩ | ⟨h1, _⟩
    rotate_left
    · rw [hd] at h1; cases h1
    rw [hd] at h1
    cases h1
    have HD := Lib.hid h2
    have HDL := Lib.hid h3
    have HRUN := Lib.hid hrun
    have HNM := Lib.hid hnm
    have HCON := Lib.hid hcon
    have HX0 := Lib.hid hx0
    have HFF := Lib.hid hF
    have HEE := Lib.hid hE
    obtain ⟨ac, rfl, _, _, _⟩ := elem1 hEc
    obtain ⟨ak, rfl, _, _, _, _, _, _, _⟩ := elem5 hk0
    have KC := Lib.hid (show ∀ W', Below W.heap.size W W' → W'.cell? ac = some (.string (str con)) from fun W' hb => by
      obtain ⟨a', e, _, _, g⟩ := elem1 (hEc.under hb)
      cases e
      simpa [Addr.add] using g)
    have KK := Lib.hid (show ∀ W', Below W.heap.size W W' → W'.cell? ak = some (.int .i64 o1) ∧ W'.cell? { block := ak.block, off := ak.off + 1 } = some (.string s1) ∧ W'.cell? { block := ak.block, off := ak.off + 2 } = some (.int .i64 n1) ∧ W'.cell? { block := ak.block, off := ak.off + 3 } = some (.slice A1 m1 k1) ∧ W'.cell? { block := ak.block, off := ak.off + 4 } = some (.slice A2 m2 k2) from fun W' hb => by
      obtain ⟨a', e, _, _, g0, g1, g2, g3, g4⟩ := elem5 (hk0.under hb)
      cases e
      simpa [Addr.add] using ⟨g0, g1, g2, g3, g4⟩)
    have hlc : (con :: cs).length = cs.length + 1 := rfl
    have hlk : (k0 :: ks).length = ks.length + 1 := rfl
    clear hop hnm hn hl hcc hk hxx b2 hE hc e0 c0 h2 h3 hrun hl3 hc3 he3 hEc hk0 hx0 hd hF hcon hL
    go_enter Tryz.func35, Tryz.ntmps35
    go_wp2_with fail
    have hrun0 := HRUN.out _ HB2.out.drew
    refine wp_region_held_drew (S := (fun Wx => Wx.cell? ⟨T, 0, none⟩ = some (.map (some m)) ∧ Wx.cell? ⟨W.heap.size, 1, none⟩ = some (.string (str nm)) ∧ (Instr.lookup 70 (.map (some m)) (.string (str nm)) true).run Tryz.prog Wx = .ok (.tuple #[.agg #[.int .i64 0, .slice B d.length j], .bool true]) Wx)) (by kernel_rfl) ?_ (fun hHeld => ?_)
    · (try dsimp only); go_keep
    refine take_now 0 rfl ?_
    try simp only [Act.put, setA, setZ, setS]
    refine take_now 1 rfl ?_
    try simp only [Act.put, setA, setZ, setS]
    refine take_now 2 rfl ?_
    try simp only [Act.put, setA, setZ, setS]
    refine take_now 3 rfl ?_
    try simp only [Act.put, setA, setZ, setS]
    refine take_now 4 rfl ?_
    try simp only [Act.put, setA, setZ, setS]
    refine take_now 5 rfl ?_
    try simp only [Act.put, setA, setZ, setS]
    refine take_now 6 rfl ?_
    try simp only [Act.put, setA, setZ, setS]
    refine take_now 7 rfl ?_
    try simp only [Act.put, setA, setZ, setS]
    refine take_now 8 rfl ?_
    try simp only [Act.put, setA, setZ, setS]
    refine take_now 9 rfl ?_
    try simp only [Act.put, setA, setZ, setS]
    refine only_at 10 (by kernel_rfl) rfl (fun K hK => ?_)
    go_simp
    have z3 := HB2.out.alloc HB2.out.size (.cells #[.int .i64 0, .slice none 0 0] 68)
    have y3 := HB2.out.alloc HB2.out.size (.cells #[.int .i64 0, .slice B d.length j] 68)
    have Z3 := Lib.hid z3
    have Y3 := Lib.hid y3
    have ez := Lib.hid (heap_alloc_keep (o := .cells #[.int .i64 0, .slice none 0 0] 68) E0.out)
    have ey := Lib.hid (heap_alloc_keep (o := .cells #[.int .i64 0, .slice B d.length j] 68) E0.out)
    have cy := Lib.hid (heap_alloc_keep (o := .cells #[.int .i64 0, .slice B d.length j] 68) C0.out)
    have ny := Lib.hid (alloc_at (w := (W.alloc (.cells #[.int .i64 11, .string (str nm), .int .i64 n, .slice (some ac) (cs.length + 1) c3, .slice (some ak) (ks.length + 1) c5] 31)).alloc (.cells #[.int .i64 0, .slice A c.length k] 68)) (o := .cells #[.int .i64 0, .slice B d.length j] 68) (n := W.heap.size + 1 + 1) (by simp))
    have TZ := HE2.out.tim.keep ((Below.refl _ _).alloc (Nat.le_refl _) (.cells #[.int .i64 0, .slice none 0 0] 68))
    have TY := HE2.out.tim.keep ((Below.refl _ _).alloc (Nat.le_refl _) (.cells #[.int .i64 0, .slice B d.length j] 68))
    have HTY := Lib.hid TY
    obtain ⟨t2, t3⟩ := row2c TZ.box
    obtain ⟨t4, t5⟩ := row2c TY.box
    obtain ⟨_, x1, _, _, _⟩ := row5 ez.out
    obtain ⟨_, x2, _, _, _⟩ := row5 ey.out
    obtain ⟨g0, g1⟩ := row2c cy.out
    obtain ⟨ma, mb⟩ := row2c ny.out
    refine hK.out _ _ ⟨t2, x1, HRUN.out _ Z3.out.drew⟩ (fun hHeld => ?_)
    clear hK K
    try simp only [Act.put, setA, setZ, setS]
    refine only_at 11 (by kernel_rfl) rfl (fun K hK => ?_)
    go_simp
    refine hK.out _ _ ⟨t4, x2, HRUN.out _ Y3.out.drew⟩ (fun hHeld => ?_)
    clear hK K
    try simp only [Act.put, setA, setZ, setS]
    refine take_now 12 rfl ?_
    try simp only [Act.put, setA, setZ, setS]
    refine wpAnyH_done (by kernel_rfl) ?_ _
    clear TZ TY z3 y3
    go_wp2_with fail
    have TW := Lib.hid (HTY.out.keep (Below.refl _ _).drew)
    have GE := Lib.hid ey
    have GC := Lib.hid cy
    have GN := Lib.hid ny
    have KEEP := Lib.hid (show ∀ W', Below (((W.alloc (.cells #[.int .i64 11, .string (str nm), .int .i64 n, .slice (some ac) (cs.length + 1) c3, .slice (some ak) (ks.length + 1) c5] 31)).alloc (.cells #[.int .i64 0, .slice A c.length k] 68)).alloc (.cells #[.int .i64 0, .slice B d.length j] 68)).drew.heap.size (((W.alloc (.cells #[.int .i64 11, .string (str nm), .int .i64 n, .slice (some ac) (cs.length + 1) c3, .slice (some ak) (ks.length + 1) c5] 31)).alloc (.cells #[.int .i64 0, .slice A c.length k] 68)).alloc (.cells #[.int .i64 0, .slice B d.length j] 68)).drew W' →
        (W'.cell? ⟨W.heap.size, 1, none⟩ = some (.string (str nm)) ∧ W'.cell? ⟨W.heap.size, 3, none⟩ = some (.slice (some ac) (cs.length + 1) c3) ∧ W'.cell? ⟨W.heap.size, 4, none⟩ = some (.slice (some ak) (ks.length + 1) c5) ∧ W'.cell? ⟨W.heap.size + 1, 0, none⟩ = some (.int .i64 0) ∧ W'.cell? ⟨W.heap.size + 1, 1, none⟩ = some (.slice A c.length k) ∧
          W'.cell? ⟨W.heap.size + 1 + 1, 0, none⟩ = some (.int .i64 0) ∧ W'.cell? ⟨W.heap.size + 1 + 1, 1, none⟩ = some (.slice B d.length j) ∧ W'.cell? ac = some (.string (str con)) ∧ W'.cell? ak = some (.int .i64 o1) ∧ W'.cell? { block := ak.block, off := ak.off + 1 } = some (.string s1) ∧ W'.cell? { block := ak.block, off := ak.off + 2 } = some (.int .i64 n1) ∧ W'.cell? { block := ak.block, off := ak.off + 3 } = some (.slice A1 m1 k1) ∧ W'.cell? { block := ak.block, off := ak.off + 4 } = some (.slice A2 m2 k2)) from fun W' hb => by
      obtain ⟨_, v1, _, v3, v4⟩ := row5 (box_next hb ey.out)
      obtain ⟨v5, v6⟩ := row2c (box_next hb cy.out)
      obtain ⟨v7, v8⟩ := row2c (box_next hb ny.out)
      have hw := Y3.out.drew.trans (hb.mono Y3.out.size)
      exact ⟨v1, v3, v4, v5, v6, v7, v8, KC.out _ hw, KK.out _ hw⟩)
    refine wp_region_held_drew (S := (fun W' => W'.cell? ⟨W.heap.size, 1, none⟩ = some (.string (str nm)) ∧ W'.cell? ⟨W.heap.size, 3, none⟩ = some (.slice (some ac) (cs.length + 1) c3) ∧ W'.cell? ⟨W.heap.size, 4, none⟩ = some (.slice (some ak) (ks.length + 1) c5) ∧ W'.cell? ⟨W.heap.size + 1, 0, none⟩ = some (.int .i64 0) ∧ W'.cell? ⟨W.heap.size + 1, 1, none⟩ = some (.slice A c.length k) ∧ W'.cell? ⟨W.heap.size + 1 + 1, 0, none⟩ = some (.int .i64 0) ∧ W'.cell? ⟨W.heap.size + 1 + 1, 1, none⟩ = some (.slice B d.length j) ∧ W'.cell? ac = some (.string (str con)) ∧ W'.cell? ak = some (.int .i64 o1) ∧ W'.cell? { block := ak.block, off := ak.off + 1 } = some (.string s1) ∧ W'.cell? { block := ak.block, off := ak.off + 2 } = some (.int .i64 n1) ∧ W'.cell? { block := ak.block, off := ak.off + 3 } = some (.slice A1 m1 k1) ∧ W'.cell? { block := ak.block, off := ak.off + 4 } = some (.slice A2 m2 k2))) (by kernel_rfl) ?_ (fun hHeld => ?_)
    · exact KEEP.out _ (Below.refl _ _).drew
    refine take_now 0 rfl ?_
    try simp only [Act.put, setA, setZ, setS]
    refine take_now 1 rfl ?_
    try simp only [Act.put, setA, setZ, setS]
    refine take_now 2 rfl ?_
    try simp only [Act.put, setA, setZ, setS]
    refine take_now 3 rfl ?_
    try simp only [Act.put, setA, setZ, setS]
    refine take_now 4 rfl ?_
    try simp only [Act.put, setA, setZ, setS]
    refine take_now 5 rfl ?_
    try simp only [Act.put, setA, setZ, setS]
    refine take_now 6 rfl ?_
    try simp only [Act.put, setA, setZ, setS]
    refine take_now 7 rfl ?_
    try simp only [Act.put, setA, setZ, setS]
    refine take_now 9 rfl ?_
    try simp only [Act.put, setA, setZ, setS]
    have ON := Lib.hid (fun Wn (hb : Below W.heap.size W Wn) => on_any (w0 := W) (w := Wn) HD.out HNM.out HCON.out hb (by have := HDL.out; omega))
    refine only_at 8 (by kernel_rfl) rfl (fun K hK => ?_)
    go_simp
    (go_at_call 74
     (with_reducible refine (ON.out _ Y3.out.drew.drew).mono ?_)
     rintro e w1 ⟨⟨C1, k3, rfl, hc1⟩, hb1⟩
     obtain ⟨V1, rfl⟩ : ∃ W, W = w1 := ⟨_, rfl⟩
     have HC1 := Lib.hid (hc1.sub (new_sub _ _) fun _ _ h => h)
     have B1 := Lib.hid ((Below.refl _ _).drew.trans hb1)
     have T1 := Lib.hid ((TW.out.keep (Below.refl _ _).drew).keep hb1)
     have W1 := Lib.hid (Y3.out.drew.drew.trans (hb1.mono Y3.out.drew.drew.size))
     clear hc1 hb1)
    refine hK.out _ _ (KEEP.out _ ?_) (fun hHeld => ?_)
    · (repeat (first | exact Below.refl _ _ | exact B1.out | refine Below.drew ?_ | refine Below.alloc ?_ (by simp) _ | refine Below.setCell ?_ (by simp) _))
    clear hK K
    try simp only [Act.put, setA, setZ, setS]
    have LEN := Lib.hid (show (d ++ [(nm, con)]).length = d.length + 1 by simp)
    have SM := Lib.hid (same_any (w0 := V1) (p := d ++ [(nm, con)]) (q := c) (A := C1) (c := k3) (B := A) (d := k) T1.out (by rw [LEN.out]; exact HC1.out) (HCC.out.under W1.out) (Below.refl _ _))
    rw [LEN.out] at SM
    cases hsame : decide (d ++ [(nm, con)] = c) with
    | false =>
      rw [hsame] at SM
      have HS := Lib.hid hsame
      clear hsame
      refine only_at 10 (by kernel_rfl) rfl (fun K hK => ?_)
      go_simp
      (go_at_call 33
       (with_reducible refine SM.out.mono ?_)
       rintro e w2 ⟨rfl, hb2⟩
       obtain ⟨V2, rfl⟩ : ∃ W, W = w2 := ⟨_, rfl⟩
       have B2 := Lib.hid (B1.out.trans (hb2.mono B1.out.size))
       have W2 := Lib.hid (W1.out.trans (hb2.mono W1.out.size))
       clear hb2)
      refine hK.out _ _ (KEEP.out _ ?_) (fun hHeld => ?_)
      · (repeat (first | exact Below.refl _ _ | exact B2.out | refine Below.drew ?_ | refine Below.alloc ?_ (by simp) _ | refine Below.setCell ?_ (by simp) _))
      clear hK K
      try simp only [Act.put, setA, setZ, setS]
      refine take_now 11 rfl ?_
      try simp only [Act.put, setA, setZ, setS]
      refine skip_now 12 rfl ?_
      try simp only [Act.put, setA, setZ, setS]
      refine skip_now 13 rfl ?_
      try simp only [Act.put, setA, setZ, setS]
      refine skip_now 14 rfl ?_
      try simp only [Act.put, setA, setZ, setS]
      refine skip_now 15 rfl ?_
      try simp only [Act.put, setA, setZ, setS]
      refine skip_now 16 rfl ?_
      try simp only [Act.put, setA, setZ, setS]
      refine skip_now 17 rfl ?_
      try simp only [Act.put, setA, setZ, setS]
      refine skip_now 18 rfl ?_
      try simp only [Act.put, setA, setZ, setS]
      refine take_now 19 rfl ?_
      try simp only [Act.put, setA, setZ, setS]
      refine take_now 20 rfl ?_
      try simp only [Act.put, setA, setZ, setS]
      refine wpAnyH_done (by kernel_rfl) ?_ _
      go_wp2_with fail
      go_ret
      exact ⟨ret_bool (by rw [HS.out]; rfl), W2.out⟩
    | true =>
      rw [hsame] at SM
      have HS := Lib.hid hsame
      clear hsame
      refine only_at 10 (by kernel_rfl) rfl (fun K hK => ?_)
      go_simp
      (go_at_call 33
       (with_reducible refine SM.out.mono ?_)
       rintro e w2 ⟨rfl, hb2⟩
       obtain ⟨V2, rfl⟩ : ∃ W, W = w2 := ⟨_, rfl⟩
       have B2 := Lib.hid (B1.out.trans (hb2.mono B1.out.size))
       have W2 := Lib.hid (W1.out.trans (hb2.mono W1.out.size))
       clear hb2)
      refine hK.out _ _ (KEEP.out _ ?_) (fun hHeld => ?_)
      · (repeat (first | exact Below.refl _ _ | exact B2.out | refine Below.drew ?_ | refine Below.alloc ?_ (by simp) _ | refine Below.setCell ?_ (by simp) _))
      clear hK K
      try simp only [Act.put, setA, setZ, setS]
      refine take_now 11 rfl ?_
      try simp only [Act.put, setA, setZ, setS]
      refine take_now 12 rfl ?_
      try simp only [Act.put, setA, setZ, setS]
      refine take_now 13 rfl ?_
      try simp only [Act.put, setA, setZ, setS]
      refine take_now 14 rfl ?_
      try simp only [Act.put, setA, setZ, setS]
      refine take_now 15 rfl ?_
      try simp only [Act.put, setA, setZ, setS]
      refine take_now 16 rfl ?_
      try simp only [Act.put, setA, setZ, setS]
      refine take_now 17 rfl ?_
      try simp only [Act.put, setA, setZ, setS]
      have FF := Lib.hid (HFF.out V2 (HEE.out.under W2.out) _ (HX0.out.under W2.out) B j d (HD.out.under W2.out))
      refine only_at 18 (by kernel_rfl) rfl (fun K hK => ?_)
      go_simp
      (go_at_call 18
       (with_reducible refine FF.out.mono ?_)
       rintro e w4 ⟨rfl, hb4⟩
       obtain ⟨V4, rfl⟩ : ∃ W, W = w4 := ⟨_, rfl⟩
       have B4 := Lib.hid (B2.out.trans (hb4.mono B2.out.size))
       have W4 := Lib.hid (W2.out.trans (hb4.mono W2.out.size))
       clear hb4)
      refine hK.out _ _ (KEEP.out _ ?_) (fun hHeld => ?_)
      · (repeat (first | exact Below.refl _ _ | exact B4.out | refine Below.drew ?_ | refine Below.alloc ?_ (by simp) _ | refine Below.setCell ?_ (by simp) _))
      clear hK K
      try simp only [Act.put, setA, setZ, setS]
      refine take_now 19 rfl ?_
      try simp only [Act.put, setA, setZ, setS]
      refine take_now 20 rfl ?_
      try simp only [Act.put, setA, setZ, setS]
      refine wpAnyH_done (by kernel_rfl) ?_ _
      go_wp2_with fail
      go_ret
      exact ⟨ret_bool (by rw [HS.out]; rfl), W4.out⟩
end Go.Proofs.YtmceablhndldiaaGreatDoor
