/-
  clocks: fits, where a variable stands; lists of kids; numbers and the like.
-/
import Derived.Test.YtmceablhndldiaaGreatDoorClkEnv
namespace Go.Proofs.YtmceablhndldiaaGreatDoor
open Go.RowKit

variable {T m R : Nat} {l : List (Tx × Value)} {vs : List Vr}
theorem zeroC (w : World) : (zeroValue 68).run Tryz.prog w = .ok (.agg #[.int .i64 0, .slice none 0 0]) w := by kernel_rfl
theorem EnvC.look {W : World} (h : EnvC T m R l vs W) {s : Tx} (hs : s.length ≤ maxLen) :
    (∃ A k d, lookV vs s = some d ∧ ClkAt W (.slice A d.length k) d ∧ d.length ≤ 2097151 ∧ ∀ W', Below W.heap.size W W' → (Instr.lookup 70 (.map (some m)) (.string (str s)) true).run Tryz.prog W' = .ok (.tuple #[.agg #[.int .i64 0, .slice A d.length k], .bool true]) W') ∨
    (lookV vs s = none ∧ ∀ W', Below W.heap.size W W' → (Instr.lookup 70 (.map (some m)) (.string (str s)) true).run Tryz.prog W' = .ok (.tuple #[.agg #[.int .i64 0, .slice none 0 0], .bool false]) W') := by
  rcases h.rel s with ⟨h1, h2⟩ | ⟨A, k, d, h1, h2, h3, h4⟩
  · exact .inr ⟨h2, fun W' hb => (h.map.under hb).look_no Tryz.underlying70 (zeroC W') hs h1⟩
  · exact .inl ⟨A, k, d, h2, h3, h4, fun W' hb => (h.map.under hb).look_yes Tryz.underlying70 h1⟩
set_option maxRecDepth 100000 in
set_option maxHeartbeats 1000000 in
theorem fits_var {W : World} (hE : EnvC T m R l vs W) {nm : Tx} {n : Int} {cs : List Tx} {ks : List Ex} {L : List Value} (hx : ExAt W L (.mk 4 nm n cs ks)) {A : Option Addr} {k : Nat} {c : Clk} (hc : ClkAt W (.slice A c.length k) c) :
    Calls Tryz.prog 18 #[.pointer (some ⟨T, 0, none⟩), .agg L.toArray, .agg #[.int .i64 0, .slice A c.length k]] W (BoolPost (fitsVar (lookV vs nm) c) W) := by
  cases hx with
  | @mk _ _ _ _ _ cv A5 c5 C hop hnm hn hcs hl hcc hk hxx =>
    obtain ⟨A3, c3, rfl, _⟩ := hcs
    have b2 := ((Below.refl W.heap.size W).alloc (Nat.le_refl _) (.cells #[.int .i64 4, .string (str nm), .int .i64 n, .slice A3 cs.length c3, .slice A5 ks.length c5] 31)).alloc (by simp) (.cells #[.int .i64 0, .slice A c.length k] 68)
    have HB2 := Lib.hid b2
    have HE2 := Lib.hid (hE.under b2)
    have HCC := Lib.hid hc
    have e0 := heap_alloc_keep (o := .cells #[.int .i64 0, .slice A c.length k] 68) (heap_alloc_new W (.cells #[.int .i64 4, .string (str nm), .int .i64 n, .slice A3 cs.length c3, .slice A5 ks.length c5] 31))
    have c0 := alloc_at (w := W.alloc (.cells #[.int .i64 4, .string (str nm), .int .i64 n, .slice A3 cs.length c3, .slice A5 ks.length c5] 31)) (o := .cells #[.int .i64 0, .slice A c.length k] 68) (n := W.heap.size + 1) (by simp)
    have E0 := Lib.hid e0
    have C0 := Lib.hid c0
    obtain ⟨p0, p1, p2, p3, p4⟩ := row5 e0
    obtain ⟨q0, q1⟩ := row2c c0
    obtain ⟨t0, t1⟩ := row2c (hE.under b2).tim.box
    rcases hE.look hnm with ⟨B, j, d, h1, h2, h3, hrun⟩ | ⟨h1, hrun⟩
    · have HD := Lib.hid h2
      have HRUN := Lib.hid hrun
      have HQ := Lib.hid (show fitsVar (lookV vs nm) c = decide (d = c) by rw [h1]; rfl)
      rw [HQ.out]
      clear hop hnm hn hl hcc hk hxx b2 hE hc e0 c0 h1 h2 h3 hrun
      go_enter Tryz.func18, Tryz.ntmps18
      go_wp2_with fail
      have hrun0 := HRUN.out _ HB2.out.drew
      refine wp_region_held_drew (S := (fun Wx => Wx.cell? ⟨T, 0, none⟩ = some (.map (some m)) ∧ Wx.cell? ⟨W.heap.size, 1, none⟩ = some (.string (str nm)) ∧ (Instr.lookup 70 (.map (some m)) (.string (str nm)) true).run Tryz.prog Wx = .ok (.tuple #[.agg #[.int .i64 0, .slice B d.length j], .bool true]) Wx)) (by kernel_rfl) ?_ (fun hHeld => ?_)
      · (try dsimp only); go_keep
      refine take_now 0 rfl ?_
      try simp only [Act.put, setA, setZ, setS]
      refine take_now 1 rfl ?_
      try simp only [Act.put, setA, setZ, setS]
      refine take_now 2 rfl ?_
      try simp only [Act.put, setA, setZ, setS]
      refine take_now 3 rfl ?_
      try simp only [Act.put, setA, setZ, setS]
      refine take_now 4 rfl ?_
      try simp only [Act.put, setA, setZ, setS]
      refine take_now 5 rfl ?_
      try simp only [Act.put, setA, setZ, setS]
      refine take_now 6 rfl ?_
      try simp only [Act.put, setA, setZ, setS]
      refine take_now 7 rfl ?_
      try simp only [Act.put, setA, setZ, setS]
      refine take_now 8 rfl ?_
      try simp only [Act.put, setA, setZ, setS]
      refine take_now 9 rfl ?_
      try simp only [Act.put, setA, setZ, setS]
      refine only_at 10 (by kernel_rfl) rfl (fun K hK => ?_)
      go_simp
      have z3 := HB2.out.alloc HB2.out.size (.cells #[.int .i64 0, .slice none 0 0] 68)
      have y3 := HB2.out.alloc HB2.out.size (.cells #[.int .i64 0, .slice B d.length j] 68)
      have Z3 := Lib.hid z3
      have Y3 := Lib.hid y3
      have ez := Lib.hid (heap_alloc_keep (o := .cells #[.int .i64 0, .slice none 0 0] 68) E0.out)
      have ey := Lib.hid (heap_alloc_keep (o := .cells #[.int .i64 0, .slice B d.length j] 68) E0.out)
      have cy := Lib.hid (heap_alloc_keep (o := .cells #[.int .i64 0, .slice B d.length j] 68) C0.out)
      have ny := Lib.hid (alloc_at (w := (W.alloc (.cells #[.int .i64 4, .string (str nm), .int .i64 n, .slice A3 cs.length c3, .slice A5 ks.length c5] 31)).alloc (.cells #[.int .i64 0, .slice A c.length k] 68)) (o := .cells #[.int .i64 0, .slice B d.length j] 68) (n := W.heap.size + 1 + 1) (by simp))
      have TZ := HE2.out.tim.keep ((Below.refl _ _).alloc (Nat.le_refl _) (.cells #[.int .i64 0, .slice none 0 0] 68))
      have TY := HE2.out.tim.keep ((Below.refl _ _).alloc (Nat.le_refl _) (.cells #[.int .i64 0, .slice B d.length j] 68))
      have HTY := Lib.hid TY
      obtain ⟨t2, t3⟩ := row2c TZ.box
      obtain ⟨t4, t5⟩ := row2c TY.box
      obtain ⟨_, x1, _, _, _⟩ := row5 ez.out
      obtain ⟨_, x2, _, _, _⟩ := row5 ey.out
      obtain ⟨g0, g1⟩ := row2c cy.out
      obtain ⟨m0, m1⟩ := row2c ny.out
      refine hK.out _ _ ⟨t2, x1, HRUN.out _ Z3.out.drew⟩ (fun hHeld => ?_)
      clear hK K
      try simp only [Act.put, setA, setZ, setS]
      refine only_at 11 (by kernel_rfl) rfl (fun K hK => ?_)
      go_simp
      refine hK.out _ _ ⟨t4, x2, HRUN.out _ Y3.out.drew⟩ (fun hHeld => ?_)
      clear hK K
      try simp only [Act.put, setA, setZ, setS]
      refine take_now 12 rfl ?_
      try simp only [Act.put, setA, setZ, setS]
      refine wpAnyH_done (by kernel_rfl) ?_ _
      clear TZ TY z3 y3
      go_wp2_with (first
        | (go_at_call 33
           (with_reducible refine (same_any (w0 := W) (HTY.out.keep (Below.refl _ _).drew) HD.out HCC.out Y3.out.drew).mono ?_)
           rintro e w1 ⟨rfl, hb1⟩))
      go_ret
      exact ⟨rfl, Y3.out.drew.trans (hb1.mono Y3.out.size)⟩
    · have HRUN := Lib.hid hrun
      have HQ := Lib.hid (show fitsVar (lookV vs nm) c = false by rw [h1]; rfl)
      rw [HQ.out]
      clear hop hnm hn hl hcc hk hxx b2 hE hc e0 c0 h1 hrun
      go_enter Tryz.func18, Tryz.ntmps18
      go_wp2_with fail
      have hrun0 := HRUN.out _ HB2.out.drew
      refine wp_region_held_drew (S := (fun Wx => Wx.cell? ⟨T, 0, none⟩ = some (.map (some m)) ∧ Wx.cell? ⟨W.heap.size, 1, none⟩ = some (.string (str nm)) ∧ (Instr.lookup 70 (.map (some m)) (.string (str nm)) true).run Tryz.prog Wx = .ok (.tuple #[.agg #[.int .i64 0, .slice none 0 0], .bool false]) Wx)) (by kernel_rfl) ?_ (fun hHeld => ?_)
      · (try dsimp only); go_keep
      refine take_now 0 rfl ?_
      try simp only [Act.put, setA, setZ, setS]
      refine take_now 1 rfl ?_
      try simp only [Act.put, setA, setZ, setS]
      refine take_now 2 rfl ?_
      try simp only [Act.put, setA, setZ, setS]
      refine take_now 3 rfl ?_
      try simp only [Act.put, setA, setZ, setS]
      refine take_now 4 rfl ?_
      try simp only [Act.put, setA, setZ, setS]
      refine take_now 5 rfl ?_
      try simp only [Act.put, setA, setZ, setS]
      refine take_now 6 rfl ?_
      try simp only [Act.put, setA, setZ, setS]
      refine take_now 7 rfl ?_
      try simp only [Act.put, setA, setZ, setS]
      refine take_now 8 rfl ?_
      try simp only [Act.put, setA, setZ, setS]
      refine take_now 9 rfl ?_
      try simp only [Act.put, setA, setZ, setS]
      refine only_at 10 (by kernel_rfl) rfl (fun K hK => ?_)
      go_simp
      have z3 := HB2.out.alloc HB2.out.size (.cells #[.int .i64 0, .slice none 0 0] 68)
      have y3 := HB2.out.alloc HB2.out.size (.cells #[.int .i64 0, .slice none 0 0] 68)
      have Z3 := Lib.hid z3
      have Y3 := Lib.hid y3
      have ez := Lib.hid (heap_alloc_keep (o := .cells #[.int .i64 0, .slice none 0 0] 68) E0.out)
      have ey := Lib.hid (heap_alloc_keep (o := .cells #[.int .i64 0, .slice none 0 0] 68) E0.out)
      have cy := Lib.hid (heap_alloc_keep (o := .cells #[.int .i64 0, .slice none 0 0] 68) C0.out)
      have ny := Lib.hid (alloc_at (w := (W.alloc (.cells #[.int .i64 4, .string (str nm), .int .i64 n, .slice A3 cs.length c3, .slice A5 ks.length c5] 31)).alloc (.cells #[.int .i64 0, .slice A c.length k] 68)) (o := .cells #[.int .i64 0, .slice none 0 0] 68) (n := W.heap.size + 1 + 1) (by simp))
      have TZ := HE2.out.tim.keep ((Below.refl _ _).alloc (Nat.le_refl _) (.cells #[.int .i64 0, .slice none 0 0] 68))
      have TY := HE2.out.tim.keep ((Below.refl _ _).alloc (Nat.le_refl _) (.cells #[.int .i64 0, .slice none 0 0] 68))
      have HTY := Lib.hid TY
      obtain ⟨t2, t3⟩ := row2c TZ.box
      obtain ⟨t4, t5⟩ := row2c TY.box
      obtain ⟨_, x1, _, _, _⟩ := row5 ez.out
      obtain ⟨_, x2, _, _, _⟩ := row5 ey.out
      obtain ⟨g0, g1⟩ := row2c cy.out
      obtain ⟨m0, m1⟩ := row2c ny.out
      refine hK.out _ _ ⟨t2, x1, HRUN.out _ Z3.out.drew⟩ (fun hHeld => ?_)
      clear hK K
      try simp only [Act.put, setA, setZ, setS]
      refine only_at 11 (by kernel_rfl) rfl (fun K hK => ?_)
      go_simp
      refine hK.out _ _ ⟨t4, x2, HRUN.out _ Y3.out.drew⟩ (fun hHeld => ?_)
      clear hK K
      try simp only [Act.put, setA, setZ, setS]
      refine take_now 12 rfl ?_
      try simp only [Act.put, setA, setZ, setS]
      refine wpAnyH_done (by kernel_rfl) ?_ _
      clear TZ TY z3 y3
      go_wp2_with fail
      go_ret
      exact ⟨rfl, Y3.out.drew⟩
end Go.Proofs.YtmceablhndldiaaGreatDoor
