/-
  The look of the laws of layer 6 answers true: two runs, and Show by its contract.
-/
import Derived.Test.YtaimagfdjbedeaaGreatDoorSugRun
import Derived.Test.YtaimagfdjbedeaaGreatDoorTreeShow
import Derived.Laws.StructEq
namespace Go.Proofs.YtaimagfdjbedeaaGreatDoor
open Go.RowKit

theorem KeptR.below {lo hi : Nat} {w w' : World} (h : KeptR lo hi w w') (hl : lo ≤ w.heap.size) : Below lo w w' := ⟨h.os, h.tape, h.output, h.size, fun b hb => h.old b (by omega) (.inl hb)⟩
theorem two_box {w : World} {A C : Obj} : ((w.alloc A).alloc C).heap[w.heap.size]? = some A ∧ ((w.alloc A).alloc C).heap[w.heap.size + 1]? = some C := ⟨alloc_below (heap_alloc_new w A), by have := heap_alloc_new (w.alloc A) C; simpa using this⟩
theorem eq_flt6 (a b c : Int) (w : World) : (binOp .eql 37 (.agg #[.int .i64 a, .int .i64 b, .int .i64 c]) (.agg #[.int .i64 a, .int .i64 b, .int .i64 c])).run Tryz.prog w = .ok (.bool true) w := by
  rw [run_eql_struct, run_equalIn_agg w _ _ _ _ (by kernel_rfl) (by kernel_rfl)]
  simp [Program.fieldsOf, Tryz.underlying37, Op.eqFields, part, go_sem, Tryz.underlying3, Tryz.underlying35]
def LivP (w : World) (e : Ending) (w' : World) : Prop := e = .returned (.bool true) ∧ Below w.heap.size w w'
set_option maxRecDepth 100000 in
set_option maxHeartbeats 2000000 in
theorem lives6_any {w : World} (htab : Tab w) : Calls Tryz.prog 4 #[] w (LivP w) := by
  obtain ⟨en, nd, c, h, l, nq, eq, c', h', l', x, e1, e2, e3, hsx, i1, i2, i3⟩ := check6_parts
  have HTB := Lib.hid htab
  have HSX := Lib.hid hsx
  have HI := Lib.hid (And.intro i1 (And.intro i2 i3))
  have HE2 := Lib.hid e2
  have HE3 := Lib.hid e3
  have heq0 := eq_flt6 0 0 0
  have HP := Lib.hid (fun (xs : Array Value) (hx : Sx.VRs (fun _ => none) [.str src6] xs.toList) (W : World) => run_first e1 hx W)
  clear htab hsx i1 i2 i3 e1 e2 e3
  go_enter Tryz.func4, Tryz.ntmps4
  go_wp2_with (first
    | (go_at_call 10
       (with_reducible refine (HP.out _ ?hx _).mono ?_)
       case hx => exact Sx.VRs.cons (by simp only [Sx.VR]; exact ⟨_, rfl, by kernel_rfl⟩) (Sx.VRs.nil _)
       intro e w1 h1
       obtain ⟨v1, ρ, rfl, hV, hR, hF, hN, hb⟩ := h1
       obtain ⟨u1, u2, rfl, k1, k2⟩ := vr_pair hV
       obtain ⟨A1, n1, c1, rfl⟩ := vr_slice HI.out.1 k1
       obtain ⟨A2, n2, c2, rfl⟩ := vr_slice HI.out.2.1 k2
       obtain ⟨V1, rfl⟩ : ∃ W, W = w1 := ⟨_, rfl⟩
       obtain ⟨b1, b2⟩ := two_box (w := V1) (A := .cells #[.slice A1 n1 c1, .slice A2 n2 c2] 34) (C := .cells #[.int .i64 0, .int .i64 0, .int .i64 0] 37)
       have HV1 := Lib.hid (((Below.refl V1.heap.size V1).alloc (Nat.le_refl _) (.cells #[.slice A1 n1 c1, .slice A2 n2 c2] 34)).alloc (by simp) (.cells #[.int .i64 0, .int .i64 0, .int .i64 0] 37))
       have HB1 := Lib.hid hb
       have HR1 := Lib.hid (And.intro (Sx.Post.of_below (c := 0) hR HV1.out).rel (And.intro hF hN))
       have HA1 := Lib.hid (Sx.VRs.cons (show Sx.VR ρ (.agg [en, nd]) (.agg #[.slice A1 n1 c1, .slice A2 n2 c2]) by simp only [Sx.VR]; exact ⟨_, rfl, Sx.VRs.cons k1 (Sx.VRs.cons k2 (Sx.VRs.nil ρ))⟩) (Sx.VRs.nil ρ))
       have B2 := Lib.hid b2
       obtain ⟨x0, x1⟩ := row2 b1
       obtain ⟨y0, y1, y2⟩ := row3 b2
       clear hV hR hF hN hb k1 k2 b1 b2)
    | (go_at_call 11
       (with_reducible refine (run_next HE2.out HR1.out.1 HA1.out HR1.out.2.1 HR1.out.2.2).mono ?_)
       intro e w2 h2
       obtain ⟨v2, ρ2, rfl, hV, hR, hK⟩ := h2
       obtain ⟨u3, u4, rfl, k1, k2⟩ := vr_pair hV
       obtain ⟨b, o, k, d, o2, m, L, rfl, g1, g2, g3⟩ := look6_ok hR k2 HE3.out
       obtain ⟨A3, n3, c3, rfl⟩ := vr_slice HI.out.2.2 k1
       obtain ⟨V2, rfl⟩ : ∃ W, W = w2 := ⟨_, rfl⟩
       obtain ⟨p1, p2⟩ := two_box (w := V2) (A := .cells #[.slice A3 n3 c3, .slice (some ⟨b, o, none⟩) 1 k] 34) (C := .cells #[.int .i64 0, .int .i64 0, .int .i64 0] 37)
       have HV2 := Lib.hid (((Below.refl V2.heap.size V2).alloc (Nat.le_refl _) (.cells #[.slice A3 n3 c3, .slice (some ⟨b, o, none⟩) 1 k] 34)).alloc (by simp) (.cells #[.int .i64 0, .int .i64 0, .int .i64 0] 37))
       have q1 := lt_of_heap B2.out
       have B3 := Lib.hid (box_next HV2.out ((hK.old _ q1 (.inr (by omega))).trans B2.out))
       have HB2 := Lib.hid (((HB1.out.trans (HV1.out.mono HB1.out.size)).trans (hK.below (Nat.le_trans HB1.out.size HV1.out.size))).trans (HV2.out.mono (Nat.le_trans HB1.out.size (Nat.le_trans HV1.out.size hK.size))))
       have HX := Lib.hid (g3.under HV2.out)
       have HC := Lib.hid (g2.under HV2.out)
       have f4 := (HV2.out.cell (p := ⟨b, o + 4, none⟩) (World.block_lt_of_cell? _ _ g1)).trans g1
       have HT2 := Lib.hid (HTB.out.under HB2.out)
       obtain ⟨o1, s1, n1, A4, m4, k4, A5, m5, k5, rfl⟩ := g3.shape
       obtain ⟨x0, x1⟩ := row2 p1
       obtain ⟨y0, y1, y2⟩ := row3 p2
       obtain ⟨z0, z1, z2⟩ := row3 B3.out
       have c0 := HC.out 0 _ rfl
       have c1 := HC.out 1 _ rfl
       have c2 := HC.out 2 _ rfl
       have c3 := HC.out 3 _ rfl
       have c4 := HC.out 4 _ rfl
       simp only [Sx.addr_add, Nat.add_zero] at c0 c1 c2 c3 c4
       clear hV hR hK k1 k2 g1 g2 g3 p1 p2)
    | (go_at_call 12
       (with_reducible refine (show_any HT2.out HX.out HSX.out.1 (Below.refl _ _)).mono ?_)
       rintro e w3 ⟨rfl, hb3⟩
       rw [HSX.out.2]
       obtain ⟨V3, rfl⟩ : ∃ W, W = w3 := ⟨_, rfl⟩
       have HB3 := Lib.hid (HB2.out.trans (hb3.mono HB2.out.size))
       clear hb3))
  go_ret
  exact ⟨ret_bool (by kernel_rfl), HB3.out⟩
end Go.Proofs.YtaimagfdjbedeaaGreatDoor
