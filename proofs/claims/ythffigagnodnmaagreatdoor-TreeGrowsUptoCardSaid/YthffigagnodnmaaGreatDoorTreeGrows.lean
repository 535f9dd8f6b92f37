/-
  TreeGrows' walk.
-/
import Derived.Test.YthffigagnodnmaaGreatDoorTreeLives
import Derived.Test.YthffigagnodnmaaGreatDoorTreeAppN
import Derived.Deep.RegionLaw
import Derived.Deep.RegionWith
import Derived.Deep.RegionHeld3
import Derived.Deep.Cut
namespace Go.Proofs.YthffigagnodnmaaGreatDoor
open Go.RowKit

theorem row5c {w : World} {g : Nat} {c0 c1 c2 c3 c4 : Value} {T : TypeId} (h : w.heap[g]? = some (.cells #[c0, c1, c2, c3, c4] T (0, 0))) : w.cell? ⟨g, 4, none⟩ = some c4 := (row5 h).2.2.2.2
/-- three rows stand, what lay below as it lay -/
def Rows3 (w wq : World) (R1 R2 R3 : Array Value) (Z : World) : Prop :=
  Below wq.heap.size wq Z ∧ Z.heap[w.heap.size]? = some (.cells R1 25 (0, 0)) ∧ Z.heap[w.heap.size + 1]? = some (.cells R2 25 (0, 0)) ∧ Z.heap[wq.heap.size]? = some (.cells R3 25 (0, 0)) ∧ wq.heap.size + 1 ≤ Z.heap.size
section
variable {w wq Z Z' : World} {R1 R2 R3 : Array Value}
theorem Rows3.drew (h : Rows3 w wq R1 R2 R3 Z) : Rows3 w wq R1 R2 R3 Z.drew := ⟨h.1.drew, h.2.1, h.2.2.1, h.2.2.2.1, h.2.2.2.2⟩
theorem Rows3.alloc (h : Rows3 w wq R1 R2 R3 Z) (o : Obj) : Rows3 w wq R1 R2 R3 (Z.alloc o) :=
  ⟨h.1.alloc h.1.size o, alloc_below h.2.1, alloc_below h.2.2.1, alloc_below h.2.2.2.1, by have := h.2.2.2.2; simp; omega⟩
theorem Rows3.app {w0 : World} {B : Nat} {xs : List Ex} {v v' : Value} (h : Rows3 w wq R1 R2 R3 Z) (hlt : w.heap.size + 1 < wq.heap.size) (hB : B = wq.heap.size + 1) (hv : ∀ g, v.ownBlock = some g → B ≤ g) (ha : AppN w0 B xs v Z v' Z') : Rows3 w wq R1 R2 R3 Z' := by
  obtain ⟨h1, h2, h3, h4, h5⟩ := h
  obtain ⟨_, a2, a3⟩ := ha
  refine ⟨h1.trans (a2.mono (by omega)), a3 _ _ h2 fun e => ?_, a3 _ _ h3 fun e => ?_, a3 _ _ h4 fun e => ?_, Nat.le_trans h5 a2.size⟩
  all_goals have := hv _ e; omega
/-- three boxes stand: the expression, the kid, the expression with a kid more -/
def Box3 (w : World) (q : Nat) (R1 R2 R3 : Array Value) (Z : World) : Prop :=
  Below w.heap.size w Z ∧ Z.heap[w.heap.size]? = some (.cells R1 25 (0, 0)) ∧ Z.heap[w.heap.size + 1]? = some (.cells R2 25 (0, 0)) ∧ Z.heap[q]? = some (.cells R3 25 (0, 0))
theorem Box3.drew {q : Nat} (h : Box3 w q R1 R2 R3 Z) : Box3 w q R1 R2 R3 Z.drew := ⟨h.1.drew, h.2.1, h.2.2.1, h.2.2.2⟩
theorem Box3.below {q : Nat} (h : Box3 w q R1 R2 R3 Z) : Below w.heap.size w Z := h.1
theorem Box3.call {q : Nat} (h : Box3 w q R1 R2 R3 Z) (hb : Below Z.heap.size Z Z') : Box3 w q R1 R2 R3 Z' := ⟨h.1.trans (hb.mono h.1.size), box_next hb h.2.1, box_next hb h.2.2.1, box_next hb h.2.2.2⟩
theorem Box3.cells {q : Nat} {a0 a1 a2 a3 a4 b0 b1 b2 b3 b4 c0 c1 c2 c3 c4 : Value} (h : Box3 w q #[a0, a1, a2, a3, a4] #[b0, b1, b2, b3, b4] #[c0, c1, c2, c3, c4] Z) :
    (Z.cell? ⟨w.heap.size, 0, none⟩ = some a0 ∧ Z.cell? ⟨w.heap.size, 1, none⟩ = some a1 ∧ Z.cell? ⟨w.heap.size, 2, none⟩ = some a2 ∧ Z.cell? ⟨w.heap.size, 3, none⟩ = some a3 ∧ Z.cell? ⟨w.heap.size, 4, none⟩ = some a4) ∧
    (Z.cell? ⟨w.heap.size + 1, 0, none⟩ = some b0 ∧ Z.cell? ⟨w.heap.size + 1, 1, none⟩ = some b1 ∧ Z.cell? ⟨w.heap.size + 1, 2, none⟩ = some b2 ∧ Z.cell? ⟨w.heap.size + 1, 3, none⟩ = some b3 ∧ Z.cell? ⟨w.heap.size + 1, 4, none⟩ = some b4) ∧
    (Z.cell? ⟨q, 0, none⟩ = some c0 ∧ Z.cell? ⟨q, 1, none⟩ = some c1 ∧ Z.cell? ⟨q, 2, none⟩ = some c2 ∧ Z.cell? ⟨q, 3, none⟩ = some c3 ∧ Z.cell? ⟨q, 4, none⟩ = some c4) := ⟨row5 h.2.1, row5 h.2.2.1, row5 h.2.2.2⟩
/-- behind the store of the longer slice -/
theorem grows_done {q B : Nat} {op n : Int} {nm : Tx} {cs : List Tx} {ks : List Ex} {y : Ex} {sv kv v' : Value} (hx : ExAt w [.int .i64 op, .string (str nm), .int .i64 n, sv, kv] (.mk op nm n cs ks))
    (h : Rows3 w wq R1 R2 #[.int .i64 op, .string (str nm), .int .i64 n, sv, kv] Z) (hwq : Below w.heap.size w wq) (hlt : w.heap.size + 1 < wq.heap.size) (hq : q = wq.heap.size) (hB : B = wq.heap.size + 1) (ho : OwnE w B Z v' (ks ++ [y])) {Z' : World} (hZ : Z' = Z.setCell ⟨wq.heap.size, 4, none⟩ v') :
    Box3 w q R1 R2 #[.int .i64 op, .string (str nm), .int .i64 n, sv, v'] Z' ∧ ExAt Z' [.int .i64 op, .string (str nm), .int .i64 n, sv, v'] (.mk op nm n cs (ks ++ [y])) := by
  subst hq hB
  obtain ⟨h1, h2, h3, h4, h5⟩ := h
  have hBZ : Below w.heap.size w Z := hwq.trans (h1.mono hwq.size)
  have hBZ' : Below w.heap.size w Z' := by rw [hZ]; exact hBZ.setCell (p := ⟨wq.heap.size, 4, none⟩) (by simp; omega) _
  have hg : Z.grownBy Z' (some wq.heap.size) := by rw [hZ]; exact ⟨rfl, rfl, rfl, by simp [World.setCell], fun k _ hk => Below.heap_setCell _ _ _ _ (fun e => hk (by simp [e]))⟩
  obtain ⟨ao, cap, hv, hown⟩ := ho.form
  have ho' : OwnE w (wq.heap.size + 1) Z' v' (ks ++ [y]) := ho.grown fun Ls hl => hl.kept hg (by
    cases hb : v'.ownBlock with
    | none => exact .inl rfl
    | some g => exact .inr (fun e => by have := hown g hb; cases e; omega))
  refine ⟨⟨hBZ', ?_, ?_, ?_⟩, ?_⟩
  · rw [hZ, Below.heap_setCell _ _ _ _ (by simp; omega)]; exact h2
  · rw [hZ, Below.heap_setCell _ _ _ _ (by simp; omega)]; exact h3
  · rw [hZ]
    have := heap_setCell_same Z wq.heap.size 4 _ _ v' h4
    simpa using this
  · obtain ⟨cv, kv', e, hop, hnm, hn, hcs, _⟩ := hx.open_
    injection e with _ e
    injection e with _ e
    injection e with _ e
    injection e with e3 _
    subst e3
    exact ex_node hop hn hnm (hcs.under hBZ') (ho'.slice hBZ')
/-- what stands behind the longer slice's store -/
def GrowsCut (w : World) (q : Nat) (R1 R2 : Array Value) (op n : Int) (nm : Tx) (cs : List Tx) (ks : List Ex) (y : Ex) (sv : Value) (Z : World) : Prop :=
  ∃ ao2 cap2, Box3 w q R1 R2 #[.int .i64 op, .string (str nm), .int .i64 n, sv, .slice ao2 (ks.length + 1) cap2] Z ∧ ExAt Z [.int .i64 op, .string (str nm), .int .i64 n, sv, .slice ao2 (ks.length + 1) cap2] (.mk op nm n cs (ks ++ [y]))
theorem own_nil : (Value.slice none 0 0).ownBlock = none := by simp [Value.ownBlock]
end
section
variable {ops : Array Oper} {o : Oper} {a : Act} {w wq W : World} {K : Act → World → Prop} {Q : Exit → Act → World → Prop} {E : Prop} {R1 R2 R3 : Array Value} {ks : List Ex}
theorem step_first {Z : World} (_ : Rows3 w wq R1 R2 R3 Z) {A : Option Addr} {c : Nat} (hg : o.guard = none) (s x : Operand) (hop : o.op = .call { callee := .builtin .append, args := #[s, x], argTypes := #[23, 23] })
    (hs : a.eval s = .slice none 0 0) (hx : a.eval x = .slice A ks.length c) (hS : SliceAt w (ExAt w) (.slice A ks.length c) ks) (hwq : Below w.heap.size w wq) (hl2 : w.heap.size + 1 < wq.heap.size) (hl : ks.length ≤ 2097152) (hR : Rows3 w wq R1 R2 R3 W)
    (hK : ∀ ao cap w', Rows3 w wq R1 R2 R3 w' → OwnE w (wq.heap.size + 1) w' (.slice ao ks.length cap) ks → (∀ (g : Nat) (o : Obj), W.heap[g]? = some o → w'.heap[g]? = some o) → K (a.put o.dst (.slice ao ks.length cap)) w') :
    if Region.wanted o (yielded ops a.tmps) = true then Oper.wp Tryz.prog o a W K Q else E := by
  refine step_app hg s x hop (w0 := w) (B := wq.heap.size + 1) (xs := []) (ys := ks) hs hx (OwnE.nil _ _ _) (hS.mono (hwq.trans (hR.1.mono hwq.size)) (fun _ _ h => h)) (by simp; omega) hR.2.2.2.2 ?_
  intro ao cap w' ha
  have := hK ao cap w' (hR.app hl2 rfl (fun g hg => by rw [own_nil] at hg; cases hg) ha) (by simpa using ha.1) (fun g o h => ha.2.2 g o h (by rw [own_nil]; exact fun e => by cases e))
  simpa using this
theorem step_second {Z : World} (_ : Rows3 w wq R1 R2 R3 Z) {ao : Option Addr} {cap N : Nat} {y : Ex} {M : List Value} {cN : Array Value} {T : TypeId} {fz : Nat × Nat} (hg : o.guard = none) (s x : Operand) (hop : o.op = .call { callee := .builtin .append, args := #[s, x], argTypes := #[23, 23] })
    (hs : a.eval s = .slice ao ks.length cap) (hx : a.eval x = .slice (some ⟨N, 0, none⟩) 1 1) (hO : OwnE w (wq.heap.size + 1) W (.slice ao ks.length cap) ks) (hN : W.heap[N]? = some (.cells cN T fz)) (hM : cN.toList = M) (hy : ExAt w M y)
    (hl2 : w.heap.size + 1 < wq.heap.size) (hl : ks.length ≤ 2097152) (hR : Rows3 w wq R1 R2 R3 W)
    (hK : ∀ ao2 cap2 w', Rows3 w wq R1 R2 R3 w' → OwnE w (wq.heap.size + 1) w' (.slice ao2 (ks.length + 1) cap2) (ks ++ [y]) → K (a.put o.dst (.slice ao2 (ks.length + 1) cap2)) w') :
    if Region.wanted o (yielded ops a.tmps) = true then Oper.wp Tryz.prog o a W K Q else E := by
  refine step_app hg s x hop (w0 := w) (B := wq.heap.size + 1) (xs := ks) (ys := [y]) hs hx hO (made1 hN hy hM) (by simp; omega) hR.2.2.2.2 ?_
  intro ao2 cap2 w' ha
  obtain ⟨_, _, _, hv⟩ := hO.form
  have := hK ao2 cap2 w' (hR.app hl2 rfl hv ha) ha.1
  simpa using this
end
set_option maxHeartbeats 4000000 in
set_option maxRecDepth 100000 in
theorem grows_any {w : World} (htab : Tab w) {x y : Ex} {L M : List Value} (hx : ExAt w L x) (hy : ExAt w M y) (hk : x.kids.length ≤ 2097152) : Calls Tryz.prog 8 #[.agg L.toArray, .agg M.toArray] w (Lived w) := by
  obtain ⟨op, nm, n, cs, ks⟩ := x
  have HX := Lib.hid hx
  have HY := Lib.hid hy
  have HTB := Lib.hid htab
  obtain ⟨cv, kv, rfl, _, _, _, hcs, hks⟩ := hx.open_
  obtain ⟨A1, m1, k1, rfl⟩ := SliceAt.shape hcs
  obtain ⟨A, c, rfl, hkc, hcm, hea⟩ := hks
  obtain ⟨o2, s2, n2, A3, m3, k3, A4, m4, k4, rfl⟩ := hy.shape
  have HEA := Lib.hid hea
  have HKL := Lib.hid (show ks.length ≤ 2097152 from hk)
  have hlm : ks.length ≤ 9223372036854775807 := by have : ks.length ≤ 2097152 := hk; omega
  clear hx hy htab hcs hkc hcm hea hk
  go_enter Tryz.func8, Tryz.ntmps8
  go_wp2_with (go_at_call 10
               refine (lives_any _ (HTB.out.under (((Below.refl _ w).alloc (Nat.le_refl _) _).alloc (by simp) _))).mono ?_
               rintro e w1 ⟨rfl, hb1⟩
               have hs1 := hb1.size
               simp only [World.size_alloc] at hs1
               have HB1 := Lib.hid ((((Below.refl _ w).alloc (Nat.le_refl _) _).alloc (by simp) _).trans (hb1.mono (by simp; omega)))
               have bx := box_a hb1
               have by_ := box_b hb1
               have BX := Lib.hid bx
               have BY := Lib.hid by_
               clear hb1 bx by_)
  go_loopg [5, 6, 7] ks.length (fun g s d v wr => ∃ k : Nat, k + g = ks.length ∧ v = .int .i64 k ∧ s = .int .i64 (sizeF 1 (ks.take k)) ∧ d = .int .i64 (depthF 0 (ks.take k)) ∧ Below w1.heap.size w1 wr)
  case atStart => exact ⟨0, by omega, rfl, by simp [sizeF], by simp [depthF], Below.refl _ _⟩
  case round =>
    obtain ⟨k, hkg, rfl, rfl, rfl, hbw⟩ := hrel
    obtain ⟨wq, rfl⟩ : ∃ W, W = wr := ⟨_, rfl⟩
    have HK := Lib.hid hkg
    have HW := Lib.hid hbw
    have hszw := hbw.size
    have hkl : k ≤ ks.length := by omega
    have bx := box_next hbw BX.out
    have by_ := box_next hbw BY.out
    obtain ⟨p0, p1, p2, p3, p4⟩ := row5 bx
    obtain ⟨r0, r1, r2, r3, r4⟩ := row5 by_
    have BXQ := Lib.hid bx
    have BYQ := Lib.hid by_
    clear hkg hbw bx by_
    by_cases hlt : k < ks.length
    · obtain ⟨z, hz⟩ : ∃ z, ks[k]? = some z := ⟨_, List.getElem?_eq_getElem hlt⟩
      have HS := Lib.hid (show sizeF 1 (ks.take (k + 1)) = _ by rw [take_snoc hz, sizeF_snoc])
      have HD := Lib.hid (show depthF 0 (ks.take (k + 1)) = _ by rw [take_snoc hz, depthF_snoc])
      obtain ⟨K, hEK, hRK⟩ := HEA.out k z hz
      have HRK := Lib.hid hRK
      obtain ⟨o5, s5, n5, A6, m6, k6, A7, m7, k7, rfl⟩ := hRK.shape
      have HB0 := Lib.hid (HB1.out.trans (HW.out.mono (by omega)))
      obtain ⟨a, rfl, hcl⟩ := hEK
      have HEL := Lib.hid (show ElemAt w (some a) k _ from ⟨a, rfl, hcl⟩)
      obtain ⟨haa, q0, q1, q2, q3, q4⟩ := elem5a (HEL.out.under HB0.out)
      clear hz hcl hRK
      go_wp2_with (first
        | (go_at_call 11
           refine (size_any HRK.out _ HB0.out).mono ?_
           rintro e w2 ⟨rfl, hb2⟩
           have HB2 := Lib.hid (HB0.out.trans (hb2.mono HB0.out.size))
           have HW2 := Lib.hid (HW.out.trans (hb2.mono hszw))
           have bx2 := box_next hb2 BXQ.out
           obtain ⟨p0, p1, p2, p3, p4⟩ := row5 bx2
           obtain ⟨haa2, q0, q1, q2, q3, q4⟩ := elem5a (HEL.out.under HB2.out)
           clear hb2 bx2)
        | (go_at_call 13
           refine (depth_any HRK.out _ HB2.out).mono ?_
           rintro e w3 ⟨rfl, hb3⟩))
      go_roundg (ks.length - (k + 1))
      case measure => have := HK.out; omega
      case rel => exact ⟨k + 1, by omega, by go_num, by rw [HS.out], by rw [HD.out], HW2.out.trans (hb3.mono HW2.out.size)⟩
    · have hke : k = ks.length := by omega
      have HKE := Lib.hid hke
      clear hke
      have hl1 : w.heap.size < wq.heap.size := by omega
      have hl2 : w.heap.size + 1 < wq.heap.size := by omega
      have HBQ := Lib.hid (HB1.out.trans (HW.out.mono (by omega)))
      have R0 := Lib.hid (show Rows3 w wq #[.int .i64 op, .string (str nm), .int .i64 n, .slice A1 m1 k1, .slice A ks.length c] #[.int .i64 o2, .string s2, .int .i64 n2, .slice A3 m3 k3, .slice A4 m4 k4] #[.int .i64 op, .string (str nm), .int .i64 n, .slice A1 m1 k1, .slice A ks.length c] (wq.alloc (.cells #[.int .i64 op, .string (str nm), .int .i64 n, .slice A1 m1 k1, .slice A ks.length c] 25)) from
        ⟨(Below.refl _ _).alloc (Nat.le_refl _) _, alloc_below BXQ.out, alloc_below BYQ.out, alloc_at rfl, by simp⟩)
      have HSK := Lib.hid (show SliceAt w (ExAt w) (.slice A ks.length c) ks from HX.out.open_.elim fun cv h => h.elim fun kv h => by obtain ⟨e, _, _, _, _, hks⟩ := h; cases e; exact hks)
      go_wp2_with fail
      have hT : ks.take k = ks := by rw [HKE.out, List.take_length]
      rw [hT]
      clear hT
      go_cut [] from 35 (fun wc => GrowsCut w wq.heap.size #[.int .i64 op, .string (str nm), .int .i64 n, .slice A1 m1 k1, .slice A ks.length c] #[.int .i64 o2, .string s2, .int .i64 n2, .slice A3 m3 k3, .slice A4 m4 k4] op n nm cs ks y (.slice A1 m1 k1) wc)
      case first =>
        go_region_law (first
          | (refine step_first R0.out ?_ (.const (.slice none 0 0)) (.tmp 36) ?_ ?_ ?_ HSK.out HBQ.out hl2 HKL.out ?_ ?_
             · rfl
             · rfl
             · rfl
             · first | rfl | simp [Act.eval]
             · repeat (first | exact R0.out | refine Rows3.drew ?_ | refine Rows3.alloc ?_ _)
             intro ao cap w5 hr5 ho5 hk5
             have R5 := Lib.hid hr5
             have HO5 := Lib.hid ho5
             obtain ⟨z0, z1, z2, z3, z4⟩ := row5 hr5.2.2.1
             have hl5 : wq.heap.size + 1 ≤ w5.heap.size := hr5.2.2.2.2
             have HK5 := Lib.hid hk5
             clear hr5 ho5 hk5)
          | (apply step_second R0.out (s := .tmp 37) (x := .tmp 39) (ao := ao) (cap := cap) (hy := HY.out) (hl2 := hl2) (hl := HKL.out)
             case hg => rfl
             case hop => rfl
             case hs => first | rfl | simp [Act.eval, Act.put]
             case hx => first | rfl | (simp [Act.eval, Act.put]; rfl)
             case hO => first | exact HO5.out | exact HO5.out.alloc _
             case hN => first | exact alloc_at rfl | exact HK5.out _ _ (alloc_at rfl) | exact HK5.out _ _ (alloc_at (by simp))
             case hM => rfl
             case hR => repeat (first | exact R5.out | refine Rows3.alloc ?_ _)
             intro ao2 cap2 w6 hr6 ho6
             have R6 := Lib.hid hr6
             have HO6 := Lib.hid ho6
             have x4 := row5c hr6.2.2.2.1
             have f4 := Lib.frozen_of_heap hr6.2.2.2.1 4
             clear hr6 ho6))
        all_goals
          go_wp2_with fail
          go_meet
          case rel => exact ⟨ao2, cap2, grows_done (q := wq.heap.size) HX.out R6.out HBQ.out hl2 rfl rfl HO6.out rfl⟩
      case rest =>
        obtain ⟨ao2, cap2, hb3, hx3⟩ := hcut
        obtain ⟨Z, rfl⟩ : ∃ W, W = wc := ⟨_, rfl⟩
        have G0 := Lib.hid hb3.drew
        have X3 := Lib.hid hx3
        obtain ⟨⟨ga0, ga1, ga2, ga3, ga4⟩, ⟨gb0, gb1, gb2, gb3, gb4⟩, ⟨gc0, gc1, gc2, gc3, gc4⟩⟩ := hb3.cells
        clear hb3 hx3 p0 p1 p2 p3 p4 r0 r1 r2 r3 r4 HTB HEA BX BY BXQ BYQ R0 HSK HK HW
        have SE := Lib.hid (show ∀ W, Below w.heap.size w W → Calls Tryz.prog 11 #[.agg #[.int .i64 op, .string (str nm), .int .i64 n, .slice A1 m1 k1, .slice A ks.length c]] W (IntPost (sizeF 1 ks) W) from fun W h => by have := size_any HX.out W h; rwa [sizeW] at this)
        have DE := Lib.hid (show ∀ W, Below w.heap.size w W → Calls Tryz.prog 13 #[.agg #[.int .i64 op, .string (str nm), .int .i64 n, .slice A1 m1 k1, .slice A ks.length c]] W (IntPost (IntKind.i64.wrap (depthF 0 ks + 1)) W) from fun W h => by have := depth_any HX.out W h; rw [depthW, ← IntWalk.i64_left] at this; exact this)
        have SY := Lib.hid (show ∀ W, Below w.heap.size w W → Calls Tryz.prog 11 #[.agg #[.int .i64 o2, .string s2, .int .i64 n2, .slice A3 m3 k3, .slice A4 m4 k4]] W (IntPost (sizeW y) W) from fun W h => size_any HY.out W h)
        have DY := Lib.hid (show ∀ W, Below w.heap.size w W → Calls Tryz.prog 13 #[.agg #[.int .i64 o2, .string s2, .int .i64 n2, .slice A3 m3 k3, .slice A4 m4 k4]] W (IntPost (depthW y) W) from fun W h => depth_any HY.out W h)
        have SM := Lib.hid (show ∀ W, Below Z.heap.size Z W → Calls Tryz.prog 11 #[.agg #[.int .i64 op, .string (str nm), .int .i64 n, .slice A1 m1 k1, .slice ao2 (ks.length + 1) cap2]] W (IntPost (IntKind.i64.wrap (sizeF 1 ks + sizeW y)) W) from fun W h => by have := size_any X3.out W h; rw [sizeW, sizeF_snoc, ← IntWalk.i64_left] at this; exact this)
        have DM := Lib.hid (show ∀ W, Below Z.heap.size Z W → Calls Tryz.prog 13 #[.agg #[.int .i64 op, .string (str nm), .int .i64 n, .slice A1 m1 k1, .slice ao2 (ks.length + 1) cap2]] W (IntPost (IntKind.i64.wrap (max (depthF 0 ks) (depthW y) + 1)) W) from fun W h => by have := depth_any X3.out W h; rw [depthW, depthF_snoc, ← IntWalk.i64_left] at this; exact this)
        have B0 := Lib.hid (Below.refl Z.heap.size Z).drew
        go_wp2_with fail
        go_region_held3 (fun W => W.cell? ⟨w.heap.size, 0, none⟩ = some (.int .i64 op) ∧ W.cell? ⟨w.heap.size, 1, none⟩ = some (.string (str nm)) ∧ W.cell? ⟨w.heap.size, 2, none⟩ = some (.int .i64 n) ∧ W.cell? ⟨w.heap.size, 3, none⟩ = some (.slice A1 m1 k1) ∧ W.cell? ⟨w.heap.size, 4, none⟩ = some (.slice A ks.length c) ∧ W.cell? ⟨w.heap.size + 1, 0, none⟩ = some (.int .i64 o2) ∧ W.cell? ⟨w.heap.size + 1, 1, none⟩ = some (.string s2) ∧ W.cell? ⟨w.heap.size + 1, 2, none⟩ = some (.int .i64 n2) ∧ W.cell? ⟨w.heap.size + 1, 3, none⟩ = some (.slice A3 m3 k3) ∧ W.cell? ⟨w.heap.size + 1, 4, none⟩ = some (.slice A4 m4 k4) ∧ W.cell? ⟨wq.heap.size, 0, none⟩ = some (.int .i64 op) ∧ W.cell? ⟨wq.heap.size, 1, none⟩ = some (.string (str nm)) ∧ W.cell? ⟨wq.heap.size, 2, none⟩ = some (.int .i64 n) ∧ W.cell? ⟨wq.heap.size, 3, none⟩ = some (.slice A1 m1 k1) ∧ W.cell? ⟨wq.heap.size, 4, none⟩ = some (.slice ao2 (ks.length + 1) cap2)) (go_keep) (first
          | (go_at_call 11
             (with_reducible refine (SE.out _ (G0.out.below)).mono ?_)
             rintro e w7 ⟨rfl, hb7⟩
             obtain ⟨z7, rfl⟩ : ∃ W, W = w7 := ⟨_, rfl⟩
             have gq := G0.out.call hb7
             have G1 := Lib.hid gq
             have B1 := Lib.hid (B0.out.trans (hb7.mono B0.out.size))
             obtain ⟨⟨ga0, ga1, ga2, ga3, ga4⟩, ⟨gb0, gb1, gb2, gb3, gb4⟩, ⟨gc0, gc1, gc2, gc3, gc4⟩⟩ := gq.cells
             clear gq hb7)
          | (go_at_call 13
             (with_reducible refine (DE.out _ (G1.out.below)).mono ?_)
             rintro e w7 ⟨rfl, hb7⟩
             obtain ⟨z7, rfl⟩ : ∃ W, W = w7 := ⟨_, rfl⟩
             have gq := G1.out.call hb7
             have G2 := Lib.hid gq
             have B2 := Lib.hid (B1.out.trans (hb7.mono B1.out.size))
             obtain ⟨⟨ga0, ga1, ga2, ga3, ga4⟩, ⟨gb0, gb1, gb2, gb3, gb4⟩, ⟨gc0, gc1, gc2, gc3, gc4⟩⟩ := gq.cells
             clear gq hb7)
          | (go_at_call 11
             (with_reducible refine (SM.out _ (B2.out)).mono ?_)
             rintro e w7 ⟨rfl, hb7⟩
             obtain ⟨z7, rfl⟩ : ∃ W, W = w7 := ⟨_, rfl⟩
             have gq := G2.out.call hb7
             have G3 := Lib.hid gq
             have B3 := Lib.hid (B2.out.trans (hb7.mono B2.out.size))
             obtain ⟨⟨ga0, ga1, ga2, ga3, ga4⟩, ⟨gb0, gb1, gb2, gb3, gb4⟩, ⟨gc0, gc1, gc2, gc3, gc4⟩⟩ := gq.cells
             clear gq hb7)
          | (go_at_call 11
             (with_reducible refine (SY.out _ (G3.out.below)).mono ?_)
             rintro e w7 ⟨rfl, hb7⟩
             obtain ⟨z7, rfl⟩ : ∃ W, W = w7 := ⟨_, rfl⟩
             have gq := G3.out.call hb7
             have G4 := Lib.hid gq
             have B4 := Lib.hid (B3.out.trans (hb7.mono B3.out.size))
             obtain ⟨⟨ga0, ga1, ga2, ga3, ga4⟩, ⟨gb0, gb1, gb2, gb3, gb4⟩, ⟨gc0, gc1, gc2, gc3, gc4⟩⟩ := gq.cells
             clear gq hb7)
          | (go_at_call 13
             (with_reducible refine (DM.out _ (B4.out)).mono ?_)
             rintro e w7 ⟨rfl, hb7⟩
             obtain ⟨z7, rfl⟩ : ∃ W, W = w7 := ⟨_, rfl⟩
             have gq := G4.out.call hb7
             have G5 := Lib.hid gq
             have B5 := Lib.hid (B4.out.trans (hb7.mono B4.out.size))
             obtain ⟨⟨ga0, ga1, ga2, ga3, ga4⟩, ⟨gb0, gb1, gb2, gb3, gb4⟩, ⟨gc0, gc1, gc2, gc3, gc4⟩⟩ := gq.cells
             clear gq hb7)
          | (go_at_call 13
             (with_reducible refine (DY.out _ (G5.out.below)).mono ?_)
             rintro e w7 ⟨rfl, hb7⟩
             obtain ⟨z7, rfl⟩ : ∃ W, W = w7 := ⟨_, rfl⟩
             have gq := G5.out.call hb7
             have G6 := Lib.hid gq
             have B6 := Lib.hid (B5.out.trans (hb7.mono B5.out.size))
             obtain ⟨⟨ga0, ga1, ga2, ga3, ga4⟩, ⟨gb0, gb1, gb2, gb3, gb4⟩, ⟨gc0, gc1, gc2, gc3, gc4⟩⟩ := gq.cells
             clear gq hb7))
        all_goals go_wp2_with fail
        all_goals go_ret
        all_goals first
          | exact ⟨rfl, G6.out.below⟩
          | exact ⟨ret_bool (by simp), G6.out.below⟩
end Go.Proofs.YthffigagnodnmaaGreatDoor
