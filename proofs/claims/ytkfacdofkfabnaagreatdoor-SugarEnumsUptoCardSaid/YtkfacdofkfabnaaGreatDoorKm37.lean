import Derived.LoopIn
import Derived.LoopNIn
import Derived.OwnWalkIn
import Derived.RangeFuncBound
import Derived.RangeFuncCalls
import Derived.RangeFuncLeaves
import Derived.RangeFuncNested
import Derived.Shelf.RegionOpen
import Derived.TacticsInMore
import Derived.Test.YtkfacdofkfabnaaGreatDoorKm32
set_option maxHeartbeats 2000000
set_option maxRecDepth 100000
namespace Go.Proofs.YtkfacdofkfabnaaGreatDoor
open _root_.Go.Proofs.Tryz
open Go.RowKit Go.Shelf
attribute [local go_sem] Oper.semAt_some
def oI (w0 : World) (A : Option Addr) (ways : List eO) : Type := { x : Nat × List Value × eO // ways[x.1]? = some x.2.2 /\ cp w0 A x.1 x.2.1 /\ d7 w0 x.2.1 x.2.2 }
def sY {w0 : World} {A : Option Addr} {ways : List eO} (x : oI w0 A ways) : eO := x.1.2.2
def Hv {w0 : World} {A : Option Addr} {ways : List eO} (x : oI w0 A ways) : Array Value := #[.int .i64 (x.1.1 : Int), .agg x.1.2.1.toArray]
def KpB (n0 Bs : Nat) (W W' : World) : Prop := Below n0 W W' /\ W'.heap[Bs]? = W.heap[Bs]?
theorem KpB.trans {n0 Bs : Nat} {X Y Z : World} (h : KpB n0 Bs X Y) (k : KpB n0 Bs Y Z) : KpB n0 Bs X Z := ⟨h.1.trans k.1, k.2.trans h.2⟩
theorem CJ (n : Nat) (hn : 1 <= n) (l Bs : Nat) {w0 : World} {A : Option Addr} {c : Nat} {ways : List eO} (hs : aw w0 (d7 w0) (.slice A ways.length c) ways) (J Jx : List (oI w0 A ways) -> World -> Prop)
  (hY : ∀ pre x W, J pre W -> pre.length < ways.length -> YieldAt Fence.wide (n - 1) prog l (Hv x) W λ e W' =>
    (e = .returned (.bool true) /\ J (pre ++ [x]) W' /\ KpB w0.heap.size Bs W W') ∨ (e = .returned (.bool false) /\ Jx (pre ++ [x]) W'))
  (W : World) (hW : Below w0.heap.size w0 W) (hBs : W.heap[Bs]? = some (.cells #[.slice A ways.length c] 48 (0, 0))) (h0 : J [] W) :
  CallsIn Fence.wide n prog 153 #[.func (.yield l) #[] #[], .pointer (some ⟨Bs, 0, none⟩)] W λ e W' => (∃ v, e = .returned v) /\
   ((∃ ys : List (oI w0 A ways), ys.map sY = ways.reverse /\ J ys W') ∨ (∃ pre, True /\ Jx pre W')) := by
 obtain ⟨A', c', he, hc1, hc2, hc3⟩ := hs; obtain ⟨rfl, rfl⟩ : A = A' /\ c = c' := by simpa using he
 have hlen : ways.length <= 9223372036854775807 := (by unfold maxLen at hc2; omega); have hc0 : W.cell? ⟨Bs, 0, none⟩ = some (.slice A ways.length c) := (by rw [cell_of_row _ _ _ _ _ _ hBs]; rfl); refine callsIn_of_wp func153 rfl trivial ?_ rfl; simp only [ntmps153, List.size_toArray, List.length_cons, List.length_nil, Nat.reduceAdd, Nat.reduceSub, Array.replicate_succ, Array.replicate_zero, List.push_toArray, List.append_toArray, List.nil_append, List.cons_append]; gi_wp2
 gi_loopw [3] (λ v wr => ∃ (k : Nat) (pre : List (oI w0 A ways)), k <= ways.length /\ v = .int .i64 ((k : Int) - 1) /\ pre.map sY = (ways.drop k).reverse /\ J pre wr /\ KpB w0.heap.size Bs W wr)
  (λ v _ => (intOf v + 1).toNat)
 case atStart => exact ⟨ways.length, [], Nat.le_refl _, rfl, by simp, h0, Below.refl _ _, rfl⟩
 case round =>
  obtain ⟨k, pre, hk, rfl, hpre, hJs, hnx⟩ := hrel; cases k with
  | zero =>
    gi_wp2
    go_end0
    exact ⟨⟨_, rfl⟩, .inl ⟨pre, by rw [hpre, List.drop_zero], hJs⟩⟩
  | succ m =>
    obtain ⟨y, hy0⟩ : ∃ y, ways[m]? = some y := zG zO; obtain ⟨L, hE, hR0⟩ := hc3 m y hy0; have hplen : pre.length < ways.length := by
     have := congrArg List.length hpre; simp at this; omega
    obtain ⟨fn, tmps, assign, body, hy, hR⟩ := hY pre ⟨(m, L, y), hy0, hE, hR0⟩ wr hJs hplen; have hsn : (pre ++ [⟨(m, L, y), hy0, hE, hR0⟩] : List (oI w0 A ways)).map sY = (ways.drop m).reverse := by
     rw [List.map_append, hpre, List.drop_eq_getElem_cons (show m < ways.length by omega), List.reverse_cons]; have : ways[m] = y := by rw [List.getElem?_eq_getElem zO] at hy0; exact Option.some.inj hy0
     rw [this]; rfl
    have hcr : wr.cell? ⟨Bs, 0, none⟩ = some (.slice A ways.length c) := (by rw [cell_of_row _ _ _ _ _ _ (hnx.2.trans hBs)]; rfl); have hmi : ((m + 1 : Nat) : Int) - 1 = (m : Int) := zO; rw [hmi]; obtain ⟨o0, s1, o2, A3, n3, k3, A4, n4, k4, s5, rfl⟩ := hR0.shape; obtain ⟨a, rfl, hab, haa, d0, d1, d2, d3, d4, d5⟩ := iU (hE.under (hW.trans hnx.1)); dsimp only [Hv] at hy
    have hml : m < ways.length := zO; gi_wp2
    trace_state
    refine hR.mono ?_; rintro e W3 (⟨rfl, hJ3, hk3⟩ | ⟨rfl, hJx3⟩)
    . gi_wp2
      go_roundw
      case rel => exact ⟨m, _, by omega, rfl, hsn, hJ3, hnx.trans hk3⟩
      case measure => simp [intOf]
    . gi_wp2
      refine bodyPost_ret (results_none rfl _ _ _) rfl ?_; exact ⟨⟨_, rfl⟩, .inr ⟨_, trivial, hJx3⟩⟩
end Go.Proofs.YtkfacdofkfabnaaGreatDoor
