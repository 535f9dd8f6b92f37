/-
  slices.Clone of strings and of expressions: a list of the call's own.
-/
import Derived.Test.YtaimagfdjbedeaaGreatDoorOwnG
import Derived.Test.YtaimagfdjbedeaaGreatDoorOwnStr
import Derived.Test.YtaimagfdjbedeaaGreatDoorParseMem
import Derived.Test.YtaimagfdjbedeaaGreatDoorTreeApp
import Derived.Test.YtaimagfdjbedeaaGreatDoorSugSpec
import Derived.Shelf.Slices.Clone
namespace Go.Proofs.YtaimagfdjbedeaaGreatDoor
open Go.RowKit

def CloS (l : List Tx) (w : World) (e : Ending) (w' : World) : Prop := ∃ v, e = .returned v ∧ OwnS w.heap.size w' v l ∧ Below w.heap.size w w'
set_option maxHeartbeats 1000000 in
theorem clone_str {w : World} {va : Value} {l : List Tx} (ha : StrsAt w va l) (hl : l.length ≤ 2097152) : Calls Tryz.prog 24 #[va] w (CloS l w) := by
  have q24 : ∀ (w : World) (a : Option Addr) (n c n' c' : Nat), (binOp .eql 22 (.slice a n c) (.slice none n' c')).run Tryz.prog w = .ok (.bool a.isNone) w := fun w a n c n' c' => Lib.run_eql_slice_nil w _ _ a n c n' c' Tryz.underlying22
  have HA := Lib.hid ha
  obtain ⟨A, c, rfl, _, _, he⟩ := ha
  cases A with
  | none =>
    have hn : l = [] := by
      cases l with
      | nil => rfl
      | cons y r =>
        obtain ⟨L, ⟨a', e, _⟩, _⟩ := he 0 y rfl
        cases e
    subst hn
    clear he
    go_enter Tryz.func24, Tryz.ntmps24
    go_wp2_with fail
    go_ret
    exact ⟨_, rfl, OwnS.nil _ _, Below.refl _ _⟩
  | some a =>
    have hal := Lib.hid ((Below.refl w.heap.size w).alloc (Nat.le_refl _) (.cells #[] 9))
    have HO := Lib.hid (show OwnS w.heap.size (w.alloc (.cells #[] 9)) (.slice (some ⟨w.heap.size, 0, none⟩) 0 0) [] from ⟨World.ownsRow_made w #[] 0 (Nat.le_refl _) (Nat.zero_le _) rfl, by simp⟩)
    have hlen : ([] : List Tx).length + l.length ≤ 4194304 := by simp; omega
    clear he
    go_enter Tryz.func24, Tryz.ntmps24
    go_wp2_with (at_builtin; refine append_strs rfl _ _ rfl rfl rfl HO.out (HA.out.under hal.out) hlen (by simp) ?_; (intro v5 w5 h5; obtain ⟨ho5, hb5, _⟩ := h5; have HO5 := Lib.hid ho5; have HB5 := Lib.hid (hal.out.trans hb5); clear ho5 hb5))
    go_ret
    exact ⟨_, rfl, by simpa using HO5.out, HB5.out⟩
def CloE (w0 : World) (l : List Ex) (w : World) (e : Ending) (w' : World) : Prop := ∃ v, e = .returned v ∧ OwnG (ExAt w0) w.heap.size 25 5 w' v l ∧ Below w.heap.size w w'
theorem ex_one {w : World} : ∀ L x, ExAt w L x → ∀ u ∈ L, u.oneCell' = true := fun L x h u hu => by
  obtain ⟨o1, s1, n1, A1, m1, k1, A2, m2, k2, rfl⟩ := h.shape
  simp only [List.mem_cons, List.not_mem_nil, or_false] at hu
  rcases hu with rfl | rfl | rfl | rfl | rfl <;> rfl
theorem append_exs {ops : Array Oper} {rest : List Oper} {o : Oper} {a : Act} {W w0 : World} {Q : Exit → Act → World → Prop} {B : Nat} {v : Value} {xs ys : List Ex} {A : Option Addr} {n c : Nat} (hg : o.guard = none) (s x : Operand)
    (hop : o.op = .call { callee := .builtin .append, args := #[s, x], argTypes := #[23, 23] })
    (hs : a.eval s = v) (hx : a.eval x = .slice A n c) (hO : OwnG (ExAt w0) B 25 5 W v xs) (hS : SliceAt W (ExAt w0) (.slice A n c) ys) (hl : xs.length + ys.length ≤ 4194304) (hB : B ≤ W.heap.size)
    (h : ∀ v' w', OwnG (ExAt w0) B 25 5 w' v' (xs ++ ys) → Below B W w' → wpList Tryz.prog ops Q rest (a.put o.dst v') w') : wpList Tryz.prog ops Q (o :: rest) a W :=
  wpList_plain hg fun _ hK' => wp_ownG s x hop Tryz.underlying23 expr_info rfl (by decide) (by decide) (fun L x h => h.len) ex_one hs hx hO hS hl hB fun v' w' h1 _ h3 => hK' _ _ (h v' w' h1 h3)
set_option maxHeartbeats 1000000 in
theorem clone_exs {w0 w : World} {va : Value} {l : List Ex} (ha : SliceAt w (ExAt w0) va l) (hl : l.length ≤ 2097152) : Calls Tryz.prog 25 #[va] w (CloE w0 l w) := by
  have q24 : ∀ (w : World) (a : Option Addr) (n c n' c' : Nat), (binOp .eql 23 (.slice a n c) (.slice none n' c')).run Tryz.prog w = .ok (.bool a.isNone) w := fun w a n c n' c' => Lib.run_eql_slice_nil w _ _ a n c n' c' Tryz.underlying23
  have HA := Lib.hid ha
  obtain ⟨A, c, rfl, _, _, he⟩ := ha
  cases A with
  | none =>
    have hn : l = [] := by
      cases l with
      | nil => rfl
      | cons y r =>
        obtain ⟨L, ⟨a', e, _⟩, _⟩ := he 0 y rfl
        cases e
    subst hn
    clear he
    go_enter Tryz.func25, Tryz.ntmps25
    go_wp2_with fail
    go_ret
    exact ⟨_, rfl, OwnG.nil _, Below.refl _ _⟩
  | some a =>
    have hal := Lib.hid ((Below.refl w.heap.size w).alloc (Nat.le_refl _) (.cells #[] 25))
    have HO := Lib.hid (show OwnG (ExAt w0) w.heap.size 25 5 (w.alloc (.cells #[] 25)) (.slice (some ⟨w.heap.size, 0, none⟩) 0 0) [] from ⟨[], World.ownsRow_made w #[] 0 (Nat.le_refl _) (Nat.zero_le _) rfl, rfl, by simp, fun i L x h => by simp at h⟩)
    have hlen : ([] : List Ex).length + l.length ≤ 4194304 := by simp; omega
    clear he
    go_enter Tryz.func25, Tryz.ntmps25
    go_wp2_with (at_builtin; refine append_exs rfl _ _ rfl rfl rfl HO.out (HA.out.mono hal.out fun _ _ h => h) hlen (by simp) ?_; (intro v5 w5 ho5 hb5; have HO5 := Lib.hid ho5; have HB5 := Lib.hid (hal.out.trans hb5); clear ho5 hb5))
    go_ret
    exact ⟨_, rfl, by simpa using HO5.out, HB5.out⟩
end Go.Proofs.YtaimagfdjbedeaaGreatDoor
