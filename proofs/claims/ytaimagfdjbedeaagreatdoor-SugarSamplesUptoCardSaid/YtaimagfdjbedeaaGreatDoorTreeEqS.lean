/-
  Two strings, two slices of strings: slices.Equal.
-/
import Derived.Test.YtaimagfdjbedeaaGreatDoorTreeEq
namespace Go.Proofs.YtaimagfdjbedeaaGreatDoor
open Go.RowKit

theorem str_inj {a b : Tx} : str a = str b ↔ a = b := ⟨fun h => by have := congrArg (fun s => s.data.toList) h; simpa [str_toList] using this, fun h => by rw [h]⟩
theorem str_toL (a : Tx) : (str a).toList = a := by rw [Lib.toList_data, str_toList]
theorem bcell {W w1 : World} (hb : Below W.heap.size W w1) : (∀ b o, b < W.heap.size → w1.cell? ⟨b, o, none⟩ = W.cell? ⟨b, o, none⟩) ∧ (∀ b o, b < W.heap.size → w1.frozen? ⟨b, o, none⟩ = W.frozen? ⟨b, o, none⟩) :=
  ⟨fun b o h => hb.cell (p := ⟨b, o, none⟩) h, fun b o h => hb.frozen (p := ⟨b, o, none⟩) h⟩
theorem box_a {w w1 : World} {ca cb : Array Value} {Ta Tb : TypeId} (hb : Below ((w.alloc (.cells ca Ta)).alloc (.cells cb Tb)).heap.size ((w.alloc (.cells ca Ta)).alloc (.cells cb Tb)) w1) : w1.heap[w.heap.size]? = some (.cells ca Ta (0, 0)) := by
  rw [hb.block w.heap.size (by simp; omega), Below.heap_alloc _ _ _ (by simp)]
  exact heap_alloc_new w _
theorem box_b {w w1 : World} {ca cb : Array Value} {Ta Tb : TypeId} (hb : Below ((w.alloc (.cells ca Ta)).alloc (.cells cb Tb)).heap.size ((w.alloc (.cells ca Ta)).alloc (.cells cb Tb)) w1) : w1.heap[w.heap.size + 1]? = some (.cells cb Tb (0, 0)) := by
  rw [hb.block (w.heap.size + 1) (by simp)]
  have := heap_alloc_new (w.alloc (.cells ca Ta)) (.cells cb Tb)
  simpa using this
theorem box_next {w w1 : World} {g : Nat} {o : Obj} (hb : Below w.heap.size w w1) (h : w.heap[g]? = some o) : w1.heap[g]? = some o := (hb.block g (lt_of_heap h)).trans h
theorem row2 {w : World} {N : Nat} {T : TypeId} {v0 v1 : Value} (h : w.heap[N]? = some (.cells #[v0, v1] T (0, 0))) :
    w.cell? ⟨N, 0, none⟩ = some v0 ∧ w.cell? ⟨N, 1, none⟩ = some v1 := by
  simp [World.cell?, h]
theorem row3 {w : World} {N : Nat} {T : TypeId} {v0 v1 v2 : Value} (h : w.heap[N]? = some (.cells #[v0, v1, v2] T (0, 0))) :
    w.cell? ⟨N, 0, none⟩ = some v0 ∧ w.cell? ⟨N, 1, none⟩ = some v1 ∧ w.cell? ⟨N, 2, none⟩ = some v2 := by
  simp [World.cell?, h]
theorem row5 {w : World} {N : Nat} {T : TypeId} {v0 v1 v2 v3 v4 : Value} (h : w.heap[N]? = some (.cells #[v0, v1, v2, v3, v4] T (0, 0))) :
    w.cell? ⟨N, 0, none⟩ = some v0 ∧ w.cell? ⟨N, 1, none⟩ = some v1 ∧ w.cell? ⟨N, 2, none⟩ = some v2 ∧ w.cell? ⟨N, 3, none⟩ = some v3 ∧ w.cell? ⟨N, 4, none⟩ = some v4 := by
  simp [World.cell?, h]
theorem row6 {w : World} {N : Nat} {T : TypeId} {v0 v1 v2 v3 v4 v5 : Value} (h : w.heap[N]? = some (.cells #[v0, v1, v2, v3, v4, v5] T (0, 0))) :
    w.cell? ⟨N, 0, none⟩ = some v0 ∧ w.cell? ⟨N, 1, none⟩ = some v1 ∧ w.cell? ⟨N, 2, none⟩ = some v2 ∧ w.cell? ⟨N, 3, none⟩ = some v3 ∧ w.cell? ⟨N, 4, none⟩ = some v4 ∧ w.cell? ⟨N, 5, none⟩ = some v5 := by
  simp [World.cell?, h]
theorem row7 {w : World} {N : Nat} {T : TypeId} {v0 v1 v2 v3 v4 v5 v6 : Value} (h : w.heap[N]? = some (.cells #[v0, v1, v2, v3, v4, v5, v6] T (0, 0))) :
    w.cell? ⟨N, 0, none⟩ = some v0 ∧ w.cell? ⟨N, 1, none⟩ = some v1 ∧ w.cell? ⟨N, 2, none⟩ = some v2 ∧ w.cell? ⟨N, 3, none⟩ = some v3 ∧ w.cell? ⟨N, 4, none⟩ = some v4 ∧ w.cell? ⟨N, 5, none⟩ = some v5 ∧ w.cell? ⟨N, 6, none⟩ = some v6 := by
  simp [World.cell?, h]
theorem eq_take {l m : List Tx} {k : Nat} (hl : l.length = m.length) (h : SameTo (fun a b => a == b) l m k) (hk : k = l.length) : l = m := by
  have := h.all hl hk
  exact (sameBy_iff (f := fun a b : Tx => a == b) (by simp) l m).1 this

set_option maxHeartbeats 1000000 in
theorem equalS_any {w0 : World} {va vb : Value} {la lb : List Tx} (ha : StrsAt w0 va la) (hb : StrsAt w0 vb lb) :
    ∀ w, Below w0.heap.size w0 w → Calls Tryz.prog 184 #[va, vb] w (BoolPost (la == lb) w) := by
  intro w hw
  obtain ⟨A, ca, rfl, hca, hma, hea⟩ := ha
  obtain ⟨B, cb, rfl, hcb, hmb, heb⟩ := hb
  have hla : la.length ≤ 9223372036854775807 := by unfold maxLen at hma; omega
  have HW0 := Lib.hid hw
  have hsz0 := hw.size
  clear hw hca hma hcb hmb
  by_cases hlen : la.length = lb.length
  · have hd : ((la.length : Int) != (lb.length : Int)) = false := by simp [hlen]
    have HL := Lib.hid hlen
    clear hlen
    go_enter Tryz.func184, Tryz.ntmps184
    go_wp2_with fail
    go_loopg [13] la.length (fun g v wr => ∃ k : Nat, k + g = la.length ∧ v = .int .i64 k ∧ SameTo (fun a b => a == b) la lb k ∧ Below w.heap.size w wr)
    case atStart => exact ⟨0, by omega, rfl, SameTo.zero, Below.refl _ _⟩
    case round =>
      obtain ⟨k, hkg, rfl, hto, hbw⟩ := hrel
      have HK := Lib.hid hkg
      have HW := Lib.hid hbw
      have HT := Lib.hid hto
      have hszw := hbw.size
      have hkl : k ≤ la.length := by omega
      clear hkg hbw hto
      by_cases hlt : k < la.length
      · obtain ⟨x, hx⟩ : ∃ x, la[k]? = some x := ⟨_, List.getElem?_eq_getElem hlt⟩
        have hltb : k < lb.length := by rw [← HL.out]; exact hlt
        obtain ⟨y, hy⟩ : ∃ y, lb[k]? = some y := ⟨_, List.getElem?_eq_getElem hltb⟩
        obtain ⟨L, hEL, rfl, _⟩ := hea k x hx
        obtain ⟨M, hEM, rfl, _⟩ := heb k y hy
        have HB0 := Lib.hid (HW0.out.trans (HW.out.mono hsz0))
        have HX := Lib.hid hx
        have HY := Lib.hid hy
        obtain ⟨a, rfl, hab, haa, d0⟩ := elem1 (hEL.under HB0.out)
        obtain ⟨b, rfl, hbb, hbc, e0⟩ := elem1 (hEM.under HB0.out)
        rw [Nat.mul_one] at d0 e0
        clear hEL hEM hea heb hx hy
        go_wp2_with fail
        go_quiet (fail)
        go_wp2_with fail
        all_goals first
          | (have hxy : x = y := by
               have h : (!(str x).toList == (str y).toList) = false := by assumption
               simpa [str_toL] using h
             have HXY := Lib.hid hxy
             clear hxy
             go_roundg (la.length - (k + 1))
             case measure => have := HK.out; omega
             case rel => exact ⟨k + 1, by omega, by go_num, HT.out.succ HX.out HY.out (by simp [HXY.out]), below_drewN HW.out _⟩)
          | (have hxy : x ≠ y := by
               have h : (!(str x).toList == (str y).toList) = true := by assumption
               simpa [str_toL] using h
             go_ret
             exact ⟨ret_bool (by rw [Eq.comm, Bool.eq_false_iff]; intro e; simp at e; subst e; have h1 := HX.out; rw [HY.out] at h1; exact hxy (Option.some.inj h1).symm), below_drewN HW.out _⟩)
      · have hke : k = la.length := by omega
        have HKE := Lib.hid hke
        clear hke
        go_wp2_with fail
        go_ret
        exact ⟨ret_bool (by rw [eq_take HL.out HT.out HKE.out]; simp), HW.out⟩
  · have hd : ((la.length : Int) != (lb.length : Int)) = true := by simp; omega
    have HL := Lib.hid hlen
    clear hlen
    go_enter Tryz.func184, Tryz.ntmps184
    go_wp2_with fail
    go_ret
    exact ⟨ret_bool (by rw [Eq.comm, Bool.eq_false_iff]; intro e; simp at e; exact HL.out (by rw [e])), Below.refl _ _⟩

end Go.Proofs.YtaimagfdjbedeaaGreatDoor
