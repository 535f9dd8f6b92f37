/-
  Clocks in memory; the reference's Clock; the law's flat.
-/
import Derived.Test.YtmceablhndldiaaGreatDoorClkSpec
import Derived.Test.YtmceablhndldiaaGreatDoorSMap
import Derived.Test.YtmceablhndldiaaGreatDoorSugSa2
import Derived.Test.YtmceablhndldiaaGreatDoorHeld
namespace Go.Proofs.YtmceablhndldiaaGreatDoor
open Go.RowKit

def SmpC (L : List Value) (s : Tx × Tx) : Prop := L = [.string (str s.1), .string (str s.2)] ∧ s.1.length ≤ maxLen ∧ s.2.length ≤ maxLen
abbrev ClkAt (w : World) (v : Value) (c : Clk) : Prop := SliceAt w SmpC v c
theorem ClkAt.under {w w' : World} {v : Value} {c : Clk} (h : ClkAt w v c) (hb : Below w.heap.size w w') : ClkAt w' v c := SliceAt.mono h hb fun _ _ h => h
theorem SliceAt.shapeS {X : Type} {w : World} {R : List Value → X → Prop} {v : Value} {l : List X} (h : SliceAt w R v l) : ∃ A c, v = .slice A l.length c := by
  obtain ⟨A, c, rfl, _⟩ := h
  exact ⟨A, c, rfl⟩
def NamC (w : World) (L : List Value) (v : Vr) : Prop := ∃ t A n c, L = [.string (str v.1), .int .i64 t, .slice A n c] ∧ v.1.length ≤ maxLen ∧ ClkAt w (.slice A n c) v.2
abbrev VarsAt (w : World) (v : Value) (vs : List Vr) : Prop := SliceAt w (NamC w) v vs
def FoundPost (w0 : World) (o : Option Clk) (w : World) (e : Ending) (w' : World) : Prop := w' = w ∧ match o with
  | some d => ∃ A n c, e = .returned (.tuple #[.slice A n c, .bool true]) ∧ ClkAt w0 (.slice A n c) d
  | none => e = .returned (.tuple #[.slice none 0 0, .bool false])
theorem lookV_drop {vs : List Vr} {k : Nat} {v : Vr} {x : Tx} (h : vs[k]? = some v) : lookV (vs.drop k) x = if v.1 = x then some v.2 else lookV (vs.drop (k + 1)) x := by
  have hk := (List.getElem?_eq_some_iff.1 h).1
  rw [List.drop_eq_getElem_cons hk]
  have : vs[k] = v := (List.getElem?_eq_some_iff.1 h).2
  rw [this, lookV]
set_option maxHeartbeats 1000000 in
theorem clockR_any {w0 : World} {va : Value} {vs : List Vr} (ha : VarsAt w0 va vs) {x : Tx} : ∀ w, Below w0.heap.size w0 w → Calls Tryz.prog 9 #[va, .string (str x)] w (FoundPost w0 (lookV vs x) w) := by
  intro w hb
  obtain ⟨A, c, rfl, hl, hc, he⟩ := ha
  have HB := Lib.hid hb
  have hlm : vs.length ≤ 9223372036854775807 := by unfold maxLen at hc; omega
  clear hl hc hb
  go_enter Tryz.func9, Tryz.ntmps9
  go_wp2_with fail
  go_loopg [6] vs.length (fun g v wr => ∃ k : Nat, k + g = vs.length ∧ v = .int .i64 k ∧ wr = w ∧ lookV vs x = lookV (vs.drop k) x)
  case atStart => exact ⟨0, by omega, rfl, rfl, rfl⟩
  case round =>
    obtain ⟨k, hkg, rfl, rfl, hq⟩ := hrel
    have HK := Lib.hid hkg
    have HQ := Lib.hid hq
    have hkl : k ≤ vs.length := by omega
    clear hkg hq
    by_cases hlt : k < vs.length
    · obtain ⟨y, hy⟩ : ∃ y, vs[k]? = some y := ⟨_, List.getElem?_eq_getElem hlt⟩
      obtain ⟨L, hE, t, B, n, d, rfl, hyl, hcl⟩ := he k y hy
      have HY := Lib.hid (lookV_drop (x := x) hy)
      have HCL := Lib.hid hcl
      obtain ⟨a, rfl, hab, haa, d0, d1, d2⟩ := elem3 (hE.under HB.out)
      clear he hy hE hcl
      by_cases hn : y.1 = x
      · have ht : ((str y.1).toList == x) = true := by rw [str_toL, hn]; simp
        have HN := Lib.hid hn
        have hsx : str y.1 = str x := by rw [hn]
        clear hn
        go_wp2_with fail
        go_ret2
        refine ⟨rfl, ?_⟩
        rw [HQ.out, HY.out, if_pos HN.out]
        exact ⟨_, _, _, rfl, HCL.out⟩
      · have ht : ((str y.1).toList == (str x).toList) = false := by rw [str_toL, str_toL]; simpa using hn
        have hsx : ¬ str y.1 = str x := fun h => hn (str_inj.1 h)
        have HN := Lib.hid hn
        clear hn
        go_wp2_with fail
        go_roundg (vs.length - (k + 1))
        case measure => have := HK.out; omega
        case rel => exact ⟨k + 1, by omega, by go_num, rfl, by rw [HQ.out, HY.out, if_neg HN.out]⟩
    · have hke : k = vs.length := by omega
      have HKE := Lib.hid hke
      clear hke
      go_wp2_with fail
      go_ret2
      refine ⟨rfl, ?_⟩
      rw [HQ.out, List.drop_of_length_le (by rw [HKE.out]; exact Nat.le_refl _), lookV]
      rfl
set_option maxHeartbeats 2000000 in
theorem flat_any {w0 : World} {L : List Value} {x : Ex} (h : ExAt w0 L x) : ∀ w, Below w0.heap.size w0 w → Calls Tryz.prog 10 #[.agg L.toArray] w (BoolPost (flatQ x) w) := by
  induction h with
  | @mk op nm n cs ks cv A c C hop hnm hn hcs hl hc hk hx ih =>
    intro w hb
    have HB := Lib.hid hb
    have hlm : ks.length ≤ 9223372036854775807 := by unfold maxLen at hc; omega
    have hsz0 := hb.size
    clear hop hn hcs hb hl hc hnm
    by_cases h1 : 11 ≤ op ∧ op ≤ 15
    · have hq : flatQ (.mk op nm n cs ks) = false := by rw [flatQ, if_pos h1]
      rw [hq]
      have h2 : op = 11 ∨ op = 12 ∨ op = 13 ∨ op = 14 ∨ op = 15 := by omega
      clear hk hx ih hq h1
      rcases h2 with rfl | rfl | rfl | rfl | rfl
      all_goals
        go_enter Tryz.func10, Tryz.ntmps10
        go_wp2_with fail
        go_ret
        exact ⟨rfl, (Below.refl _ _).alloc (Nat.le_refl _) _⟩
    by_cases h4 : op = 4
    · subst h4
      have hq : flatQ (.mk 4 nm n cs ks) = decide (ks.length = 0) := by rw [flatQ, if_neg h1, if_pos rfl]
      rw [hq]
      clear hk hx ih hq h1
      go_enter Tryz.func10, Tryz.ntmps10
      go_wp2_with fail
      go_ret
      exact ⟨ret_bool (by cases ks with
        | nil => rfl
        | cons a t => simp; omega), (Below.refl _ _).alloc (Nat.le_refl _) _⟩
    have HQ := Lib.hid (show flatQ (.mk op nm n cs ks) = flatL ks by rw [flatQ, if_neg h1, if_neg h4])
    rw [HQ.out]
    have e1 : (op == 11) = false := by simp; omega
    have e2 : (op == 12) = false := by simp; omega
    have e3 : (op == 13) = false := by simp; omega
    have e4 : (op == 14) = false := by simp; omega
    have e6 : (op == 4) = false := by simp; omega
    have e5 : (op == 15) = false := by simp; omega
    clear h1 h4
    go_enter Tryz.func10, Tryz.ntmps10
    go_wp2_with fail
    go_loopg [3] ks.length (fun g v wr => ∃ k : Nat, k + g = ks.length ∧ v = .int .i64 k ∧ flatL ks = flatL (ks.drop k) ∧ Below w.heap.size w wr ∧ wr.heap[w.heap.size]? = some (.cells #[.int .i64 op, .string (str nm), .int .i64 n, cv, .slice A ks.length c] 31 (0, 0)))
    case atStart => exact ⟨0, by omega, rfl, rfl, (Below.refl _ _).alloc (Nat.le_refl _) _, heap_alloc_new w _⟩
    case round =>
      obtain ⟨k, hkg, rfl, hfl, hbw, hbox⟩ := hrel
      have HX := Lib.hid hbox
      have HFL := Lib.hid hfl
      have b4 := cell_of_row wr w.heap.size 4 _ _ _ hbox
      simp only [List.getElem?_toArray, List.getElem?_cons_succ, List.getElem?_cons_zero] at b4
      have hlb := lt_of_heap hbox
      have HK := Lib.hid hkg
      have HW := Lib.hid hbw
      have hszw := hbw.size
      have hkl : k ≤ ks.length := by omega
      clear hkg hbw hbox hfl
      by_cases hlt : k < ks.length
      · obtain ⟨y, hy⟩ : ∃ y, ks[k]? = some y := ⟨_, List.getElem?_eq_getElem hlt⟩
        have hC := hk k y hy
        have hih := Lib.hid (ih k y hy)
        have hxk := hx k y hy
        have HS := Lib.hid (show flatL (ks.drop k) = (flatQ y && flatL (ks.drop (k + 1))) by rw [drop_consS hy, flatL])
        obtain ⟨o1, s1, n1, A1, m1, k1, A2, m2, k2, hL⟩ := hxk.shape
        generalize C k = L at hC hih hxk hL
        subst hL
        clear hy hxk hk hx ih
        have hB0 := Lib.hid ((HB.out.trans (HW.out.mono hsz0)))
        obtain ⟨a, rfl, ha, haa, d0, d1, d2, d3, d4⟩ := elem5 (hC.under hB0.out)
        clear hC
        cases hfy : flatQ y
        · have HY := Lib.hid hfy
          rw [hfy] at hih
          clear hfy
          go_wp2_with (go_at_call 10; refine (hih.out _ (hB0.out)).mono ?_; rintro e w1 ⟨rfl, hb1⟩)
          go_ret
          exact ⟨ret_bool (by rw [HFL.out, HS.out, HY.out]; rfl), HW.out.trans (hb1.mono (by omega))⟩
        · have HY := Lib.hid hfy
          rw [hfy] at hih
          clear hfy
          go_wp2_with (go_at_call 10; refine (hih.out _ (hB0.out)).mono ?_; rintro e w1 ⟨rfl, hb1⟩)
          go_roundg (ks.length - (k + 1))
          case measure => have := HK.out; omega
          case rel => exact ⟨k + 1, by omega, by go_num, by rw [HFL.out, HS.out, HY.out]; rfl, HW.out.trans (hb1.mono (by omega)), (hb1.block _ hlb).trans HX.out⟩
      · have hke : k = ks.length := by omega
        have HKE := Lib.hid hke
        clear hke
        go_wp2_with fail
        go_ret
        exact ⟨ret_bool (by rw [HFL.out, List.drop_of_length_le (by rw [HKE.out]; exact Nat.le_refl _), flatL]), HW.out⟩
end Go.Proofs.YtmceablhndldiaaGreatDoor
