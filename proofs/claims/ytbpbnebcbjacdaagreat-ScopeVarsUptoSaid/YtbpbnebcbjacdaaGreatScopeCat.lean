/-
  slices.Concat of lists of strings.
-/
import Derived.Test.YtbpbnebcbjacdaaGreatScopeGrow
import Derived.Test.YtbpbnebcbjacdaaGreatScopeIs
namespace Go.Proofs.YtbpbnebcbjacdaaGreat
open Go.RowKit

theorem grow_any {n : Nat} (hn : n ≤ 4194304) (w : World) : Calls Tryz.prog 117 #[.slice none 0 0, .int .i64 n] w (OwnPost [] w) := by
  cases n with
  | zero => exact grow_zero w
  | succ n => exact grow_some (by omega) hn w
/-- a slice of slices of strings -/
def ListsAt (w : World) (v : Value) (ls : List (List Tx)) : Prop := SliceAt w (fun L l => ∃ x, L = [x] ∧ StrsAt w x l) v ls
theorem flatten_snoc {X : Type} {ls : List (List X)} {k : Nat} {x : List X} (h : ls[k]? = some x) : (ls.take (k + 1)).flatten = (ls.take k).flatten ++ x := by
  rw [take_snoc h]; simp
theorem flatten_le {X : Type} (ls : List (List X)) (k : Nat) : (ls.take k).flatten.length ≤ ls.flatten.length := by
  have h : ls.flatten = (ls.take k).flatten ++ (ls.drop k).flatten := by rw [← List.flatten_append, List.take_append_drop]
  rw [h, List.length_append]; omega
set_option maxHeartbeats 4000000 in
set_option maxRecDepth 100000 in
theorem concat_any {w : World} {A : Option Addr} {c : Nat} {ls : List (List Tx)} (h : ListsAt w (.slice A ls.length c) ls) (hlen : ls.flatten.length ≤ 2097152) :
    Calls Tryz.prog 94 #[.slice A ls.length c] w (OwnPost ls.flatten w) := by
  obtain ⟨A', c', e, hc, hm, he⟩ := h
  injection e with e1 e2 e3
  subst e1 e3
  have hll : ls.length ≤ 9223372036854775807 := by have h : ls.length ≤ c := hc; unfold maxLen at hm; omega
  have HE := Lib.hid he
  clear hc hm he e2
  go_enter Tryz.func94, Tryz.ntmps94
  go_wp2_with fail
  go_loopg [3, 11] ls.length (fun g n i wr => ∃ k : Nat, k + g = ls.length ∧ i = .int .i64 k ∧ n = .int .i64 ((ls.take k).flatten.length : Nat) ∧ wr = w)
  case atStart => exact ⟨0, by omega, rfl, rfl, rfl⟩
  case round =>
    obtain ⟨k, hkg, rfl, rfl, rfl⟩ := hrel
    have HK := Lib.hid hkg
    have hkl : k ≤ ls.length := by omega
    clear hkg
    by_cases hlt : k < ls.length
    · obtain ⟨l, hl⟩ : ∃ l, ls[k]? = some l := ⟨_, List.getElem?_eq_getElem hlt⟩
      have HT := Lib.hid (flatten_snoc hl)
      have hlen1 : (ls.take k).flatten.length + l.length ≤ 2097152 := by
        have h1 := flatten_le ls (k + 1)
        rw [flatten_snoc hl, List.length_append] at h1
        omega
      obtain ⟨L, hE, x, rfl, hx⟩ := HE.out k l hl
      obtain ⟨xA, xc, rfl, _⟩ := hx
      obtain ⟨a, rfl, _, _, q0⟩ := elem1 hE
      simp only [Nat.mul_one] at q0
      generalize hN : (ls.take k).flatten.length = N at *
      clear hE hl
      have hN0 : ¬ ((N : Int) + (l.length : Int) < 0) := by omega
      go_wp2_with fail
      go_roundg (ls.length - (k + 1))
      case measure => have := HK.out; omega
      case rel => exact ⟨k + 1, by omega, by go_num, by rw [HT.out, List.length_append, hN]; go_num, rfl⟩
    · have hke : k = ls.length := by omega
      subst hke
      obtain ⟨V, rfl⟩ : ∃ W, W = wr := ⟨_, rfl⟩
      have HG := Lib.hid (grow_any (n := ls.flatten.length) (by omega) V)
      rw [List.take_length]
      generalize hN : ls.flatten.length = N at *
      clear hlt hkl
      go_wp2_with (go_at_call 117; (with_reducible refine HG.out.mono ?_); rintro e w1 ⟨v1, rfl, ho, hb⟩; have HO := Lib.hid ho; have HB := Lib.hid hb; clear ho hb)
      have hbw := HB.out.size
      go_loopg [6, 27] ls.length (fun g v i wq => ∃ k : Nat, k + g = ls.length ∧ i = .int .i64 k ∧ OwnS V.heap.size wq v (ls.take k).flatten ∧ Below V.heap.size V wq)
      case atStart => exact ⟨0, by omega, rfl, by simpa using HO.out, HB.out⟩
      case round =>
        obtain ⟨wq, rfl⟩ : ∃ W, W = wr := ⟨_, rfl⟩
        obtain ⟨k, hkg, rfl, ho, hb⟩ := hrel
        have HK := Lib.hid hkg
        have HO2 := Lib.hid ho
        have HB2 := Lib.hid hb
        have hsz2 := hb.size
        have hkl : k ≤ ls.length := by omega
        clear hkg ho hb
        by_cases hlt : k < ls.length
        · obtain ⟨l, hl⟩ : ∃ l, ls[k]? = some l := ⟨_, List.getElem?_eq_getElem hlt⟩
          have HT := Lib.hid (flatten_snoc hl)
          have hlen1 : (ls.take k).flatten.length + l.length ≤ 4194304 := by
            have h1 := flatten_le ls (k + 1)
            rw [flatten_snoc hl, List.length_append] at h1
            omega
          obtain ⟨L, hE, x, rfl, hx⟩ := HE.out k l hl
          have HX := Lib.hid (hx.under HB2.out)
          obtain ⟨xA, xc, rfl, _⟩ := hx
          obtain ⟨a, rfl, _, _, q0⟩ := elem1 (hE.under HB2.out)
          simp only [Nat.mul_one] at q0
          clear hE hl
          go_wp2_with (at_builtin; refine append_strs rfl _ _ rfl rfl rfl HO2.out HX.out hlen1 hsz2 ?_; (intro v5 w5 h5; obtain ⟨ho5, hb5, _⟩ := h5; have HO5 := Lib.hid ho5; have HB5 := Lib.hid (HB2.out.trans hb5); clear ho5 hb5))
          go_roundg (ls.length - (k + 1))
          case measure => have := HK.out; omega
          case rel => exact ⟨k + 1, by omega, by go_num, by rw [HT.out]; exact HO5.out, HB5.out⟩
        · have hke : k = ls.length := by omega
          have HOe := Lib.hid (show OwnS V.heap.size _ _ ls.flatten by have := HO2.out; rwa [hke, List.take_length] at this)
          clear hke
          go_wp2_with fail
          go_ret
          exact ⟨_, rfl, HOe.out, HB2.out⟩
end Go.Proofs.YtbpbnebcbjacdaaGreat
