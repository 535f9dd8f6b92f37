/-
  definesOuts: is each result defined by an item?
-/
import Derived.Test.YtbpbnebcbjacdaaGreatScopeUses
namespace Go.Proofs.YtbpbnebcbjacdaaGreat
open Go.RowKit
open Go.ChangeMaps Go.MapKept
open Go.Maps

/-- the values of a node's variables: -1 where no item defines it -/
def ValR (l : List (Tx × Value)) (D : List Tx) : Prop := (∀ p ∈ l, ∃ n : Int, p.2 = .int .i64 n ∧ (n = -1 ↔ p.1 ∉ D)) ∧ ∀ o ∈ D, o ∈ l.map Prod.fst
section
variable {S P f1 v1 : Nat} {x1 x2 x3 x5 : Value}
set_option maxHeartbeats 4000000 in
set_option maxRecDepth 100000 in
theorem definesOuts_any {w : World} {l : List (Tx × Value)} {D outs : List Tx} {A : Option Addr} {ca : Nat}
    (hbox : w.heap[S]? = some (.cells #[.pointer (some ⟨P, 0, none⟩), x1, x2, x3, .slice A outs.length ca, x5, .map (some f1), .map (some v1)] 92 (0, 0)))
    (hm : MapAt w v1 l) (hv : ValR l D) (ha : StrsAt w (.slice A outs.length ca) outs) :
    Calls Tryz.prog 46 #[.pointer (some ⟨S, 0, none⟩)] w (BoolPost (outs.all D.contains) w) := by
  have HM := Lib.hid hm
  have HV := Lib.hid hv
  have HA := Lib.hid ha
  obtain ⟨y0, y1, y2, y3, y4, y5, y6, y7⟩ := row8 hbox
  have hll : outs.length ≤ 9223372036854775807 := by obtain ⟨_, _, e, h1, h2, _⟩ := ha; injection e with _ _ e3; unfold maxLen at h2; omega
  clear hbox hm hv ha y1 y2 y3 y5 y6
  go_enter Tryz.func46, Tryz.ntmps46
  go_wp2_with fail
  go_loop [13] (fun v => ∃ k : Nat, k ≤ outs.length ∧ v = .int .i64 k ∧ AllTo D.contains outs k) (fun v => outs.length - (intOf v).toNat)
  case atStart => exact ⟨0, Nat.zero_le _, rfl, AllTo.zero⟩
  case round =>
    obtain ⟨k, hk, rfl, hto⟩ := hrel
    have HT := Lib.hid hto
    clear hto
    by_cases hlt : k < outs.length
    · obtain ⟨o, ho⟩ : ∃ o, outs[k]? = some o := ⟨_, List.getElem?_eq_getElem hlt⟩
      have HO := Lib.hid ho
      obtain ⟨A9, c9, e9, _, _, he9⟩ := HA.out
      obtain ⟨L9, hE9, rfl, hol⟩ := he9 k o ho
      injection e9 with e9 e10 e11
      clear e10 e11
      obtain ⟨a9, ea9, _, _, q9⟩ := elem1 hE9
      rw [ea9] at e9
      subst e9
      simp only [Nat.mul_one] at q9
      clear ho he9 hE9 ea9
      by_cases hD : o ∈ D
      · have HC := Lib.hid (show D.contains o = true from List.contains_iff_mem.2 hD)
        obtain ⟨⟨o', v⟩, hp, rfl⟩ := List.mem_map.1 (HV.out.2 o hD)
        obtain ⟨n, hn, hn1⟩ := HV.out.1 _ hp
        simp only at hn
        subst hn
        have hne : (n == -1) = false := by simp; exact fun e => (hn1.1 e) hD
        have hrun := HM.out.look_yes Tryz.underlying90 hp
        clear hD hp hn1 hol
        go_wp2_with fail
        go_round
        case rel => exact ⟨k + 1, by omega, by go_num, HT.out.succ HO.out HC.out⟩
        case measure => simp [intOf]; omega
      · have HF := Lib.hid (show outs.all D.contains = false from all_no HO.out (by rw [Bool.eq_false_iff]; intro h; exact hD (List.contains_iff_mem.1 h)))
        by_cases hkey : o ∈ l.map Prod.fst
        · obtain ⟨⟨o', v⟩, hp, rfl⟩ := List.mem_map.1 hkey
          obtain ⟨n, hn, hn1⟩ := HV.out.1 _ hp
          simp only at hn
          subst hn
          have hne : n = -1 := hn1.2 hD
          subst hne
          have hrun := HM.out.look_yes Tryz.underlying90 hp
          clear hD hp hn1 hol hkey
          go_wp2_with fail
          go_ret
          exact ⟨ret_bool HF.out.symm, Below.refl _ _⟩
        · have hrun := HM.out.look_no Tryz.underlying90 (zeroI w) hol hkey
          clear hD hol hkey
          go_wp2_with fail
          go_ret
          exact ⟨ret_bool HF.out.symm, Below.refl _ _⟩
    · have hke : k = outs.length := by omega
      have HF := Lib.hid (HT.out.all hke)
      clear hke
      go_wp2_with fail
      go_ret
      exact ⟨ret_bool HF.out.symm, Below.refl _ _⟩
end
end Go.Proofs.YtbpbnebcbjacdaaGreat
