/-
  ClocksSample: the walk.
-/
import Derived.Test.YtmceablhndldiaaGreatDoorClkMai
import Derived.Test.YtmceablhndldiaaGreatDoorCkLives
namespace Go.Proofs.YtmceablhndldiaaGreatDoor
open Go.RowKit

def Lived (w : World) (e : Ending) (w' : World) : Prop := e = .returned (.bool true) ∧ Below w.heap.size w w'
theorem lookV_mem {vs : List Vr} {x : Tx} {c : Clk} (h : lookV vs x = some c) : ∃ v ∈ vs, v.2 = c := by
  induction vs with
  | nil => cases h
  | cons u r ih =>
    rw [lookV] at h
    split at h
    · cases h; exact ⟨u, List.mem_cons_self, rfl⟩
    · obtain ⟨v, h1, h2⟩ := ih h
      exact ⟨v, List.mem_cons_of_mem _ h1, h2⟩
def aT : Tx := [65]
set_option maxRecDepth 100000 in
set_option maxHeartbeats 1000000 in
theorem sample_law {w : World} {va : Value} {vs : List Vr} {y : Ex} {L : List Value} {x : Tx} (ha : VarsAt w va vs) (hvl : ∀ v ∈ vs, v.2.length ≤ 2097151) (hy : ExAt w L y) (hs : Slim y) (hx : x.length ≤ maxLen) :
    Calls Tryz.prog 4 #[va, .agg L.toArray, .string (str x)] w (Lived w) := by
  obtain ⟨o1, s1, n1, A1, m1, k1, A2, m2, k2, rfl⟩ := hy.shape
  have b1 := (Below.refl w.heap.size w).alloc (Nat.le_refl _) (.cells #[.int .i64 o1, .string s1, .int .i64 n1, .slice A1 m1 k1, .slice A2 m2 k2] 31)
  have HB1 := Lib.hid b1
  have HA := Lib.hid ha
  have HY := Lib.hid hy
  have HS := Lib.hid hs
  have HX := Lib.hid hx
  have HVL := Lib.hid hvl
  have E0 := Lib.hid (heap_alloc_new w (.cells #[.int .i64 o1, .string s1, .int .i64 n1, .slice A1 m1 k1, .slice A2 m2 k2] 31))
  clear ha hy hs hx hvl b1
  cases hc : lookV vs x with
  | none =>
    have HC := Lib.hid hc
    clear hc
    go_enter Tryz.func4, Tryz.ntmps4
    go_wp2_with (first
      | (go_at_call 8; ((with_reducible refine (lives9_any _).mono ?_); rintro e w1 ⟨rfl, hb⟩; have HB2 := Lib.hid (HB1.out.trans (hb.mono HB1.out.size)); clear hb))
      | (go_at_call 9; ((with_reducible refine (clockR_any HA.out _ HB2.out).mono ?_); rintro e w2 ⟨rfl, hq⟩; rw [HC.out] at hq; obtain rfl := hq)))
    go_ret
    exact ⟨rfl, HB2.out⟩
  | some c =>
    have HC := Lib.hid hc
    have hcl : c.length ≤ 2097151 := by
      obtain ⟨v, h1, h2⟩ := lookV_mem hc
      rw [← h2]
      exact HVL.out v h1
    clear hc
    have HFL := Lib.hid (flat_any HY.out)
    cases hf : flatQ y with
    | false =>
      rw [hf] at HFL
      clear hf
      go_enter Tryz.func4, Tryz.ntmps4
      go_wp2_with (first
        | (go_at_call 8; ((with_reducible refine (lives9_any _).mono ?_); rintro e w1 ⟨rfl, hb⟩; have HB2 := Lib.hid (HB1.out.trans (hb.mono HB1.out.size)); have E2 := Lib.hid (box_next hb E0.out); obtain ⟨p0, p1, p2, p3, p4⟩ := row5 E2.out; clear hb))
        | (go_at_call 9; ((with_reducible refine (clockR_any HA.out _ HB2.out).mono ?_); rintro e w2 ⟨rfl, hq⟩; rw [HC.out] at hq; obtain ⟨A, n, k, rfl, hck⟩ := hq; obtain rfl : n = c.length := (by obtain ⟨_, _, e, _⟩ := hck; cases e; rfl); have HCK := Lib.hid hck; clear hck))
        | (go_at_call 10; ((with_reducible refine (HFL.out _ HB2.out).mono ?_); rintro e w3 ⟨rfl, hb⟩; have HB3 := Lib.hid (HB2.out.trans (hb.mono HB2.out.size)); have E3 := Lib.hid (box_next hb E2.out); obtain ⟨q0, q1, q2, q3, q4⟩ := row5 E3.out; clear hb)))
      go_ret
      exact ⟨rfl, HB3.out⟩
    | true =>
      rw [hf] at HFL
      have HOK := Lib.hid (flat_okT vs y hf)
      have HF := Lib.hid hf
      clear hf
      cases hfi : fitsQ vs y c with
      | false =>
        have HFI := Lib.hid hfi
        clear hfi
        go_enter Tryz.func4, Tryz.ntmps4
        go_wp2_with (first
          | (go_at_call 8; ((with_reducible refine (lives9_any _).mono ?_); rintro e w1 ⟨rfl, hb⟩; have HB2 := Lib.hid (HB1.out.trans (hb.mono HB1.out.size)); have E2 := Lib.hid (box_next hb E0.out); obtain ⟨p0, p1, p2, p3, p4⟩ := row5 E2.out; clear hb))
          | (go_at_call 9; ((with_reducible refine (clockR_any HA.out _ HB2.out).mono ?_); rintro e w2 ⟨rfl, hq⟩; rw [HC.out] at hq; obtain ⟨A, n, k, rfl, hck⟩ := hq; obtain rfl : n = c.length := (by obtain ⟨_, _, e, _⟩ := hck; cases e; rfl); have HCK := Lib.hid hck; clear hck))
          | (go_at_call 10; ((with_reducible refine (HFL.out _ HB2.out).mono ?_); rintro e w3 ⟨rfl, hb⟩; have HB3 := Lib.hid (HB2.out.trans (hb.mono HB2.out.size)); have E3 := Lib.hid (box_next hb E2.out); obtain ⟨q0, q1, q2, q3, q4⟩ := row5 E3.out; clear hb))
          | (go_at_call 11; ((with_reducible refine (fitsMain_any HA.out HVL.out HOK.out _ HB3.out (HY.out.under HB3.out) (HCK.out.under HB3.out)).mono ?_); rw [HFI.out]; rintro e w4 ⟨rfl, hb⟩; obtain ⟨V4, rfl⟩ : ∃ W, W = w4 := ⟨_, rfl⟩; have HB4 := Lib.hid (HB3.out.trans (hb.mono HB3.out.size)); have E4 := Lib.hid (box_next hb E3.out); obtain ⟨u0, u1, u2, u3, u4⟩ := row5 E4.out; clear hb)))
        go_ret
        exact ⟨rfl, HB4.out⟩
      | true =>
        have HFI := Lib.hid hfi
        clear hfi
        have HSA := Lib.hid (show ∀ W, Below w.heap.size w W → Calls Tryz.prog 12 #[.agg #[.int .i64 o1, .string s1, .int .i64 n1, .slice A1 m1 k1, .slice A2 m2 k2], .string (str x), .string ⟨#[65]⟩] W (RebPost (sampQ x aT y) W) from fun W hW => sample_any (con := aT) HX.out (by simp [aT, maxLen]) HY.out HS.out W hW)
        have HLEN := Lib.hid (show ([] : Clk).length + c.length ≤ 4194304 by simp; omega)
        have HLEN2 := Lib.hid (show c.length + [(x, aT)].length ≤ 4194304 by simp; omega)
        go_enter Tryz.func4, Tryz.ntmps4
        go_wp2_with (first
          | (go_at_call 8; ((with_reducible refine (lives9_any _).mono ?_); rintro e w1 ⟨rfl, hb⟩; have HB2 := Lib.hid (HB1.out.trans (hb.mono HB1.out.size)); have E2 := Lib.hid (box_next hb E0.out); obtain ⟨p0, p1, p2, p3, p4⟩ := row5 E2.out; clear hb))
          | (go_at_call 9; ((with_reducible refine (clockR_any HA.out _ HB2.out).mono ?_); rintro e w2 ⟨rfl, hq⟩; rw [HC.out] at hq; obtain ⟨A, n, k, rfl, hck⟩ := hq; obtain rfl : n = c.length := (by obtain ⟨_, _, e, _⟩ := hck; cases e; rfl); have HCK := Lib.hid hck; clear hck))
          | (go_at_call 10; ((with_reducible refine (HFL.out _ HB2.out).mono ?_); rintro e w3 ⟨rfl, hb⟩; have HB3 := Lib.hid (HB2.out.trans (hb.mono HB2.out.size)); have E3 := Lib.hid (box_next hb E2.out); obtain ⟨q0, q1, q2, q3, q4⟩ := row5 E3.out; clear hb))
          | (go_at_call 11; ((with_reducible refine (fitsMain_any HA.out HVL.out HOK.out _ HB3.out (HY.out.under HB3.out) (HCK.out.under HB3.out)).mono ?_); rw [HFI.out]; rintro e w4 ⟨rfl, hb⟩; obtain ⟨V4, rfl⟩ : ∃ W, W = w4 := ⟨_, rfl⟩; have HB4 := Lib.hid (HB3.out.trans (hb.mono HB3.out.size)); have E4 := Lib.hid (box_next hb E3.out); obtain ⟨u0, u1, u2, u3, u4⟩ := row5 E4.out; clear hb))
          | (go_at_call 12
             (with_reducible refine (HSA.out _ HB4.out).mono ?_)
             rintro e w5 ⟨hb, M, rfl, hM⟩
             obtain ⟨V5, rfl⟩ : ∃ W, W = w5 := ⟨_, rfl⟩
             have HB5 := Lib.hid (HB4.out.trans (hb.mono HB4.out.size))
             have HM := Lib.hid (hM.sub (new_sub _ _))
             obtain ⟨o7, s7, n7, A7, m7, k7, B7, j7, l7, rfl⟩ := hM.shape
             clear hb hM)
          | (at_builtin
             refine append_smps rfl _ _ rfl rfl rfl (OwnG.nil _) (HCK.out.under HB5.out) HLEN.out (Nat.le_refl _) ?_
             intro v6 w6 ho6 hb6
             obtain ⟨V6, rfl⟩ : ∃ W, W = w6 := ⟨_, rfl⟩
             rw [List.nil_append] at ho6
             obtain ⟨B6, j6, l6, rfl, rfl⟩ := ho6.shape
             have S6 := Lib.hid ((Below.refl V6.heap.size V6).alloc (Nat.le_refl _) (.cells #[.string (str x), .string ⟨#[65]⟩] 40))
             have HO6 := Lib.hid (ho6.under S6.out)
             have HS6 := Lib.hid (show SliceAt (V6.alloc (.cells #[.string (str x), .string ⟨#[65]⟩] 40)) SmpC (.slice (some ⟨V6.heap.size, 0, none⟩) 1 1) [(x, aT)] from made1 (L := [.string (str x), .string ⟨#[65]⟩]) (heap_alloc_new V6 _) ⟨rfl, HX.out, by simp [aT, maxLen]⟩ rfl)
             have B57 := Lib.hid (hb6.trans (S6.out.mono hb6.size))
             clear ho6 hb6)
          | (at_builtin
             refine append_smps rfl _ _ rfl rfl rfl HO6.out HS6.out HLEN2.out B57.out.size ?_
             intro v8 w8 ho8 hb8
             obtain ⟨V8, rfl⟩ : ∃ W, W = w8 := ⟨_, rfl⟩
             obtain ⟨B8, j8, l8, rfl, rfl⟩ := ho8.shape
             have B58 := B57.out.trans hb8
             have F2 := fitsMain_any (c := c ++ [(x, aT)]) HA.out HVL.out (samp_okT HC.out y HOK.out) V8 (HB5.out.trans (B58.mono HB5.out.size)) (HM.out.under B58) ho8.at_
             rw [samp_fits HC.out y HF.out HFI.out, show (c ++ [(x, aT)]).length = c.length + 1 by simp] at F2
             have HF2 := Lib.hid F2
             have HB8 := Lib.hid (HB5.out.trans (B58.mono HB5.out.size))
             clear ho8 hb8 B58 F2))
        (go_at_call 11
         (with_reducible refine HF2.out.mono ?_)
         rintro e w9 ⟨rfl, hb9⟩
         have HB9 := Lib.hid (HB8.out.trans (hb9.mono HB8.out.size))
         clear hb9)
        dsimp only
        go_wp2_with fail
        go_ret
        exact ⟨rfl, HB9.out⟩
end Go.Proofs.YtmceablhndldiaaGreatDoor
