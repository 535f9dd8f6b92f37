/-
  How many variables an expression has, as the law counts them; an expression sampled grows by one for each.
-/
import Derived.Test.YtaimagfdjbedeaaGreatDoorTreeEqS
import Derived.Test.YtaimagfdjbedeaaGreatDoorSugSpec
namespace Go.Proofs.YtaimagfdjbedeaaGreatDoor
open Go.RowKit

mutual
def varsW : Ex → Int
  | .mk op _ _ _ ks => if op = 4 then 1 else varsF 0 ks
def varsF : Int → List Ex → Int
  | n, [] => n
  | n, k :: r => varsF (wrap64 (n + varsW k)) r
end
theorem varsF_app (l m : List Ex) : ∀ n, varsF n (l ++ m) = varsF (varsF n l) m := by
  induction l with
  | nil => intro n; simp [varsF]
  | cons k r ih => intro n; simp [varsF, ih]
theorem varsF_snoc (n : Int) (l : List Ex) (k : Ex) : varsF n (l ++ [k]) = wrap64 (varsF n l + varsW k) := by
  rw [varsF_app]; simp [varsF]
theorem grown_list (f : Ex → Ex) : ∀ (ks : List Ex), (∀ k ∈ ks, sizeW (f k) = wrap64 (sizeW k + varsW k)) → ∀ a m v, a = wrap64 (m + v) → sizeF a (ks.map f) = wrap64 (sizeF m ks + varsF v ks)
  | [], _, a, m, v, h => by simpa [sizeF, varsF] using h
  | k :: r, H, a, m, v, h => by
    simp only [List.map_cons, sizeF, varsF]
    refine grown_list f r (fun x hx => H x (by simp [hx])) _ _ _ ?_
    rw [H k (by simp), h]
    unfold wrap64
    omega
theorem grown_size (x con : Tx) : ∀ y : Ex, sizeW (sampQ x con y) = wrap64 (sizeW y + varsW y) := fun y => by
  induction y using Ex.ind with
  | h op nm n cs ks ih =>
    by_cases ho : op = 4
    · subst ho
      rw [sampQ, rebQ_some (y := .mk 11 x 0 [con] [.mk 4 nm n cs ks]) (by simp [sampR])]
      simp only [sizeW, sizeF, varsW, if_true]
      unfold wrap64
      omega
    · rw [sampQ, rebQ_none (by simp [sampR, ho])]
      simp only [sizeW, varsW, if_neg ho]
      exact grown_list _ ks ih 1 1 0 (by unfold wrap64; omega)
set_option maxHeartbeats 1000000 in
theorem vars_any {w0 : World} {L : List Value} {x : Ex} (h : ExAt w0 L x) : ∀ w, Below w0.heap.size w0 w → Calls Tryz.prog 9 #[.agg L.toArray] w (IntPost (varsW x) w) := by
  induction h with
  | @mk op nm n cs ks cv A c C hop hnm hn hcs hl hc hk hx ih =>
    intro w hb
    have HB := Lib.hid hb
    have hlm : ks.length ≤ 9223372036854775807 := by unfold maxLen at hc; omega
    have hsz0 := hb.size
    clear hn hcs hb hl hc hnm
    by_cases ho : op = 4
    · subst ho
      clear hk hx ih hop
      go_enter Tryz.func9, Tryz.ntmps9
      go_wp2_with fail
      go_ret
      exact ⟨by simp [varsW], (Below.refl _ _).alloc (Nat.le_refl _) _⟩
    have hov : varsW (.mk op nm n cs ks) = varsF 0 ks := by rw [varsW, if_neg ho]
    rw [hov]
    have hd : decide (op = 4) = false := by simpa using ho
    unfold i64B at hop
    go_enter Tryz.func9, Tryz.ntmps9
    go_wp2_with fail
    have he : (op == 4) = false := by simpa using ho
    simp only [he]
    go_loopg [3, 4] ks.length (fun g s v wr => ∃ k : Nat, k + g = ks.length ∧ v = .int .i64 k ∧ s = .int .i64 (varsF 0 (ks.take k)) ∧ Below w.heap.size w wr ∧ wr.heap[w.heap.size]? = some (.cells #[.int .i64 op, .string (str nm), .int .i64 n, cv, .slice A ks.length c] 25 (0, 0)))
    case atStart => exact ⟨0, by omega, rfl, by simp [varsF], (Below.refl _ _).alloc (Nat.le_refl _) _, heap_alloc_new _ _⟩
    case round =>
      obtain ⟨k, hkg, rfl, rfl, hbw, hE⟩ := hrel
      have HE := Lib.hid hE
      obtain ⟨p0, p1, p2, p3, p4⟩ := row5 hE
      clear hE
      have HK := Lib.hid hkg
      have HW := Lib.hid hbw
      have hszw := hbw.size
      have hkl : k ≤ ks.length := by omega
      clear hkg hbw
      by_cases hlt : k < ks.length
      · obtain ⟨y, hy⟩ : ∃ y, ks[k]? = some y := ⟨_, List.getElem?_eq_getElem hlt⟩
        have hC := hk k y hy
        have hih := Lib.hid (ih k y hy)
        have hxk := hx k y hy
        have HS := Lib.hid (show varsF 0 (ks.take (k + 1)) = _ by rw [take_snoc hy, varsF_snoc])
        obtain ⟨o1, s1, n1, A1, m1, k1, A2, m2, k2, hL⟩ := hxk.shape
        generalize C k = L at hC hih hxk hL
        subst hL
        clear hy hxk hk hx ih
        have hB0 := Lib.hid ((HB.out.trans (HW.out.mono hsz0)))
        obtain ⟨a, rfl, ha, haa, d0, d1, d2, d3, d4⟩ := elem5 (hC.under hB0.out)
        clear hC
        go_wp2_with (go_at_call 9; refine (hih.out _ hB0.out).mono ?_; rintro e w1 ⟨rfl, hb1⟩)
        go_roundg (ks.length - (k + 1))
        case measure => have := HK.out; omega
        case rel => exact ⟨k + 1, by omega, by go_num, by rw [HS.out], HW.out.trans (hb1.mono (by omega)), box_next hb1 HE.out⟩
      · have hke : k = ks.length := by omega
        have HKE := Lib.hid hke
        clear hke
        go_wp2_with fail
        go_ret
        exact ⟨ret_int (by rw [HKE.out, List.take_length]), HW.out⟩
end Go.Proofs.YtaimagfdjbedeaaGreatDoor
