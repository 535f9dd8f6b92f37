/-
  Scan at long texts; the law's own look that the program lives.
-/
import Derived.Test.YtnoifghbcfoaaaaDoorScan
namespace Go.Proofs.YtnoifghbcfoaaaaDoor
open Go.RowKit

theorem scan_big (s : ByteArray) (w : World) (hs : 65536 < s.size) (hm : s.size ≤ maxLen) :
    Calls Tryd.prog 10 #[.string s] w fun e w' => e = .returned (.tuple #[.slice none 0 0, .agg #[.int .i64 9, .int .i64 0, .int .i64 0]]) ∧ Below w.heap.size w w' := by
  unfold maxLen at hm
  go_enter Tryd.func10, Tryd.ntmps10
  go_wp2_with fail
  exact bodyPost_ret (v := .tuple #[.slice none 0 0, .agg #[.int .i64 9, .int .i64 0, .int .i64 0]]) (scan_results rfl rfl (heap_alloc_new w _)) rfl ⟨rfl, (Below.refl _ _).alloc (Nat.le_refl _) _⟩

/-- a row of the call's own that is not empty -/
theorem own_slice {w : World} {B : Nat} {e : TypeId} {size n : Nat} {v : Value} {xs : List Value} (h : w.ownsRow B e size v n xs) (hn : 0 < n) :
    ∃ g cap, v = .slice (some ⟨g, 0, none⟩) n cap ∧ B ≤ g ∧ g < w.heap.size ∧ n ≤ cap ∧ cap ≤ maxLen ∧ ∀ j u, xs[j]? = some u → w.cell? ⟨g, j, none⟩ = some u := by
  rcases h.2 with ⟨_, h0⟩ | ⟨g, cap, cur, h1, h2, h3, h4, h5, h6, h7⟩
  · omega
  · refine ⟨g, cap, h1, h2, (Array.getElem?_eq_some_iff.1 h3).1, h4, h5, fun j u hu => ?_⟩
    have := h.cells (g := g) (by rw [h1]; rfl) j u hu
    have hadd : (⟨g, 0, none⟩ : Addr).add j = ⟨g, j, none⟩ := by unfold Addr.add; split <;> simp_all
    rwa [hadd] at this

def livesL : List UInt8 := [120, 49, 32, 61, 32, 51, 32, 102, 98, 121, 32, 121, 32, 45, 45, 32, 110, 111, 116, 101]
def livesToks : List Tok := [⟨1, [120, 49], 0, 1, 1⟩, ⟨4, [61], 0, 1, 4⟩, ⟨3, [51], 3, 1, 6⟩, ⟨5, [102, 98, 121], 0, 1, 8⟩, ⟨1, [121], 0, 1, 12⟩, ⟨6, [], 0, 1, 21⟩]
theorem lives_scan : scanAll livesL = (livesToks, none) := by kernel_rfl

/-- what Scan answers in the text of the look -/
theorem scan_lives (w : World) (he : Errs w) :
    Calls Tryd.prog 10 #[.string ⟨#[120, 49, 32, 61, 32, 51, 32, 102, 98, 121, 32, 121, 32, 45, 45, 32, 110, 111, 116, 101]⟩] w fun e w' => ∃ g cap, e = .returned (.tuple #[.slice (some ⟨g, 0, none⟩) 6 cap, .agg #[.int .i64 0, .int .i64 0, .int .i64 0]]) ∧
      w.heap.size ≤ g ∧ g < w'.heap.size ∧ Below w.heap.size w w' ∧
      w'.cell? ⟨g, 10, none⟩ = some (.int .i64 3) ∧ w'.cell? ⟨g, 11, none⟩ = some (.string ⟨#[51]⟩) ∧ w'.cell? ⟨g, 12, none⟩ = some (.int .i64 3) ∧ w'.cell? ⟨g, 13, none⟩ = some (.int .i64 1) ∧ w'.cell? ⟨g, 14, none⟩ = some (.int .i64 6) ∧ w'.cell? ⟨g, 25, none⟩ = some (.int .i64 6) := by
  refine (scan_any (str livesL) w (by decide) he).mono fun e w' ⟨hb, h⟩ => ?_
  rw [str_toList, lives_scan] at h
  rcases h with ⟨q, h, _⟩ | ⟨_, v, rfl, hown⟩
  · cases h
  · obtain ⟨g, cap, rfl, h1, h2, _, _, hc⟩ := own_slice hown (by decide)
    exact ⟨g, cap, rfl, h1, h2, hb, hc 10 _ rfl, hc 11 _ rfl, hc 12 _ rfl, hc 13 _ rfl, hc 14 _ rfl, hc 25 _ rfl⟩

def Lived (w : World) (e : Ending) (w' : World) : Prop := e = .returned (.bool true) ∧ Below w.heap.size w w'
set_option maxHeartbeats 1000000 in
theorem lives_any (w : World) (he : Errs w) : Calls Tryd.prog 9 #[] w (Lived w) := by
  have HE := Lib.hid he
  clear he
  go_enter Tryd.func9, Tryd.ntmps9
  go_wp2_with (go_at_call 10; refine (scan_lives _ HE.out).mono ?_; rintro e w' ⟨g, cap, rfl, hg1, hg2, hb, c10, c11, c12, c13, c14, c25⟩)
  go_ret
  exact ⟨rfl, hb.alloc hb.size _⟩
end Go.Proofs.YtnoifghbcfoaaaaDoor
