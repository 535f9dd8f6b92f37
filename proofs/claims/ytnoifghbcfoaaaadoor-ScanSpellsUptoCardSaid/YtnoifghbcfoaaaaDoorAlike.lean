/-
  The reference's Alike at lists of tokens with the same keys.
-/
import Derived.Test.YtnoifghbcfoaaaaDoorTokens
import Derived.Test.YtnoifghbcfoaaaaDoorLexSpec
namespace Go.Proofs.YtnoifghbcfoaaaaDoor
open Go.RowKit

theorem key_parts {t u : Tok} (h : t.key = u.key) : u.sort = t.sort ∧ u.text = t.text ∧ u.num = t.num := by
  simp only [Tok.key, Key.mk.injEq] at h
  exact ⟨h.1.symm, h.2.1.symm, h.2.2.symm⟩
theorem key_at {A B : List Tok} (h : A.map Tok.key = B.map Tok.key) {k : Nat} {t : Tok} (ht : A[k]? = some t) : ∃ u, B[k]? = some u ∧ u.sort = t.sort ∧ u.text = t.text ∧ u.num = t.num := by
  have := congrArg (fun l => l[k]?) h
  simp only [List.getElem?_map, ht, Option.map_some] at this
  cases hb : B[k]? with
  | none => rw [hb] at this; cases this
  | some u =>
    rw [hb] at this
    exact ⟨u, rfl, key_parts (Option.some.inj this)⟩
set_option maxHeartbeats 1000000 in
theorem rAlike_any (g1 c1 g2 c2 : Nat) (A B : List Tok) (w : World) (hk : A.map Tok.key = B.map Tok.key) (hn : A.length ≤ 1073741824) (h1 : CellsAt w g1 A) (h2 : CellsAt w g2 B) :
    Calls Tryd.prog 21 #[.slice (some ⟨g1, 0, none⟩) A.length c1, .slice (some ⟨g2, 0, none⟩) B.length c2] w fun e w' => e = .returned (.bool true) ∧ ∃ nq, w' = w.drewN nq := by
  have hl : B.length = A.length := by have := congrArg List.length hk; simpa using this.symm
  rw [hl]
  have H1 := Lib.hid h1
  have H2 := Lib.hid h2
  have HKY := Lib.hid hk
  clear h1 h2 hk hl
  go_enter Tryd.func21, Tryd.ntmps21
  go_wp2_with fail
  go_loopg [5] A.length (fun g v wr => ∃ (k nq : Nat), k + g = A.length ∧ v = .int .i64 k ∧ wr = w.drewN nq)
  case atStart => exact ⟨0, 0, by omega, rfl, rfl⟩
  case round =>
    obtain ⟨k, nq, hk, rfl, rfl⟩ := hrel
    have HK := Lib.hid hk
    have hkl : k ≤ A.length := by omega
    clear hk
    by_cases hkn : k < A.length
    · obtain ⟨t, ht⟩ : ∃ t, A[k]? = some t := ⟨_, List.getElem?_eq_getElem hkn⟩
      obtain ⟨u, hu, e1, e2, e3⟩ := key_at HKY.out ht
      have CA : CellsAt (w.drewN nq) g1 A := H1.out
      have CB : CellsAt (w.drewN nq) g2 B := H2.out
      obtain ⟨a0, a1, a2, _, _⟩ := CA.tok ht
      obtain ⟨b0, b1, b2, _, _⟩ := CB.tok hu
      rw [e1] at b0
      rw [e2] at b1
      rw [e3] at b2
      clear CA CB ht hu e1 e2 e3
      generalize hwr : w.drewN nq = wr at a0 a1 a2 b0 b1 b2
      have HWR := Lib.hid hwr
      clear hwr
      go_wp2_with fail
      go_quiet (fail)
      go_wp2_with fail
      go_roundg (A.length - (k + 1))
      case measure => have := HK.out; omega
      case rel => exact ⟨k + 1, _, by omega, by go_num, by rw [← HWR.out, World.drewN_drewN]⟩
    · go_wp2_with fail
      go_ret
      exact ⟨rfl, _, rfl⟩
end Go.Proofs.YtnoifghbcfoaaaaDoor
