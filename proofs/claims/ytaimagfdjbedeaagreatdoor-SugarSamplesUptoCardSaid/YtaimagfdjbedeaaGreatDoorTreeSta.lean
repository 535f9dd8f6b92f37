/-
  statics.
-/
import Derived.Test.YtaimagfdjbedeaaGreatDoorTreeInf
namespace Go.Proofs.YtaimagfdjbedeaaGreatDoor
open Go.RowKit

theorem Kept1.keep {B b n : Nat} {w w' : World} (h : Kept1 B b w n) (hk : TKept B b w w') : Kept1 B b w' n := by
  rcases h with h | ⟨hb, cs, T, fz, hh, hT⟩
  · exact .inl h
  · exact .inr ⟨hb, cs, T, fz, (Kept1.heap (.inr ⟨hb, cs, T, fz, hh, hT⟩) hk).trans hh, hT⟩
theorem ToksAt.keep {B b : Nat} {w w' : World} {v : Value} {l : List Tx} (h : ToksAt B b w v l) (hk : TKept B b w w') : ToksAt B b w' v l := by
  obtain ⟨⟨A, c, rfl, h1, h2, h3⟩, hK⟩ := h
  refine ⟨⟨A, c, rfl, h1, h2, fun i x hx => ?_⟩, fun A' n' c' e hne => (hK A' n' c' e hne).keep hk⟩
  obtain ⟨L, ⟨a, rfl, hc⟩, hR⟩ := h3 i x hx
  refine ⟨L, ⟨a, rfl, fun j u hu => ?_⟩, hR⟩
  have hh := (hK a _ _ rfl (fun e => by rw [e] at hx; cases hx)).heap hk
  have := hc j u hu
  rw [World.cell?, add_block, add_block, hh]
  rw [World.cell?, add_block, add_block] at this
  exact this
set_option maxHeartbeats 1000000 in
theorem statics_any {B b : Nat} {ts : List Tx} {v : Value} {l : List Tx} (w : World) (h : TextW B b ts w) (hl : ToksAt B b w v l) (hlen : SizeOk (ts ++ staticsT l)) :
    Calls Tryz.prog 103 #[.pointer (some ⟨b, 0, none⟩), v] w (PutPost B b (ts ++ staticsT l) w) := by
  have hT := Lib.hid hl
  obtain ⟨⟨A, c, rfl, hc, hm, _⟩, _⟩ := hl
  have hlm : l.length ≤ 9223372036854775807 := by unfold maxLen at hm; omega
  have HT := Lib.hid h
  by_cases h0 : l = []
  · subst h0
    clear hc hm h hlen
    go_enter Tryz.func103, Tryz.ntmps103
    go_wp2_with fail
    first
      | (go_end0; exact ⟨rfl, by simpa [staticsT] using HT.out, TKept.refl _ _ _⟩)
      | (go_ret; exact ⟨rfl, by simpa [staticsT] using HT.out, TKept.refl _ _ _⟩)
  · have hne : l.length ≠ 0 := by simpa using h0
    have es : staticsT l = [(⟨#[91]⟩ : ByteArray).data.toList] ++ namesT [44] l ++ [(⟨#[93]⟩ : ByteArray).data.toList] := by simp [staticsT, h0]
    have HE := Lib.hid es
    have HN := Lib.hid (show SizeOk (ts ++ [(⟨#[91]⟩ : ByteArray).data.toList] ++ namesT [44] l ++ [(⟨#[93]⟩ : ByteArray).data.toList]) by rw [es] at hlen; simpa using hlen)
    clear hc hm h hlen es h0
    go_enter Tryz.func103, Tryz.ntmps103
    go_wp2_with (first
      | (go_at_call 46
         with_reducible refine (putN1 ⟨#[91]⟩ HT.out HN.out.left.left (lit_ok (by decide)) rfl).mono ?_
         rintro e w1 ⟨rfl, ht1, hk1⟩
         have HT1 := Lib.hid ht1
         have HK1 := Lib.hid hk1
         clear ht1 hk1)
      | (go_at_call 102
         refine (names_any (s := [44]) _ HT1.out (hT.out.keep HK1.out) HN.out.left (lit_ok (x := str [44]) (by decide))).mono ?_
         rintro e w2 ⟨rfl, ht2, hk2⟩)
      | (go_at_call 46
         with_reducible refine (putN1 ⟨#[93]⟩ ht2 HN.out (lit_ok (by decide)) rfl).mono ?_
         rintro e w3 ⟨rfl, ht3, hk3⟩))
    go_end0
    exact ⟨rfl, by rw [HE.out]; simpa using ht3, HK1.out.trans (hk2.trans hk3)⟩
end Go.Proofs.YtaimagfdjbedeaaGreatDoor
