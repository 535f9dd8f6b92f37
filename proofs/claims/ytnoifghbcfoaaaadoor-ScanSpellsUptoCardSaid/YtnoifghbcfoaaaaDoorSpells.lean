/-
  ScanSpells: the walks, case by case.
-/
import Derived.Test.YtnoifghbcfoaaaaDoorSpell
namespace Go.Proofs.YtnoifghbcfoaaaaDoor
open Go.RowKit

def TextPost (S : ByteArray) (w : World) (e : Ending) (w' : World) : Prop := e = .returned (.string S) ∧ Below w.heap.size w w'
def TextSame (S : ByteArray) (w : World) (e : Ending) (w' : World) : Prop := e = .returned (.string S) ∧ w = w'
def NoPost (w : World) (e : Ending) (w' : World) : Prop := ∃ x p q : Int, (x != 0) = true ∧ e = .returned (.tuple #[.slice none 0 0, .agg #[.int .i64 x, .int .i64 p, .int .i64 q]]) ∧ Below w.heap.size w w'
theorem scan_no (s : ByteArray) (w : World) (hm : s.size ≤ maxLen) (he : Errs w) (h : ¬(s.size ≤ 65536 ∧ (scanAll s.data.toList).2 = none)) : Calls Tryd.prog 10 #[.string s] w (NoPost w) := by
  by_cases hs : s.size ≤ 65536
  · refine (scan_any s w hs he).mono fun e w' ⟨hb, hd⟩ => ?_
    rcases hd with ⟨q, _, rfl⟩ | ⟨h2, _⟩
    · exact ⟨_, _, _, rfl, rfl, hb⟩
    · exact absurd ⟨hs, h2⟩ h
  · exact (scan_big s w (by omega) hm).mono fun e w' ⟨h, hb⟩ => ⟨_, _, _, rfl, h, hb⟩

set_option maxRecDepth 100000 in
set_option maxHeartbeats 1000000 in
theorem spells_bad (v : Value) (S : ByteArray) (s : ByteArray) (w : World) (he : Errs w) (hs1 : ∀ w', Below w.heap.size w w' → Calls Tryd.prog 19 #[v] w' (TextPost S w')) (hs2 : ∀ w', Below w.heap.size w w' → Calls Tryd.prog 20 #[v] w' (TextSame S w'))
    (h1 : ∀ w, Errs w → Calls Tryd.prog 10 #[.string s] w (NoPost w)) :
    Calls Tryd.prog 5 #[v, .string s] w (Lived w) := by
  have HE := Lib.hid he
  have HS1 := Lib.hid hs1
  have HS2 := Lib.hid hs2
  have H1 := Lib.hid h1
  clear he hs1 hs2 h1
  go_enter Tryd.func5, Tryd.ntmps5
  go_wp2_with (first | (go_at_call 9; refine (lives_any _ HE.out).mono ?_; rintro e w1 ⟨rfl, hb0⟩; have HE1 := Lib.hid (HE.out.under hb0)) | (go_at_call 19; refine (HS1.out _ hb0).mono ?_; rintro e w2 ⟨rfl, hb1⟩; have hb1' := hb0.trans (hb1.mono hb0.size); have HE2 := Lib.hid (HE.out.under hb1')) | (go_at_call 20; refine (HS2.out _ hb1').mono ?_; rintro e w3 ⟨rfl, rfl⟩) | (go_at_call 10; refine (H1.out _ HE2.out).mono ?_; rintro e w4 ⟨x, p, q, hx, rfl, hb4⟩))
  go_ret
  exact ⟨rfl, (hb1'.trans (hb4.mono hb1'.size)).alloc (Nat.le_trans hb1'.size hb4.size) _⟩

set_option maxRecDepth 100000 in
set_option maxHeartbeats 1000000 in
theorem spells_long (ts : List Tok) (v : Value) (S T : ByteArray) (s : ByteArray) (w : World) (he : Errs w) (hs1 : ∀ w', Below w.heap.size w w' → Calls Tryd.prog 19 #[v] w' (TextPost S w')) (hs2 : ∀ w', Below w.heap.size w w' → Calls Tryd.prog 20 #[v] w' (TextSame S w'))
    (h1 : ∀ w, Errs w → Calls Tryd.prog 10 #[.string s] w (OkPost ts w)) (hs3 : ∀ g c w, g < w.heap.size → CellsAt w g ts → Calls Tryd.prog 19 #[.slice (some ⟨g, 0, none⟩) ts.length c] w (TextPost T w)) (hT : 65536 < T.size) :
    Calls Tryd.prog 5 #[v, .string s] w (Lived w) := by
  have HE := Lib.hid he
  have HS1 := Lib.hid hs1
  have HS2 := Lib.hid hs2
  have HS3 := Lib.hid hs3
  have H1 := Lib.hid h1
  clear he hs1 hs2 hs3 h1
  go_enter Tryd.func5, Tryd.ntmps5
  go_wp2_with (first | (go_at_call 9; refine (lives_any _ HE.out).mono ?_; rintro e w1 ⟨rfl, hb0⟩; have HE1 := Lib.hid (HE.out.under hb0)) | (go_at_call 19; (with_reducible refine (HS1.out _ hb0).mono ?_); rintro e w2 ⟨rfl, hb1⟩; have hb1' := hb0.trans (hb1.mono hb0.size); have HE2 := Lib.hid (HE.out.under hb1')) | (go_at_call 20; refine (HS2.out _ hb1').mono ?_; rintro e w3 ⟨rfl, rfl⟩) | (go_at_call 10; refine (H1.out _ HE2.out).mono ?_; rintro e w4 ⟨g1, c1, rfl, hg1, hgl1, hc1, hcm1, hb4, hcells1⟩; have HC1 := Lib.hid (show CellsAt w4 g1 ts from hcells1); clear hcells1) | (go_at_call 19; (with_reducible refine (HS3.out g1 c1 _ (by simp; omega) (HC1.out.alloc hgl1 _)).mono ?_); rintro e w5 ⟨rfl, hb5⟩))
  go_ret
  have s1 := hb1'.size
  have s4 := hb4.size
  exact ⟨rfl, ((hb1'.trans (hb4.mono s1)).alloc (Nat.le_trans s1 s4) _).trans (hb5.mono (by simp; omega))⟩

set_option maxRecDepth 100000 in
set_option maxHeartbeats 1000000 in
theorem spells_ok (ts ts3 : List Tok) (v : Value) (S T : ByteArray) (s : ByteArray) (w : World) (he : Errs w) (hs1 : ∀ w', Below w.heap.size w w' → Calls Tryd.prog 19 #[v] w' (TextPost S w')) (hs2 : ∀ w', Below w.heap.size w w' → Calls Tryd.prog 20 #[v] w' (TextSame S w'))
    (h1 : ∀ w, Errs w → Calls Tryd.prog 10 #[.string s] w (OkPost ts w)) (hs3 : ∀ g c w, g < w.heap.size → CellsAt w g ts → Calls Tryd.prog 19 #[.slice (some ⟨g, 0, none⟩) ts.length c] w (TextPost T w)) (hT : T.size ≤ 65536)
    (h3 : ∀ w, Errs w → Calls Tryd.prog 10 #[.string T] w (OkPost ts3 w)) (hk : ts.map Tok.key = ts3.map Tok.key) (hn : ts.length ≤ 65537) :
    Calls Tryd.prog 5 #[v, .string s] w (Lived w) := by
  have HE := Lib.hid he
  have HS1 := Lib.hid hs1
  have HS2 := Lib.hid hs2
  have HS3 := Lib.hid hs3
  have H1 := Lib.hid h1
  have H3 := Lib.hid h3
  have HKY := Lib.hid hk
  clear he hs1 hs2 hs3 h1 h3 hk
  go_enter Tryd.func5, Tryd.ntmps5
  go_wp2_with (first | (go_at_call 9; refine (lives_any _ HE.out).mono ?_; rintro e w1 ⟨rfl, hb0⟩; have HE1 := Lib.hid (HE.out.under hb0)) | (go_at_call 19; (with_reducible refine (HS1.out _ hb0).mono ?_); rintro e w2 ⟨rfl, hb1⟩; have hb1' := hb0.trans (hb1.mono hb0.size); have HE2 := Lib.hid (HE.out.under hb1')) | (go_at_call 20; refine (HS2.out _ hb1').mono ?_; rintro e w3 ⟨rfl, rfl⟩) | (go_at_call 10; (with_reducible refine (H1.out _ HE2.out).mono ?_); rintro e w4 ⟨g1, c1, rfl, hg1, hgl1, hc1, hcm1, hb4, hcells1⟩; have HC1 := Lib.hid (show CellsAt w4 g1 ts from hcells1); have HE4 := Lib.hid (HE2.out.under hb4); clear hcells1) | (go_at_call 19; (with_reducible refine (HS3.out g1 c1 _ (by simp; omega) (HC1.out.alloc hgl1 _)).mono ?_); rintro e w5 ⟨rfl, hb5⟩; have hl5 := hb5.size; simp at hl5; have HC5 := Lib.hid ((HC1.out.alloc hgl1 _).under hb5 (by simp; omega)); have HE5 := Lib.hid ((HE4.out.under ((Below.refl _ w4).alloc (Nat.le_refl _) _)).under hb5)) | (go_at_call 10; (with_reducible refine (H3.out _ HE5.out).mono ?_); rintro e w6 ⟨g3, c3, rfl, hg3, hgl3, hc3, hcm3, hb6, hcells3⟩; have HC3 := Lib.hid (show CellsAt w6 g3 ts3 from hcells3); clear hcells3; have HC6 := Lib.hid (HC5.out.under hb6 (by omega))) | (go_at_call 21; refine (rAlike_any g1 c1 g3 c3 ts ts3 _ HKY.out (by omega) (HC6.out.alloc (by have := hb6.size; omega) _) (HC3.out.alloc hgl3 _)).mono ?_; rintro e w7 ⟨rfl, nq, rfl⟩))
  go_ret
  have s1 := hb1'.size
  have s4 := hb4.size
  have s6 := hb6.size
  exact ⟨rfl, below_drewN (((((hb1'.trans (hb4.mono s1)).alloc (Nat.le_trans s1 s4) _).trans (hb5.mono (by simp; omega))).trans (hb6.mono (by omega))).alloc (by omega) _) _⟩

/-- the slice that came in: nil, or tokens below the call's own blocks -/
def CameIn (w : World) (v : Value) (ts : List Tok) : Prop := (v = .slice none 0 0 ∧ ts = []) ∨ ∃ a c, v = .slice (some a) ts.length c ∧ (ts ≠ [] → a.block < w.heap.size) ∧ TokCells w a ts
theorem cells_tok {w : World} {g : Nat} {ts : List Tok} (h : CellsAt w g ts) : TokCells w ⟨g, 0, none⟩ ts := fun j u hu => by
  have hadd : (⟨g, 0, none⟩ : Addr).add j = ⟨g, j, none⟩ := by unfold Addr.add; split <;> simp_all
  rw [hadd]; exact h j u hu
theorem came_spell {w : World} {v : Value} {ts : List Tok} (h : CameIn w v ts) (hn : ts.length ≤ 1073741824) (hsz : (spellL (ts.map Tok.text)).length ≤ 1073741824) (w' : World) (hb : Below w.heap.size w w') :
    Calls Tryd.prog 19 #[v] w' (TextPost (str (spellL (ts.map Tok.text))) w') := by
  rcases h with ⟨rfl, rfl⟩ | ⟨a, c, rfl, ha, hc⟩
  · exact spell_nil w'
  · exact spell_any a c ts w' hn hsz (fun h => Nat.lt_of_lt_of_le (ha h) hb.size) (hc.under hb ha)
theorem came_rspell {w : World} {v : Value} {ts : List Tok} (h : CameIn w v ts) (hn : ts.length ≤ 1073741824) (hsz : (spellL (ts.map Tok.text)).length ≤ 1073741824) (w' : World) (hb : Below w.heap.size w w') :
    Calls Tryd.prog 20 #[v] w' (TextSame (str (spellL (ts.map Tok.text))) w') := by
  rcases h with ⟨rfl, rfl⟩ | ⟨a, c, rfl, ha, hc⟩
  · exact rSpell_nil w'
  · exact rSpell_any a c ts w' hn hsz (hc.under hb ha)
theorem spells_any (v : Value) (ts0 : List Tok) (s : ByteArray) (w : World) (hc : CameIn w v ts0) (hn0 : ts0.length ≤ 1073741824) (hsz0 : (spellL (ts0.map Tok.text)).length ≤ 1073741824) (hm : s.size ≤ maxLen) (he : Errs w) :
    Calls Tryd.prog 5 #[v, .string s] w (Lived w) := by
  have e1 := came_spell hc hn0 hsz0
  have e2 := came_rspell hc hn0 hsz0
  by_cases h1 : s.size ≤ 65536 ∧ (scanAll s.data.toList).2 = none
  · have x1 := lex_of_scan h1.2
    have hlen := lex_spell_len x1
    have hl : s.data.toList.length = s.size := by simp
    have htx : ((scanAll s.data.toList).1.map Tok.key).map Key.text = (scanAll s.data.toList).1.map Tok.text := by rw [List.map_map]; rfl
    have x2 := lex_spell x1
    rw [htx] at hlen x2
    have hcl := scan_ok_len s
    have hs3 : ∀ g c w, g < w.heap.size → CellsAt w g (scanAll s.data.toList).1 → Calls Tryd.prog 19 #[.slice (some ⟨g, 0, none⟩) (scanAll s.data.toList).1.length c] w (TextPost (str (spellL ((scanAll s.data.toList).1.map Tok.text))) w) :=
      fun g c w hg hcs => spell_any ⟨g, 0, none⟩ c _ w (by omega) (by omega) (fun _ => hg) (cells_tok hcs)
    by_cases hT : (str (spellL ((scanAll s.data.toList).1.map Tok.text))).size ≤ 65536
    · obtain ⟨y1, y2⟩ := scan_of_lex x2
      exact spells_ok _ _ v _ _ s w he e1 e2 (fun w he => scan_ok s h1.1 h1.2 w he) hs3 hT (fun w he => scan_ok (str (spellL ((scanAll s.data.toList).1.map Tok.text))) hT y1 w he) y2.symm (by omega)
    · exact spells_long _ v _ _ s w he e1 e2 (fun w he => scan_ok s h1.1 h1.2 w he) hs3 (by omega)
  · exact spells_bad v _ s w he e1 e2 (fun w he => scan_no s w hm he h1)
end Go.Proofs.YtnoifghbcfoaaaaDoor
