/-
  TreeScans' walk.
  TreeScans at what came in.
-/
import Derived.Test.YthffigagnodnmaaGreatDoorTreeLives
import Derived.Test.YthffigagnodnmaaGreatDoorTreeText
import Derived.Test.YthffigagnodnmaaGreatDoorTreeSpell
import Derived.Test.YthffigagnodnmaaGreatDoorTreeWt
import Derived.Test.YthffigagnodnmaaGreatDoorTreeLaid
namespace Go.Proofs.YthffigagnodnmaaGreatDoor
open Go.RowKit

theorem print_no {w0 : World} (htab : Tab w0) {p : QProg} {L : List Value} (hL : ProgAt w0 L p) (hq : ∀ x ∈ p.nodes, (nodeX x).length ≤ 1048576) (hs : SizeOk (progT p)) {g : Int} (hr : rightL false p = g) (hg : g ≠ 0) {w : World} (hb : Below w0.heap.size w0 w) :
    Calls Tryz.prog 21 #[.agg L.toArray] w fun e w' => e = .returned (.tuple #[.string ⟨#[]⟩, .int .i64 g]) ∧ Below w.heap.size w w' := by
  refine (print_any htab hL hq hs hb).mono ?_
  rintro e w' ⟨rfl, hb'⟩
  exact ⟨by rw [hr, if_neg hg]; rfl, hb'⟩
/-- what Print answers, its text known -/
def TextPost (S : Tx) (w : World) (e : Ending) (w' : World) : Prop := e = .returned (.tuple #[.string (str S), .int .i64 0]) ∧ Below w.heap.size w w'
theorem print_ok {w0 : World} (htab : Tab w0) {p : QProg} {L : List Value} (hL : ProgAt w0 L p) (hq : ∀ x ∈ p.nodes, (nodeX x).length ≤ 1048576) (hs : SizeOk (progT p)) (hr : rightL false p = 0) {w : World} (hb : Below w0.heap.size w0 w) :
    Calls Tryz.prog 21 #[.agg L.toArray] w (TextPost (spellL (progT p)) w) := by
  refine (print_any htab hL hq hs hb).mono ?_
  rintro e w' ⟨rfl, hb'⟩
  exact ⟨by rw [hr, if_pos rfl], hb'⟩
theorem right_no {w0 : World} {p : QProg} {L : List Value} (hL : ProgAt w0 L p) (hq : ∀ x ∈ p.nodes, (nodeX x).length ≤ 1048576) {g : Int} (hr : rightL false p = g) (w : World) (hb : Below w0.heap.size w0 w) :
    Calls Tryz.prog 19 #[.agg L.toArray, .bool false] w (IntPost g w) := by
  have := right_any false hL hq w hb
  rwa [hr] at this
theorem ProgAt.shape {w : World} {L : List Value} {p : QProg} (h : ProgAt w L p) : ∃ A1 n1 k1 A2 n2 k2, L = [.slice A1 n1 k1, .slice A2 n2 k2] := by
  obtain ⟨ev, nv, rfl, h1, h2⟩ := h
  obtain ⟨_, _, _, rfl⟩ := SliceAt.shape h1
  obtain ⟨_, _, _, rfl⟩ := SliceAt.shape h2
  exact ⟨_, _, _, _, _, _, rfl⟩
/-- what Scan answers of a text that scans -/
def ScanOkPost (toks : List Tok) (w : World) (e : Ending) (w' : World) : Prop := ∃ g cap, e = .returned (.tuple #[.slice (some ⟨g, 0, none⟩) toks.length cap, .agg #[.int .i64 0, .int .i64 0, .int .i64 0]]) ∧ g < w'.heap.size ∧ toks.length ≤ cap ∧ cap ≤ maxLen ∧ Below w.heap.size w w' ∧ TokCells w' ⟨g, 0, none⟩ toks
theorem scan_okP {s : Tx} {toks : List Tok} (w : World) (he : Errs w) (hs : s.length ≤ 65536) (h : scanAll s = (toks, none)) (hn : 0 < toks.length) : Calls Tryz.prog 25 #[.string (str s)] w (ScanOkPost toks w) := by
  refine (scan_any (str s) w hs he).mono fun e w' ⟨hb, h1⟩ => ?_
  rw [str_toList, h] at h1
  rcases h1 with ⟨q, h1, _⟩ | ⟨_, v, rfl, hown⟩
  · cases h1
  · rcases hown.2 with ⟨_, h0⟩ | ⟨g, cap, cur, rfl, h2, h3, h4, h5, h6, h7⟩
    · have h0' : toks.length = 0 := h0; omega
    · refine ⟨g, cap, rfl, lt_of_heap h3, h4, h5, hb, fun j u hu => ?_⟩
      exact hown.cells (g := g) rfl j u hu
theorem TokCells.pre {w : World} {a : Addr} {ts : List Tok} (h : TokCells w a ts) (n : Nat) : TokCells w a (ts.take n) := fun j u hu => h j u (by
  have e : ts.flatMap Tok.cells = (ts.take n).flatMap Tok.cells ++ (ts.drop n).flatMap Tok.cells := by rw [← List.flatMap_append, List.take_append_drop]
  rw [e, List.getElem?_append_left (List.getElem?_eq_some_iff.1 hu).1]
  exact hu)
def StrPost (S : Tx) (w : World) (e : Ending) (w' : World) : Prop := e = .returned (.string (str S)) ∧ Below w.heap.size w w'
theorem spell_toks {g c : Nat} {toks : List Tok} {ts : List Tx} {S : Tx} (hS : spellL ts = S) (hm : toks.map Tok.text = ts ++ [[]]) (hc : toks.length ≤ 65537) (hsz : S.length ≤ 65536) {w : World} (hg : g < w.heap.size) (h : TokCells w ⟨g, 0, none⟩ toks) :
    Calls Tryz.prog 26 #[.slice (some ⟨g, 0, none⟩) ts.length c] w (StrPost S w) := by
  subst hS
  have hl : toks.length = ts.length + 1 := by have := congrArg List.length hm; simpa using this
  have ht : (toks.take ts.length).map Tok.text = ts := by rw [List.map_take, hm, List.take_left]
  have hlen : (toks.take ts.length).length = ts.length := by rw [List.length_take]; omega
  have := spell_any ⟨g, 0, none⟩ c (toks.take ts.length) w (by omega) (by rw [ht]; omega) (fun _ => hg) (h.pre _)
  rw [hlen, ht] at this
  exact this
set_option maxHeartbeats 2000000 in
set_option maxRecDepth 100000 in
theorem scans_any {w : World} (htab : Tab w) (herr : Errs w) {p : QProg} {L : List Value} (hL : ProgAt w L p) (hq : ∀ x ∈ p.nodes, (nodeX x).length ≤ 1048576) (hs : SizeOk (progT p)) (hbd : bndP p) : Calls Tryz.prog 7 #[.agg L.toArray] w (Lived w) := by
  have HL := Lib.hid hL
  have HTB := Lib.hid htab
  have HER := Lib.hid herr
  have HQ := Lib.hid hq
  have HS := Lib.hid hs
  have HBD := Lib.hid hbd
  obtain ⟨A1, n1, k1, A2, n2, k2, rfl⟩ := hL.shape
  clear htab herr hL hq hs hbd
  have RC : (∃ g : Int, rightL false p = g ∧ g ≠ 0) ∨ rightL false p = 0 := by
    rcases rightL_cases p with h | h | h
    · exact .inr h
    · exact .inl ⟨9, h, by decide⟩
    · exact .inl ⟨10, h, by decide⟩
  rcases RC with ⟨g, hr, hg⟩ | hr
  · have HG := Lib.hid hr
    have HN := Lib.hid hg
    have hg1 : (g == 0) = false := beq_eq_false_iff_ne.2 hg
    have hg2 : (g != 0) = true := by simp [hg]
    clear hr hg
    go_enter Tryz.func7, Tryz.ntmps7
    go_wp2_with (first
      | (go_at_call 10
         refine (lives_any _ (HTB.out.under ((Below.refl _ w).alloc (Nat.le_refl _) _))).mono ?_
         rintro e w1 ⟨rfl, hb1⟩
         have bx := box_next hb1 (heap_alloc_new w _)
         obtain ⟨x0, x1⟩ := row2 bx
         have BX := Lib.hid bx
         have HB1 := Lib.hid (((Below.refl _ w).alloc (Nat.le_refl _) _).trans (hb1.mono (by simp)))
         clear bx hb1)
      | (go_at_call 21
         refine (print_no HTB.out HL.out HQ.out HS.out HG.out HN.out HB1.out).mono ?_
         rintro e w2 ⟨rfl, hb2⟩
         have bx := box_next hb2 BX.out
         obtain ⟨x0, x1⟩ := row2 bx
         have HB2 := Lib.hid (HB1.out.trans (hb2.mono HB1.out.size))
         clear bx hb2)
      | (go_at_call 19
         refine (right_no HL.out HQ.out HG.out _ HB2.out).mono ?_
         rintro e w3 ⟨rfl, hb3⟩))
    go_ret
    exact ⟨rfl, HB2.out.trans (hb3.mono HB2.out.size)⟩
  · obtain ⟨hok, hne⟩ := prog_ok (right_of_0 hr) HBD.out
    have HG := Lib.hid hr
    obtain ⟨hsc, htx⟩ := scan_toks hne hok
    by_cases hbig : (spellL (progT p)).length ≤ 65536
    · obtain ⟨toks, htoks⟩ : ∃ toks, scanAll (spellL (progT p)) = (toks, none) := ⟨(scanAll (spellL (progT p))).1, by rw [← hsc]⟩
      rw [htoks] at htx
      have hlen : toks.length = (progT p).length + 1 := by have := congrArg List.length htx; simpa using this
      have HTK := Lib.hid htoks
      have HTX := Lib.hid htx
      have hpos : 0 < (progT p).length := List.length_pos_iff.2 hne
      have hcount : (progT p).length ≤ 65536 := by
        have : ∀ ts : List Tx, (∀ t ∈ ts, t ≠ []) → ts.length ≤ (spellL ts).length := by
          intro ts
          induction ts with
          | nil => intro _; simp
          | cons t r ih =>
            intro h
            have h1 := List.length_pos_iff.2 (h t (by simp))
            have h2 := ih (fun x hx => h x (by simp [hx]))
            rw [spellL, List.length_cons, List.length_append]
            split
            · rename_i e; subst e; simp; omega
            · simp; omega
        have := this (progT p) (fun t ht => (hok t ht).1)
        omega
      have HBIG := Lib.hid hbig
      have HPR := Lib.hid (fun (W : World) (h : Below w.heap.size w W) => print_ok HTB.out HL.out HQ.out HS.out HG.out h)
      clear hr hok hne hsc htoks htx hbig HS HBD
      generalize progT p = ts at *
      obtain ⟨S, hS⟩ : ∃ S, spellL ts = S := ⟨_, rfl⟩
      have HS1 := Lib.hid hS
      rw [hS] at HPR HBIG HTK
      have hbig' : ((str S).size : Int) ≤ 65536 := by have := HBIG.out; rw [str_size]; omega
      clear hS
      have HLEN := Lib.hid hlen
      go_enter Tryz.func7, Tryz.ntmps7
      go_wp2_with (first
        | (go_at_call 10
           refine (lives_any _ (HTB.out.under ((Below.refl _ w).alloc (Nat.le_refl _) _))).mono ?_
           rintro e w1 ⟨rfl, hb1⟩
           have bx := box_next hb1 (heap_alloc_new w _)
           obtain ⟨x0, x1⟩ := row2 bx
           have BX := Lib.hid bx
           have HB1 := Lib.hid (((Below.refl _ w).alloc (Nat.le_refl _) _).trans (hb1.mono (by simp)))
           clear bx hb1)
        | (go_at_call 21
           refine (HPR.out _ HB1.out).mono ?_
           rintro e w2 ⟨rfl, hb2⟩
           have HB2 := Lib.hid (HB1.out.trans (hb2.mono HB1.out.size))
           clear hb2)
        | (go_at_call 25
           refine (scan_okP _ (HER.out.under HB2.out) HBIG.out HTK.out (by omega)).mono ?_
           rintro e w3 ⟨g, cap, rfl, hg, hc1, hc2, hb3, htc⟩
           have HTC := Lib.hid htc
           have HB3 := Lib.hid (HB2.out.trans (hb3.mono HB2.out.size))
           have hb3' := hb3.size
           clear hb3 htc)
        | (go_at_call 26
           refine (spell_toks HS1.out HTX.out (by omega) HBIG.out (by simp; omega) (HTC.out.under ((Below.refl _ _).alloc (Nat.le_refl _) _) (fun _ => hg))).mono ?_
           rintro e w4 ⟨rfl, hb4⟩))
      go_ret
      exact ⟨rfl, (HB3.out.alloc HB3.out.size _).trans (hb4.mono (by have := HB3.out.size; simp; omega))⟩
    · have HPR := Lib.hid (fun (W : World) (h : Below w.heap.size w W) => print_ok HTB.out HL.out HQ.out HS.out HG.out h)
      have hbig' : 65536 < ((str (spellL (progT p))).size : Int) := by rw [str_size]; omega
      clear hr hok hne hsc htx hbig HS HBD
      generalize spellL (progT p) = S at *
      go_enter Tryz.func7, Tryz.ntmps7
      go_wp2_with (first
        | (go_at_call 10
           refine (lives_any _ (HTB.out.under ((Below.refl _ w).alloc (Nat.le_refl _) _))).mono ?_
           rintro e w1 ⟨rfl, hb1⟩
           have bx := box_next hb1 (heap_alloc_new w _)
           obtain ⟨x0, x1⟩ := row2 bx
           have HB1 := Lib.hid (((Below.refl _ w).alloc (Nat.le_refl _) _).trans (hb1.mono (by simp)))
           clear bx hb1)
        | (go_at_call 21
           refine (HPR.out _ HB1.out).mono ?_
           rintro e w2 ⟨rfl, hb2⟩))
      go_ret
      exact ⟨rfl, HB1.out.trans (hb2.mono HB1.out.size)⟩
end Go.Proofs.YthffigagnodnmaaGreatDoor
namespace Go.Proofs.YthffigagnodnmaaGreatDoor
open Go.RowKit

theorem laid_scans {W : World} (h : laidMetH Tryz.prog Rows.treeScansUptoRow.laid W) : Tab W ∧ Errs W := by
  have h : laidMet Tryz.prog Rows.treeScansUptoRow.laid W := h
  exact ⟨tab_head h.tail.tail, laid_iface h.tail.tail.tail.tail (by kernel_rfl) (by kernel_rfl) Tryz.underlying94, laid_iface h.tail.tail.tail (by kernel_rfl) (by kernel_rfl) Tryz.underlying94⟩
theorem scans_law (L : List Value) (p : QProg) (w : World) (hL : ProgAt w L p) (hq : wProg p ≤ 1048576) (h : Tab w ∧ Errs w) : Calls Tryz.prog 7 #[.agg L.toArray] w (Lived w) :=
  scans_any h.1 h.2 hL (prog_few hq) (prog_size hL.i64 hq) hL.i64.bnd
end Go.Proofs.YthffigagnodnmaaGreatDoor
