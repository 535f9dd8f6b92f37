/-
  ScanPlaces: the walk.
-/
import Derived.Test.YtnoifghbcfoaaaaDoorLives
import Derived.Test.YtnoifghbcfoaaaaDoorPlaceSpec
import Derived.LoopTactic
import Derived.Deep.LoopGhost
import Derived.Deep.QuietTactic
import Derived.BigQuiet
namespace Go.Proofs.YtnoifghbcfoaaaaDoor
open Go.RowKit

theorem flat_at : ∀ (ts : List Tok) (k : Nat) (t : Tok), ts[k]? = some t → ∀ f, f < 5 → (ts.flatMap Tok.cells)[k * 5 + f]? = t.cells[f]? := by
  intro ts
  induction ts with
  | nil => intro k t h; simp at h
  | cons x r ih =>
    intro k t h f hf
    have hx : x.cells.length = 5 := rfl
    rw [List.flatMap_cons]
    cases k with
    | zero =>
      simp only [List.getElem?_cons_zero, Option.some.injEq] at h
      subst h
      rw [List.getElem?_append_left (by rw [hx]; omega)]
      congr 1; omega
    | succ k =>
      rw [List.getElem?_cons_succ] at h
      rw [List.getElem?_append_right (by rw [hx]; omega), hx, show (k + 1) * 5 + f - 5 = k * 5 + f from by omega]
      exact ih k t h f hf

/-- what Scan answers in a text that scans -/
def OkPost (ts : List Tok) (w : World) (e : Ending) (w' : World) : Prop :=
  ∃ g cap, e = .returned (.tuple #[.slice (some ⟨g, 0, none⟩) ts.length cap, .agg #[.int .i64 0, .int .i64 0, .int .i64 0]]) ∧ w.heap.size ≤ g ∧ g < w'.heap.size ∧ ts.length ≤ cap ∧ cap ≤ maxLen ∧ Below w.heap.size w w' ∧ ∀ j u, (ts.flatMap Tok.cells)[j]? = some u → w'.cell? ⟨g, j, none⟩ = some u
theorem scan_ok (s : ByteArray) (hs : s.size ≤ 65536) (h : (scanAll s.data.toList).2 = none) (w : World) (he : Errs w) : Calls Tryd.prog 10 #[.string s] w (OkPost (scanAll s.data.toList).1 w) := by
  refine (scan_any s w hs he).mono fun e w' ⟨hb, hd⟩ => ?_
  rcases hd with ⟨q, h2, _⟩ | ⟨_, v, rfl, hown⟩
  · rw [h] at h2; cases h2
  · obtain ⟨g, cap, rfl, h1, h2, h3, h4, hc⟩ := own_slice hown (scanF_ne h)
    exact ⟨g, cap, rfl, h1, h2, h3, h4, hb, hc⟩
theorem scan_ok_len (s : ByteArray) : (scanAll s.data.toList).1.length ≤ s.size + 1 := by
  have h1 := scanF_len (f := s.data.toList.length + 1) (l := s.data.toList) (p := (1, 1))
  have h3 : s.data.toList.length = s.size := by simp
  show (scanF _ _ _).1.length ≤ _
  omega

set_option maxRecDepth 100000 in
set_option maxHeartbeats 4000000 in
theorem places_ok (ts : List Tok) (s : ByteArray) (w : World) (hs : s.size ≤ 65536) (he : Errs w) (hn : ts.length ≤ 65537) (hP : Placed s.data.toList 0 ts) (hscan : ∀ w, Errs w → Calls Tryd.prog 10 #[.string s] w (OkPost ts w)) :
    Calls Tryd.prog 6 #[.string s] w (Lived w) := by
  have HE := Lib.hid he
  have HSK := Lib.hid hscan
  have HPL := Lib.hid hP
  clear he hscan hP
  go_enter Tryd.func6, Tryd.ntmps6
  go_wp2_with (first | (go_at_call 9; refine (lives_any _ HE.out).mono ?_; rintro e w1 ⟨rfl, hb1⟩; have HE1 := Lib.hid (HE.out.under hb1)) | (go_at_call 10; refine (HSK.out _ HE1.out).mono ?_; rintro e w2 ⟨g, cap, rfl, hg1, hg2, hcap, hcap2, hb2, hcells⟩; have HC := Lib.hid hcells; clear hcells))
  have hB : Below w.heap.size w (w2.alloc (.cells #[.int .i64 0, .int .i64 0, .int .i64 0] 26)) := (hb1.trans (hb2.mono hb1.size)).alloc (Nat.le_trans hb1.size hb2.size) _
  have hC : ∀ j u, (ts.flatMap Tok.cells)[j]? = some u → (w2.alloc (.cells #[.int .i64 0, .int .i64 0, .int .i64 0] 26)).cell? ⟨g, j, none⟩ = some u := fun j u h => by
    rw [World.cell?_of_block (Below.heap_alloc _ _ _ hg2)]
    exact HC.out j u h
  clear HC hb1 hb2
  generalize w2.alloc (.cells #[.int .i64 0, .int .i64 0, .int .i64 0] 26) = W at hB hC
  generalize hl : s.data.toList = l at HPL
  have hll : l.length = s.size := by rw [← hl]; simp
  have HL := Lib.hid hl
  have HLL := Lib.hid hll
  have HCW := Lib.hid hC
  clear hl hll hC
  go_loopg [5, 6, 7, 8] ts.length (fun gk va vl vc vi wr => ∃ (k a : Nat) (li co : Int) (nq : Nat), k + gk = ts.length ∧ va = .int .i64 a ∧ vl = .int .i64 li ∧ vc = .int .i64 co ∧ vi = .int .i64 k ∧ (li, co) = posL (l.take a) (1, 1) ∧ a ≤ l.length ∧ Placed l a (ts.drop k) ∧ wr = W.drewN nq)
  case atStart => exact ⟨0, 0, 1, 1, 0, by omega, rfl, rfl, rfl, rfl, rfl, Nat.zero_le _, HPL.out, rfl⟩
  case round =>
    obtain ⟨k, a, li, co, nq, hk, rfl, rfl, rfl, rfl, hp, hal, hpl, rfl⟩ := hrel
    have HK := Lib.hid hk
    have HPO := Lib.hid hp
    have HPK := Lib.hid hpl
    have hkl : k ≤ ts.length := by omega
    have hbd := posL_bd (l.take a) (1, 1) (by simp) (by simp)
    rw [← hp] at hbd
    have hat : (l.take a).length = a := by rw [List.length_take]; omega
    have hals : a ≤ s.size := by have := HLL.out; omega
    simp only [hat] at hbd
    obtain ⟨hb1, hb2, hb3, hb4⟩ := hbd
    clear hk hp hpl hat
    by_cases hkn : k < ts.length
    · obtain ⟨t, ht⟩ : ∃ t, ts[k]? = some t := ⟨_, List.getElem?_eq_getElem hkn⟩
      have hd : ts.drop k = t :: ts.drop (k + 1) := by
        rw [List.drop_eq_getElem_cons hkn]
        rw [List.getElem?_eq_getElem hkn] at ht
        rw [Option.some.inj ht]
      have hpk := HPK.out
      rw [hd] at hpk
      obtain ⟨off, ho1, ho2, ho3, ho4, ho5, ho6, ho7⟩ := hpk
      have c1 : (W.drewN nq).cell? ⟨g, k * 5 + 1, none⟩ = some (.string (str t.text)) := HCW.out _ _ (flat_at ts k t ht 1 (by omega))
      have c3 : (W.drewN nq).cell? ⟨g, k * 5 + 3, none⟩ = some (.int .i64 t.line) := HCW.out _ _ (flat_at ts k t ht 3 (by omega))
      have c4 : (W.drewN nq).cell? ⟨g, k * 5 + 4, none⟩ = some (.int .i64 t.col) := HCW.out _ _ (flat_at ts k t ht 4 (by omega))
      have hos : off + t.text.length ≤ s.size := by have := HLL.out; omega
      have H3 := Lib.hid ho3
      have H4 := Lib.hid ho4
      have H5 := Lib.hid ho5
      have H6 := Lib.hid ho6
      have H7 := Lib.hid ho7
      have HT := Lib.hid ht
      clear ho3 ho4 ho5 ho6 ho7 hd ht HPK
      go_wp2_with fail
      go_loopg [5, 6, 7] (off - a) (fun g5 va vl vc wx => ∃ (a' : Nat) (li co : Int), a' + g5 = off ∧ a ≤ a' ∧ va = .int .i64 a' ∧ vl = .int .i64 li ∧ vc = .int .i64 co ∧ (li, co) = posL (l.take a') (1, 1) ∧ wx = W.drewN nq)
      case atStart => exact ⟨a, li, co, by omega, Nat.le_refl _, rfl, rfl, rfl, HPO.out, rfl⟩
      case round =>
        clear hb1 hb2 hb3 hb4 HPO
        obtain ⟨a', li, co, hg, haa, rfl, rfl, rfl, hp, rfl⟩ := hrel
        have HG := Lib.hid hg
        have hao : a' ≤ off := by omega
        have hbd := posL_bd (l.take a') (1, 1) (by simp) (by simp)
        rw [← hp] at hbd
        have hall : a' ≤ l.length := by omega
        have hat : (l.take a').length = a' := by rw [List.length_take]; omega
        simp only [hat] at hbd
        obtain ⟨hb1, hb2, hb3, hb4⟩ := hbd
        have HPO := Lib.hid hp
        clear hg hp hat
        have h4 := H4.out
        by_cases hlo : a' < off
        · have hless : Less (li, co) (t.line, t.col) := by
            rw [HPO.out, h4]
            have := posL_less (l := l) (a := a') (d := off - a' - 1) (by omega)
            rwa [show a' + (off - a' - 1) + 1 = off from by omega] at this
          have has : a' < s.size := by omega
          have hcz := Lib.hid (drop_cons s a' has)
          have hstep : posL (l.take (a' + 1)) (1, 1) = if s[a'].toNat = 10 then (li + 1, 1) else (li, co + 1) := by
            have hz := hcz.out
            rw [HL.out] at hz
            have : l.take (a' + 1) = l.take a' ++ [s[a']] := by
              rw [List.take_add, hz]; rfl
            rw [this, posL_snoc, ← HPO.out]
          have HST := Lib.hid hstep
          clear hstep h4
          unfold Less at hless
          simp only at hless
          by_cases hnl : s[a'].toNat = 10
          · have hnl' : ((s[a'].toNat : Int) == 10) = true := by simp; omega
            have HN := Lib.hid hnl
            clear hnl
            by_cases hll : li < t.line
            · go_wp2_with fail
              go_roundg (off - a' - 1)
              case measure => have := HG.out; omega
              case rel => exact ⟨a' + 1, li + 1, 1, by omega, by omega, by go_num, rfl, rfl, by rw [HST.out, if_pos HN.out], rfl⟩
            · have hle : (li == t.line) = true := by simp; omega
              have hcl : co < t.col := by omega
              go_wp2_with fail
              go_roundg (off - a' - 1)
              case measure => have := HG.out; omega
              case rel => exact ⟨a' + 1, li + 1, 1, by omega, by omega, by go_num, rfl, rfl, by rw [HST.out, if_pos HN.out], rfl⟩
          · have hnl' : ((s[a'].toNat : Int) == 10) = false := by simp; omega
            have HN := Lib.hid hnl
            clear hnl
            by_cases hll : li < t.line
            · go_wp2_with fail
              go_roundg (off - a' - 1)
              case measure => have := HG.out; omega
              case rel => exact ⟨a' + 1, li, co + 1, by omega, by omega, by go_num, rfl, rfl, by rw [HST.out, if_neg HN.out], rfl⟩
            · have hle : (li == t.line) = true := by simp; omega
              have hcl : co < t.col := by omega
              go_wp2_with fail
              go_roundg (off - a' - 1)
              case measure => have := HG.out; omega
              case rel => exact ⟨a' + 1, li, co + 1, by omega, by omega, by go_num, rfl, rfl, by rw [HST.out, if_neg HN.out], rfl⟩
        · obtain rfl : a' = off := by omega
          have hpe : (li, co) = (t.line, t.col) := by rw [HPO.out, h4]
          simp only [Prod.mk.injEq] at hpe
          obtain ⟨rfl, rfl⟩ := hpe
          clear h4
          have hsz : (str t.text).size = t.text.length := rfl
          have hos' : a' + (str t.text).size ≤ s.size := hos
          have hx : s.extract a' (a' + (str t.text).size) = str t.text := by
            rw [extract_str, HL.out, hsz, ← H3.out]
            congr 1
            rw [List.drop_take, Nat.add_sub_cancel_left]
            rw [H3.out, H3.out]
          have hw1 : IntKind.i64.wrap ((a' : Int) + ((str t.text).size : Int)) = (a' : Int) + ((str t.text).size : Int) := IntWalk.i64_in _ (by omega)
          have hw2 : ((a' : Int) + ((str t.text).size : Int)).toNat = a' + (str t.text).size := by omega
          have hw3 : (0 : Int) ≤ (a' : Int) + ((str t.text).size : Int) := by omega
          have hw4 : IntKind.i64.wrap ((ts.length : Int) - 1) = (ts.length : Int) - 1 := IntWalk.i64_in _ (by omega)
          have hlast : (((str t.text).size : Int) == 0) = ((k : Int) == (ts.length : Int) - 1) := by
            rw [Bool.eq_iff_iff]
            simp only [beq_iff_eq]
            have h5 := H5.out
            have hdl : (ts.drop (k + 1) = []) ↔ ts.length ≤ k + 1 := by rw [List.drop_eq_nil_iff]
            rw [hdl] at h5
            omega
          have REL : (t.line, t.col + (t.text.length : Int)) = posL (l.take (a' + t.text.length)) (1, 1) := by
            rw [List.take_add, posL_append, H3.out, posL_plain H6.out, ← HPO.out]
          have REL := Lib.hid REL
          have HX := Lib.hid hx
          have HW1 := Lib.hid hw1
          have HW2 := Lib.hid hw2
          have HW4 := Lib.hid hw4
          have HLA := Lib.hid hlast
          clear hsz hx hw1 hw2 hw4 hlast
          by_cases hoz : a' < s.size
          all_goals go_wp2_with fail
          all_goals have hx := HX.out
          all_goals have hw1 := HW1.out
          all_goals have hw2 := HW2.out
          all_goals have hw4 := HW4.out
          all_goals have hla := HLA.out
          all_goals have hgt : decide ((s.size : Int) < (a' : Int) + ((str t.text).size : Int)) = false := by rw [decide_eq_false_iff_not]; omega
          all_goals generalize hwr : W.drewN nq = wr at c1 c3 c4
          all_goals have HWR := Lib.hid hwr
          all_goals clear hwr
          all_goals go_quiet (fail)
          all_goals clear hx hw1 hw2 hw4 hla hgt
          all_goals go_wp2_with fail
          all_goals go_roundg (ts.length - (k + 1))
          case measure => have := HK.out; omega
          case rel => exact ⟨k + 1, a' + t.text.length, t.line, t.col + (t.text.length : Int), _, by have := HK.out; omega, rfl, rfl, rfl, by go_num, REL.out, by have := HLL.out; omega, H7.out, by rw [← HWR.out, World.drewN_drewN]⟩
          case measure => have := HK.out; omega
          case rel => exact ⟨k + 1, a' + t.text.length, t.line, t.col + (t.text.length : Int), _, by have := HK.out; omega, rfl, rfl, rfl, by go_num, REL.out, by have := HLL.out; omega, H7.out, by rw [← HWR.out, World.drewN_drewN]⟩
    · have hke : ts.drop k = [] := List.drop_eq_nil_iff.2 (by omega)
      have hpe := HPK.out
      rw [hke] at hpe
      have hae : (a : Int) = (s.size : Int) := by have := HLL.out; have : a = l.length := hpe; omega
      have hae' : ((a : Int) == (s.size : Int)) = true := by simpa using hae
      have HBE := Lib.hid hB
      clear hpe hke hae HPK
      go_wp2_with fail
      go_ret
      exact ⟨rfl, below_drewN HBE.out _⟩

/-- what Scan answers where it fails, with the place -/
def FailAt (x a b : Int) (w : World) (e : Ending) (w' : World) : Prop := e = .returned (.tuple #[.slice none 0 0, .agg #[.int .i64 x, .int .i64 a, .int .i64 b]]) ∧ Below w.heap.size w w'
def FailPost2 (w : World) (e : Ending) (w' : World) : Prop := ∃ a b : Int, e = .returned (.tuple #[.slice none 0 0, .agg #[.int .i64 2, .int .i64 a, .int .i64 b]]) ∧ Below w.heap.size w w' ∧ 0 < a ∧ 0 < b
set_option maxRecDepth 100000 in
set_option maxHeartbeats 1000000 in
theorem places_big (s : ByteArray) (w : World) (he : Errs w) (hscan : ∀ w, Errs w → Calls Tryd.prog 10 #[.string s] w (FailAt 9 0 0 w)) :
    Calls Tryd.prog 6 #[.string s] w (Lived w) := by
  have HE := Lib.hid he
  have HSK := Lib.hid hscan
  clear he hscan
  go_enter Tryd.func6, Tryd.ntmps6
  go_wp2_with (first | (go_at_call 9; refine (lives_any _ HE.out).mono ?_; rintro e w1 ⟨rfl, hb1⟩; have HE1 := Lib.hid (HE.out.under hb1)) | (go_at_call 10; refine (HSK.out _ HE1.out).mono ?_; rintro e w2 ⟨rfl, hb2⟩))
  go_ret
  exact ⟨rfl, (hb1.trans (hb2.mono hb1.size)).alloc (Nat.le_trans hb1.size hb2.size) _⟩
set_option maxRecDepth 100000 in
set_option maxHeartbeats 1000000 in
theorem places_fail (s : ByteArray) (w : World) (he : Errs w) (hscan : ∀ w, Errs w → Calls Tryd.prog 10 #[.string s] w (FailPost2 w)) :
    Calls Tryd.prog 6 #[.string s] w (Lived w) := by
  have HE := Lib.hid he
  have HSK := Lib.hid hscan
  clear he hscan
  go_enter Tryd.func6, Tryd.ntmps6
  go_wp2_with (first | (go_at_call 9; refine (lives_any _ HE.out).mono ?_; rintro e w1 ⟨rfl, hb1⟩; have HE1 := Lib.hid (HE.out.under hb1)) | (go_at_call 10; refine (HSK.out _ HE1.out).mono ?_; rintro e w2 ⟨a, b, rfl, hb2, ha, hb⟩))
  go_ret
  exact ⟨rfl, (hb1.trans (hb2.mono hb1.size)).alloc (Nat.le_trans hb1.size hb2.size) _⟩
theorem places_any (s : ByteArray) (w : World) (hm : s.size ≤ maxLen) (he : Errs w) : Calls Tryd.prog 6 #[.string s] w (Lived w) := by
  by_cases hs : s.size ≤ 65536
  · cases h2 : (scanAll s.data.toList).2 with
    | some q =>
      refine places_fail s w he fun w he => (scan_any s w hs he).mono fun e w' ⟨hb, h⟩ => ?_
      rcases h with ⟨q', h3, rfl⟩ | ⟨h, _⟩
      · have hq := scanF_place (p := (1, 1)) (by simp) (by simp) h3
        exact ⟨_, _, rfl, hb, by omega, by omega⟩
      · rw [h2] at h; cases h
    | none => exact places_ok _ s w hs he (by have := scan_ok_len s; omega) (placed_scan h2) (scan_ok s hs h2)
  · exact places_big s w he fun w _ => scan_big s w (by omega) hm
end Go.Proofs.YtnoifghbcfoaaaaDoor
