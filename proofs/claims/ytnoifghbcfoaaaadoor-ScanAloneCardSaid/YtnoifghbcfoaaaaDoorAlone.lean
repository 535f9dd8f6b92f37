/-
  ScanAlone: the walk.
-/
import Derived.Test.YtnoifghbcfoaaaaDoorLives
import Derived.Test.YtnoifghbcfoaaaaDoorAloneSpec
namespace Go.Proofs.YtnoifghbcfoaaaaDoor
open Go.RowKit

theorem own_cells {w : World} {B : Nat} {e : TypeId} {v : Value} {ts : List Tok} (h : w.ownsRow B e 5 v ts.length (ts.flatMap Tok.cells)) (hn : 0 < ts.length) :
    ∃ g cap, v = .slice (some ⟨g, 0, none⟩) ts.length cap ∧ B ≤ g ∧ g < w.heap.size ∧ ts.length ≤ cap ∧ cap ≤ maxLen ∧ ∀ j u, (ts.flatMap Tok.cells)[j]? = some u → w.cell? ⟨g, j, none⟩ = some u := own_slice h hn

/-- what Scan answers in a text that is a name, a constructor or a word -/
def KindPost (s : ByteArray) (w : World) (e : Ending) (w' : World) : Prop :=
  ∃ g cap, e = .returned (.tuple #[.slice (some ⟨g, 0, none⟩) 2 cap, .agg #[.int .i64 0, .int .i64 0, .int .i64 0]]) ∧ g < w'.heap.size ∧ Below w.heap.size w w' ∧
      w'.cell? ⟨g, 0, none⟩ = some (.int .i64 (kindL s.data.toList)) ∧ w'.cell? ⟨g, 1, none⟩ = some (.string s) ∧ w'.cell? ⟨g, 2, none⟩ = some (.int .i64 0) ∧ w'.cell? ⟨g, 3, none⟩ = some (.int .i64 1) ∧ w'.cell? ⟨g, 4, none⟩ = some (.int .i64 1) ∧
      w'.cell? ⟨g, 5, none⟩ = some (.int .i64 6) ∧ w'.cell? ⟨g, 6, none⟩ = some (.string ⟨#[]⟩) ∧ w'.cell? ⟨g, 7, none⟩ = some (.int .i64 0) ∧ w'.cell? ⟨g, 8, none⟩ = some (.int .i64 1) ∧ w'.cell? ⟨g, 9, none⟩ = some (.int .i64 (1 + (s.size : Int)))
theorem scan_kind_any (s : ByteArray) (w : World) (hs : s.size ≤ 65536) (he : Errs w) (hk : kindL s.data.toList ≠ 0) : Calls Tryd.prog 10 #[.string s] w (KindPost s w) := by
  refine (scan_any s w hs he).mono fun e w' ⟨hb, h⟩ => ?_
  rw [scan_kind hk] at h
  rcases h with ⟨q, h, _⟩ | ⟨_, v, rfl, hown⟩
  · cases h
  · obtain ⟨g, cap, rfl, _, h2, _, _, hc⟩ := own_cells hown (Nat.zero_lt_succ _)
    refine ⟨g, cap, rfl, h2, hb, hc 0 _ rfl, ?_, hc 2 _ rfl, hc 3 _ rfl, hc 4 _ rfl, hc 5 _ rfl, hc 6 _ rfl, hc 7 _ rfl, hc 8 _ rfl, hc 9 _ rfl⟩
    have := hc 1 (.string (str s.data.toList)) rfl
    rwa [str_eq] at this

set_option maxHeartbeats 1000000 in
theorem alone_kind (k : Int) (s : ByteArray) (w : World) (hs : s.size ≤ 65536) (he : Errs w) (hk : kindL s.data.toList = k) (h0 : k ≠ 0) (b1 b2 b3 : Bool) (h1 : nameB s.data.toList = b1) (h2 : conB s.data.toList = b2) (h3 : wordB s.data.toList = b3)
    (hb : (k = 1 ∧ b1 = true ∧ b2 = false ∧ b3 = false) ∨ (k = 2 ∧ b1 = false ∧ b2 = true ∧ b3 = false) ∨ (k = 5 ∧ b1 = false ∧ b2 = false ∧ b3 = true)) :
    Calls Tryd.prog 8 #[.string s] w (Lived w) := by
  have hm : s.size ≤ maxLen := by unfold maxLen; omega
  have HE := Lib.hid he
  have HSK := Lib.hid (fun w (he : Errs w) => scan_kind_any s w hs he (by rw [hk]; exact h0))
  have H1 := Lib.hid (fun w => isName_any s w hm)
  have H2 := Lib.hid (fun w => isCon_any s w hm)
  have H3 := Lib.hid (fun w => isWord_any s w)
  rw [h1] at H1
  rw [h2] at H2
  rw [h3] at H3
  unfold KindPost at HSK
  rw [hk] at HSK
  clear h1 h2 h3 hk he h0
  rcases hb with ⟨rfl, rfl, rfl, rfl⟩ | ⟨rfl, rfl, rfl, rfl⟩ | ⟨rfl, rfl, rfl, rfl⟩
  all_goals go_enter Tryd.func8, Tryd.ntmps8
  all_goals go_wp2_with (first | (go_at_call 9; refine (lives_any _ HE.out).mono ?_; rintro e w1 ⟨rfl, hb1⟩; have HE1 := Lib.hid (HE.out.under hb1)) | (go_at_call 10; refine (HSK.out _ HE1.out).mono ?_; rintro e w2 ⟨g, cap, rfl, hg, hb2, c0, c1, c2, c3, c4, c5, c6, c7, c8, c9⟩) | (go_at_call 13; refine (H1.out _).mono ?_; rintro e w' ⟨rfl, rfl⟩) | (go_at_call 14; refine (H2.out _).mono ?_; rintro e w' ⟨rfl, rfl⟩) | (go_at_call 15; refine (H3.out _).mono ?_; rintro e w' ⟨rfl, rfl⟩))
  all_goals go_ret
  all_goals exact ⟨rfl, (hb1.trans (hb2.mono hb1.size)).alloc (Nat.le_trans hb1.size hb2.size) _⟩

/-- what Scan answers where it fails -/
def FailPost (w : World) (e : Ending) (w' : World) : Prop :=
  ∃ x a b, e = .returned (.tuple #[.slice none 0 0, .agg #[.int .i64 x, .int .i64 a, .int .i64 b]]) ∧ (x != 0) = true ∧ Below w.heap.size w w'
set_option maxHeartbeats 1000000 in
theorem alone_fail (s : ByteArray) (w : World) (hm : s.size ≤ maxLen) (he : Errs w) (hk : kindL s.data.toList = 0) (hscan : ∀ w, Errs w → Calls Tryd.prog 10 #[.string s] w (FailPost w)) :
    Calls Tryd.prog 8 #[.string s] w (Lived w) := by
  obtain ⟨h1, h2, h3⟩ := kind_zero hk
  have HE := Lib.hid he
  have HSK := Lib.hid hscan
  have H1 := Lib.hid (fun w => isName_any s w hm)
  have H2 := Lib.hid (fun w => isCon_any s w hm)
  have H3 := Lib.hid (fun w => isWord_any s w)
  rw [h1] at H1
  rw [h2] at H2
  rw [h3] at H3
  clear h1 h2 h3 hk he hscan hm
  go_enter Tryd.func8, Tryd.ntmps8
  go_wp2_with (first | (go_at_call 9; refine (lives_any _ HE.out).mono ?_; rintro e w1 ⟨rfl, hb1⟩; have HE1 := Lib.hid (HE.out.under hb1)) | (go_at_call 10; refine (HSK.out _ HE1.out).mono ?_; rintro e w2 ⟨x, a, b, rfl, hx, hb2⟩) | (go_at_call 13; refine (H1.out _).mono ?_; rintro e w' ⟨rfl, rfl⟩) | (go_at_call 14; refine (H2.out _).mono ?_; rintro e w' ⟨rfl, rfl⟩) | (go_at_call 15; refine (H3.out _).mono ?_; rintro e w' ⟨rfl, rfl⟩))
  go_ret
  exact ⟨rfl, (hb1.trans (hb2.mono hb1.size)).alloc (Nat.le_trans hb1.size hb2.size) _⟩

/-- what Scan answers in tokens that are not two -/
def ManyPost (n : Nat) (w : World) (e : Ending) (w' : World) : Prop :=
  ∃ g cap, e = .returned (.tuple #[.slice (some ⟨g, 0, none⟩) n cap, .agg #[.int .i64 0, .int .i64 0, .int .i64 0]]) ∧ Below w.heap.size w w'
set_option maxHeartbeats 1000000 in
theorem alone_many (n : Nat) (s : ByteArray) (w : World) (hm : s.size ≤ maxLen) (he : Errs w) (hk : kindL s.data.toList = 0) (hn : n ≠ 2) (hn' : n ≤ 65537) (hscan : ∀ w, Errs w → Calls Tryd.prog 10 #[.string s] w (ManyPost n w)) :
    Calls Tryd.prog 8 #[.string s] w (Lived w) := by
  obtain ⟨h1, h2, h3⟩ := kind_zero hk
  have HE := Lib.hid he
  have HSK := Lib.hid hscan
  have H1 := Lib.hid (fun w => isName_any s w hm)
  have H2 := Lib.hid (fun w => isCon_any s w hm)
  have H3 := Lib.hid (fun w => isWord_any s w)
  rw [h1] at H1
  rw [h2] at H2
  rw [h3] at H3
  have hnn : ((n : Int) == 2) = false := by simp; omega
  have hnm : ((n : Int) != 2) = true := by simp; omega
  clear h1 h2 h3 hk he hscan hm hn
  go_enter Tryd.func8, Tryd.ntmps8
  go_wp2_with (first | (go_at_call 9; refine (lives_any _ HE.out).mono ?_; rintro e w1 ⟨rfl, hb1⟩; have HE1 := Lib.hid (HE.out.under hb1)) | (go_at_call 10; refine (HSK.out _ HE1.out).mono ?_; rintro e w2 ⟨g, cap, rfl, hb2⟩) | (go_at_call 13; refine (H1.out _).mono ?_; rintro e w' ⟨rfl, rfl⟩) | (go_at_call 14; refine (H2.out _).mono ?_; rintro e w' ⟨rfl, rfl⟩) | (go_at_call 15; refine (H3.out _).mono ?_; rintro e w' ⟨rfl, rfl⟩))
  go_ret
  exact ⟨rfl, (hb1.trans (hb2.mono hb1.size)).alloc (Nat.le_trans hb1.size hb2.size) _⟩

/-- what Scan answers in two tokens -/
def TwoPost (so : Int) (x : ByteArray) (w : World) (e : Ending) (w' : World) : Prop :=
  ∃ g cap, e = .returned (.tuple #[.slice (some ⟨g, 0, none⟩) 2 cap, .agg #[.int .i64 0, .int .i64 0, .int .i64 0]]) ∧ g < w'.heap.size ∧ Below w.heap.size w w' ∧ w'.cell? ⟨g, 0, none⟩ = some (.int .i64 so) ∧ w'.cell? ⟨g, 1, none⟩ = some (.string x)
set_option maxHeartbeats 1000000 in
theorem alone_two (so : Int) (x s : ByteArray) (w : World) (hm : s.size ≤ maxLen) (he : Errs w) (hk : kindL s.data.toList = 0) (hx : (x.toList == s.toList) = false ∨ (x = s ∧ (so = 3 ∨ so = 4))) (hscan : ∀ w, Errs w → Calls Tryd.prog 10 #[.string s] w (TwoPost so x w)) :
    Calls Tryd.prog 8 #[.string s] w (Lived w) := by
  obtain ⟨h1, h2, h3⟩ := kind_zero hk
  have HE := Lib.hid he
  have HSK := Lib.hid hscan
  have H1 := Lib.hid (fun w => isName_any s w hm)
  have H2 := Lib.hid (fun w => isCon_any s w hm)
  have H3 := Lib.hid (fun w => isWord_any s w)
  rw [h1] at H1
  rw [h2] at H2
  rw [h3] at H3
  clear h1 h2 h3 hk he hscan hm
  rcases hx with hx | ⟨rfl, rfl | rfl⟩
  · have hx' : (x.toList != s.toList) = true := by simp [bne, hx]
    go_enter Tryd.func8, Tryd.ntmps8
    go_wp2_with (first | (go_at_call 9; refine (lives_any _ HE.out).mono ?_; rintro e w1 ⟨rfl, hb1⟩; have HE1 := Lib.hid (HE.out.under hb1)) | (go_at_call 10; refine (HSK.out _ HE1.out).mono ?_; rintro e w2 ⟨g, cap, rfl, hg, hb2, c0, c1⟩) | (go_at_call 13; refine (H1.out _).mono ?_; rintro e w' ⟨rfl, rfl⟩) | (go_at_call 14; refine (H2.out _).mono ?_; rintro e w' ⟨rfl, rfl⟩) | (go_at_call 15; refine (H3.out _).mono ?_; rintro e w' ⟨rfl, rfl⟩))
    go_ret
    exact ⟨rfl, (hb1.trans (hb2.mono hb1.size)).alloc (Nat.le_trans hb1.size hb2.size) _⟩
  all_goals go_enter Tryd.func8, Tryd.ntmps8
  all_goals go_wp2_with (first | (go_at_call 9; refine (lives_any _ HE.out).mono ?_; rintro e w1 ⟨rfl, hb1⟩; have HE1 := Lib.hid (HE.out.under hb1)) | (go_at_call 10; refine (HSK.out _ HE1.out).mono ?_; rintro e w2 ⟨g, cap, rfl, hg, hb2, c0, c1⟩) | (go_at_call 13; refine (H1.out _).mono ?_; rintro e w' ⟨rfl, rfl⟩) | (go_at_call 14; refine (H2.out _).mono ?_; rintro e w' ⟨rfl, rfl⟩) | (go_at_call 15; refine (H3.out _).mono ?_; rintro e w' ⟨rfl, rfl⟩))
  all_goals go_ret
  all_goals exact ⟨rfl, (hb1.trans (hb2.mono hb1.size)).alloc (Nat.le_trans hb1.size hb2.size) _⟩

/-- ScanAlone answers true, whatever the text -/
theorem alone_any (s : ByteArray) (w : World) (hm : s.size ≤ maxLen) (he : Errs w) : Calls Tryd.prog 8 #[.string s] w (Lived w) := by
  by_cases hk : kindL s.data.toList = 0
  · by_cases hs : s.size ≤ 65536
    · have hsc := fun w he => scan_any s w hs he
      cases h2 : (scanAll s.data.toList).2 with
      | some q =>
        refine alone_fail s w hm he hk fun w he => (hsc w he).mono fun e w' ⟨hb, h⟩ => ?_
        rcases h with ⟨q', _, rfl⟩ | ⟨h, _⟩
        · exact ⟨2, _, _, rfl, rfl, hb⟩
        · rw [h2] at h; cases h
      | none =>
        have hpos : 0 < (scanAll s.data.toList).1.length := scanF_ne h2
        have hok : ∀ w, Errs w → Calls Tryd.prog 10 #[.string s] w fun e w' => Below w.heap.size w w' ∧ ∃ v, e = .returned (.tuple #[v, .agg #[.int .i64 0, .int .i64 0, .int .i64 0]]) ∧ w'.ownsRow w.heap.size 34 5 v (scanAll s.data.toList).1.length ((scanAll s.data.toList).1.flatMap Tok.cells) := fun w he =>
          (hsc w he).mono fun e w' ⟨hb, h⟩ => by
            rcases h with ⟨q', h, _⟩ | ⟨_, v, h, hown⟩
            · rw [h2] at h; cases h
            · exact ⟨hb, v, h, hown⟩
        by_cases hn : (scanAll s.data.toList).1.length = 2
        · obtain ⟨t, u, htu⟩ : ∃ t u, (scanAll s.data.toList).1 = [t, u] := by
            match h : (scanAll s.data.toList).1, hn with
            | [t, u], _ => exact ⟨t, u, rfl⟩
          have two : ∀ w, Errs w → Calls Tryd.prog 10 #[.string s] w (TwoPost t.sort (str t.text) w) := fun w he =>
            (hok w he).mono fun e w' ⟨hb, v, h, hown⟩ => by
              rw [htu] at hown
              obtain ⟨g, cap, rfl, _, hg, _, _, hc⟩ := own_cells hown (Nat.zero_lt_succ _)
              exact ⟨g, cap, h, hg, hb, hc 0 _ rfl, hc 1 _ rfl⟩
          refine alone_two t.sort (str t.text) s w hm he hk ?_ two
          by_cases ht : t.text = s.data.toList
          · exact .inr ⟨by rw [ht, str_eq], scan_other hk htu ht⟩
          · refine .inl ?_
            rw [Lib.toList_data, Lib.toList_data, str_toList]
            simpa using ht
        · refine alone_many (scanAll s.data.toList).1.length s w hm he hk hn ?_ fun w he => (hok w he).mono fun e w' ⟨hb, v, h, hown⟩ => ?_
          · have h1 := scanF_len (f := s.data.toList.length + 1) (l := s.data.toList) (p := (1, 1))
            have h3 : s.data.toList.length = s.size := by simp
            show (scanF _ _ _).1.length ≤ _
            omega
          · obtain ⟨g, cap, rfl, _⟩ := own_cells hown hpos
            exact ⟨g, cap, h, hb⟩
    · refine alone_fail s w hm he hk fun w _ => (scan_big s w (by omega) hm).mono fun e w' ⟨h, hb⟩ => ⟨9, _, _, h, rfl, hb⟩
  · have hl := kind_run hk
    rcases kind_cases hk with ⟨h, h1, h2, h3⟩ | ⟨h, h1, h2, h3⟩ | ⟨h, h1, h2, h3⟩
    all_goals exact alone_kind _ s w (by have := hl.2.1; simp at this; omega) he rfl hk _ _ _ h1 h2 h3 (by simp [h])
end Go.Proofs.YtnoifghbcfoaaaaDoor
