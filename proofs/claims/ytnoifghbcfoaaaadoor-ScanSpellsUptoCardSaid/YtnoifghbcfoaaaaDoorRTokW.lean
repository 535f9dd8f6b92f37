/-
  The contract of the reference's token.
-/
import Derived.Test.YtnoifghbcfoaaaaDoorRTok
import Derived.Test.YtnoifghbcfoaaaaDoorRTokSpec
import Derived.Test.YtnoifghbcfoaaaaDoorTok
import Derived.Deep.QuietTactic
import Derived.BigQuiet
namespace Go.Proofs.YtnoifghbcfoaaaaDoor
open Go.RowKit

set_option maxHeartbeats 400000 in
theorem rplace_any (s : ByteArray) (n : Nat) (w : World) (hs : s.size ≤ 65536) (hn : n ≤ s.size) :
    Calls Tryd.prog 28 #[.string s, .int .i64 (n : Int)] w fun e w' => e = .returned (.tuple #[.int .i64 (posL (s.data.toList.take n) (1, 1)).1, .int .i64 (posL (s.data.toList.take n) (1, 1)).2]) ∧ w = w' := by
  go_enter Tryd.func28, Tryd.ntmps28
  go_wp2_with fail
  go_loop [6, 7, 8] (fun vl vc vi => ∃ (k : Nat) (li co : Int), k ≤ n ∧ vl = .int .i64 li ∧ vc = .int .i64 co ∧ vi = .int .i64 k ∧ (li, co) = posL (s.data.toList.take k) (1, 1)) (fun _ _ i => n - (intOf i).toNat)
  case atStart => exact ⟨0, 1, 1, Nat.zero_le _, rfl, rfl, rfl, rfl⟩
  case round =>
    obtain ⟨k, li, co, hk, rfl, rfl, rfl, hp⟩ := hrel
    have hbd := posL_bd (s.data.toList.take k) (1, 1) (by simp) (by simp)
    rw [← hp] at hbd
    have hll : s.data.toList.length = s.size := by simp
    have hat : (s.data.toList.take k).length = k := by rw [List.length_take]; omega
    simp only [hat] at hbd
    obtain ⟨hb1, hb2, hb3, hb4⟩ := hbd
    have HP := Lib.hid hp
    clear hp hat hll
    by_cases hkn : k < n
    · have hks : k < s.size := by omega
      have hst : posL (s.data.toList.take (k + 1)) (1, 1) = if s[k].toNat = 10 then (li + 1, 1) else (li, co + 1) := by
        rw [take_next s k hks, posL_snoc, ← HP.out]
      have HS := Lib.hid hst
      clear hst
      by_cases h10 : s[k].toNat = 10
      · have e10 : ((s[k].toNat : Int) == 10) = true := by simp; omega
        have H10 := Lib.hid h10
        clear h10
        go_wp2_with fail
        go_round
        case rel => exact ⟨k + 1, li + 1, 1, by omega, rfl, rfl, by go_num, by rw [HS.out, if_pos H10.out]⟩
        case measure => simp [intOf]; omega
      · have e10 : ((s[k].toNat : Int) == 10) = false := by simp; omega
        have H10 := Lib.hid h10
        clear h10
        go_wp2_with fail
        go_round
        case rel => exact ⟨k + 1, li, co + 1, by omega, rfl, rfl, by go_num, by rw [HS.out, if_neg H10.out]⟩
        case measure => simp [intOf]; omega
    · obtain rfl : k = n := by omega
      go_wp2_with fail
      go_ret2
      exact ⟨by rw [← HP.out]; rfl, rfl⟩

def rsignsV : Array Value := (signsL.map fun l => Value.string (str l)).toArray
set_option maxRecDepth 100000 in
theorem rsigns_any (w : World) : Calls Tryd.prog 49 #[] w fun e w' => e = .returned (.slice (some ⟨w.heap.size, 0, none⟩) 18 18) ∧ w' = w.alloc (.cells rsignsV 9) := by
  obtain ⟨i0, hi, hz0, hz1, hz2⟩ := info_parts str_info
  go_enter Tryd.func49, Tryd.ntmps49
  go_wp2_with (refine wpList_buildSlice rfl 48 9 18 _ rfl rsignsV i0 (.string ⟨#[]⟩) Tryd.underlying48 hi hz0 (by rw [hz1]; decide) (by rw [hz1]; decide) (by rw [hz1]; as_aux_lemma => kernel_rfl) ?_)
  go_ret
  exact ⟨rfl, rfl⟩
theorem signs_at (w : World) : StrsAt (w.alloc (.cells rsignsV 9)) w.heap.size 0 signsL := fun i hi => by
  rw [cell_of_row _ _ _ _ _ _ (heap_alloc_new w _)]
  simp [rsignsV, List.getElem?_eq_getElem hi]

/-- what the reference's token answers -/
def RTokPost (l : List UInt8) (w : World) (e : Ending) (w' : World) : Prop :=
  Below w.heap.size w w' ∧ ((tokSort l ≠ 0 ∧ e = .returned (.tuple #[.agg #[.int .i64 (tokSort l), .string (str (tokText l)), .int .i64 (tokNum l), .int .i64 0, .int .i64 0], .bool true])) ∨
    (tokSort l = 0 ∧ ∃ a x b, e = .returned (.tuple #[.agg #[.int .i64 a, .string x, .int .i64 b, .int .i64 0, .int .i64 0], .bool false])))

theorem rnumber_str (l : List UInt8) (w : World) (hs : l.length ≤ 65536) (hd : AllDig l) (hne : l ≠ []) :
    Calls Tryd.prog 48 #[.string (str l)] w (RNum l w) := rnumber_any (str l) w hs hd hne

theorem rtok_info : (Tryd.prog.info? 34).map (·.size) = some 5 := by kernel_rfl
theorem rtok_results {tmps : Array Value} {w : World} {N : Nat} {x0 x1 x2 x3 x4 b : Value} (hp : tmps.getD 2 undef = .pointer (some ⟨N, 0, none⟩)) (hv : tmps.getD 3 undef = b) (hg : w.heap[N]? = some (.cells #[x0, x1, x2, x3, x4] 34 (0, 0))) :
    (results Tryd.f27 tmps).run Tryd.prog w = .ok (.tuple #[.agg #[x0, x1, x2, x3, x4], b]) w := by
  have hl := run_loadVar_row (P := Tryd.prog) w N 34 34 #[x0, x1, x2, x3, x4] (0, 0) _ hg Tryd.underlying34 rfl rtok_info
  have hp' : tmps[2]?.getD undef = .pointer (some ⟨N, 0, none⟩) := by simpa using hp
  have hv' : tmps[3]?.getD undef = b := by simpa using hv
  simp [results, Tryd.results27, hp', hv', asAddr, hl]
theorem digL_cons_yes {c : UInt8} {r : List UInt8} (h : digitB c = true) : digL (c :: r) = digL r + 1 := by simp [digL, h]
theorem digL_cons_no {c : UInt8} {r : List UInt8} (h : digitB c = false) : digL (c :: r) = 0 := by simp [digL, h]

theorem post_yes {l q : List UInt8} {k : Nat} {x : Int} {w w' : World} (hT : (litB q = true ∧ runL l = k → tokSort l = 3 ∧ tokText l = q ∧ tokNum l = litN q) ∧ (¬ (litB q = true ∧ runL l = k) → tokSort l = 0)) (h : litB q = true) (hx : litB q = true → x = litN q) (hb : Below w.heap.size w w') :
    RTokPost l w (.returned (.tuple #[.agg #[.int .i64 3, .string (str q), .int .i64 x, .int .i64 0, .int .i64 0], .bool ((runL l : Int) == (k : Int))])) w' := by
  refine ⟨hb, ?_⟩
  by_cases hk : runL l = k
  · obtain ⟨h1, h2, h3⟩ := hT.1 ⟨h, hk⟩
    left
    refine ⟨by rw [h1]; decide, ?_⟩
    rw [h1, h2, h3, hx h, hk]; simp
  · right
    have : ((runL l : Int) == (k : Int)) = false := by simp; omega
    exact ⟨hT.2 (fun hh => hk hh.2), 3, str q, x, by rw [this]⟩
theorem post_no {l q : List UInt8} {k : Nat} {a x : Int} {y : ByteArray} {w w' : World} (hT : (litB q = true ∧ runL l = k → tokSort l = 3 ∧ tokText l = q ∧ tokNum l = litN q) ∧ (¬ (litB q = true ∧ runL l = k) → tokSort l = 0)) (h : ¬ litB q = true) (hb : Below w.heap.size w w') :
    RTokPost l w (.returned (.tuple #[.agg #[.int .i64 a, .string y, .int .i64 x, .int .i64 0, .int .i64 0], .bool false])) w' :=
  ⟨hb, .inr ⟨hT.2 (fun hh => h hh.1), _, _, _, rfl⟩⟩

set_option maxRecDepth 100000 in
set_option maxHeartbeats 4000000 in
theorem rtoken_digit (s : ByteArray) (w : World) (hs : s.size ≤ 65536) (h0 : 0 < s.size) (hd : digitB s[0] = true) : Calls Tryd.prog 27 #[.string s] w (RTokPost s.data.toList w) := by
  have hm : s.size ≤ maxLen := by unfold maxLen; omega
  have hl : s.data.toList.length = s.size := by simp
  have hrl := runL_le s.data.toList
  have hdr := digL_le_run s.data.toList
  have hrp : 0 < digL s.data.toList := by
    have := drop_cons s 0 h0
    rw [List.drop_zero] at this
    rw [this, digL_cons_yes hd]; omega
  have HT := Lib.hid (tok_digit (l := s.data.toList) (by rw [head_eq h0]; exact hd) (by omega))
  go_enter Tryd.func27, Tryd.ntmps27
  go_wp2_with (first | (go_at_call 33; refine (rrun_any _ _ hm).mono ?_; rintro e w' ⟨rfl, rfl⟩) | (go_at_call 47; refine (rdigit_any _ _).mono ?_; rintro e w' ⟨rfl, rfl⟩))
  go_loop [5] (fun v => ∃ k : Nat, k ≤ s.size ∧ v = .int .i64 k ∧ digL s.data.toList = k + digL (s.data.toList.drop k)) (fun v => s.size - (intOf v).toNat)
  case atStart => exact ⟨0, Nat.zero_le _, rfl, by simp⟩
  case round =>
    clear hd
    obtain ⟨k, hk, rfl, hg⟩ := hrel
    have HG := Lib.hid hg
    clear hg
    have stop : digL (s.data.toList.drop k) = 0 → k = digL s.data.toList := fun h => by have := HG.out; omega
    have rest : k = digL s.data.toList → True := fun _ => trivial
    by_cases hks : k < s.size ∧ ∀ h : k < s.size, digitB (s[k]'h) = true
    · obtain ⟨hks, hdk⟩ := hks
      have hdk := hdk hks
      have hst : digL s.data.toList = (k + 1) + digL (s.data.toList.drop (k + 1)) := by rw [HG.out, drop_cons s k hks, digL_cons_yes hdk]; omega
      have HS := Lib.hid hst
      clear hst stop rest
      go_wp2_with (go_at_call 47; refine (rdigit_any _ _).mono ?_; rintro e w' ⟨rfl, rfl⟩)
      go_round
      case rel => exact ⟨k + 1, by omega, by go_num, HS.out⟩
      case measure => simp [intOf]; omega
    · have hkd : k = digL s.data.toList := stop (by
        by_cases h : k < s.size
        · rw [drop_cons s k h, digL_cons_no (by
            cases hx : digitB s[k]
            · rfl
            · exact absurd ⟨h, fun _ => hx⟩ hks)]
        · rw [drop_end s k (by omega)]; rfl)
      have hno : ∀ h : k < s.size, digitB (s[k]'h) = false := fun h => by
        cases hx : digitB (s[k]'h)
        · rfl
        · exact absurd ⟨h, fun _ => hx⟩ hks
      have hx : s.extract 0 k = str (s.data.toList.take k) := by rw [extract_str]; rfl
      have HDG := Lib.hid (digL_dig s.data.toList)
      rw [← hkd] at HDG HT hrp hdr
      have HQ : Lib.hid hkd = Lib.hid hkd := rfl
      clear stop rest hks HQ hkd HG
      have hql : (s.data.toList.take k).length ≤ 65536 := by rw [List.length_take]; omega
      have hqn : s.data.toList.take k ≠ [] := fun e => by
        have := congrArg List.length e
        rw [List.length_take, List.length_nil] at this; omega
      generalize s.data.toList.take k = q at hx HDG HT hql hqn
      have HN := Lib.hid (fun w => rnumber_str q w hql HDG.out hqn)
      have HQN := Lib.hid hqn
      clear hqn
      by_cases hks : k < s.size
      · have hno := hno hks
        go_wp2_with (first | (go_at_call 47; refine (rdigit_any _ _).mono ?_; rintro e w' ⟨rfl, rfl⟩) | (go_at_call 48; refine (HN.out _).mono ?_; rintro e w' ⟨x, rfl, hxx, rfl⟩; have HXX := Lib.hid hxx; clear hxx))
        · exact bodyPost_ret (v := .tuple #[.agg #[.int .i64 3, .string (str q), .int .i64 x, .int .i64 0, .int .i64 0], .bool ((runL s.data.toList : Int) == (k : Int))]) (rtok_results rfl rfl (heap_alloc_new w _)) rfl (post_yes HT.out ‹_› HXX.out ((Below.refl _ _).alloc (Nat.le_refl _) _))
        · exact bodyPost_ret (v := .tuple #[.agg #[.int .i64 3, .string (str q), .int .i64 x, .int .i64 0, .int .i64 0], .bool false]) (rtok_results rfl rfl (heap_alloc_new w _)) rfl (post_no HT.out ‹_› ((Below.refl _ _).alloc (Nat.le_refl _) _))
      · clear hno
        go_wp2_with (first | (go_at_call 47; refine (rdigit_any _ _).mono ?_; rintro e w' ⟨rfl, rfl⟩) | (go_at_call 48; refine (HN.out _).mono ?_; rintro e w' ⟨x, rfl, hxx, rfl⟩; have HXX := Lib.hid hxx; clear hxx))
        · exact bodyPost_ret (v := .tuple #[.agg #[.int .i64 3, .string (str q), .int .i64 x, .int .i64 0, .int .i64 0], .bool ((runL s.data.toList : Int) == (k : Int))]) (rtok_results rfl rfl (heap_alloc_new w _)) rfl (post_yes HT.out ‹_› HXX.out ((Below.refl _ _).alloc (Nat.le_refl _) _))
        · exact bodyPost_ret (v := .tuple #[.agg #[.int .i64 3, .string (str q), .int .i64 x, .int .i64 0, .int .i64 0], .bool false]) (rtok_results rfl rfl (heap_alloc_new w _)) rfl (post_no HT.out ‹_› ((Below.refl _ _).alloc (Nat.le_refl _) _))

theorem bcell2 {W w1 : World} (hb : Below W.heap.size W w1) : (∀ b o, b < W.heap.size → w1.cell? ⟨b, o, none⟩ = W.cell? ⟨b, o, none⟩) ∧ (∀ b o, b < W.heap.size → w1.frozen? ⟨b, o, none⟩ = W.frozen? ⟨b, o, none⟩) :=
  ⟨fun b o h => hb.cell (p := ⟨b, o, none⟩) h, fun b o h => hb.frozen (p := ⟨b, o, none⟩) h⟩
theorem rIsWord_str (q : List UInt8) (w : World) : Calls Tryd.prog 18 #[.string (str q)] w fun e w' => e = .returned (.bool (wordB q)) ∧ Below w.heap.size w w' := rIsWord_any (str q) w
theorem post_letter {l q : List UInt8} {w w' : World} {so : Int} (hT : (runL l ≤ 24 → tokSort l = so ∧ tokText l = q ∧ tokNum l = 0) ∧ (24 < runL l → tokSort l = 0)) (h0 : so ≠ 0) (hb : Below w.heap.size w w') :
    RTokPost l w (.returned (.tuple #[.agg #[.int .i64 so, .string (str q), .int .i64 0, .int .i64 0, .int .i64 0], .bool (decide ((runL l : Int) ≤ 24))])) w' := by
  refine ⟨hb, ?_⟩
  by_cases hk : runL l ≤ 24
  · obtain ⟨h1, h2, h3⟩ := hT.1 hk
    have : decide ((runL l : Int) ≤ 24) = true := by simp; omega
    exact .inl ⟨by rw [h1]; exact h0, by rw [h1, h2, h3, this]⟩
  · have : decide ((runL l : Int) ≤ 24) = false := by simp; omega
    exact .inr ⟨hT.2 (by omega), so, str q, 0, by rw [this]⟩

set_option maxRecDepth 100000 in
set_option maxHeartbeats 4000000 in
theorem rtoken_letter (s : ByteArray) (w : World) (hs : s.size ≤ 65536) (h0 : 0 < s.size) (hd : digitB s[0] = false) (hn : 0 < runL s.data.toList) (hu : s[0].toNat ≠ 95) (hsg : smallB s[0] = true ∨ greatB s[0] = true) : Calls Tryd.prog 27 #[.string s] w (RTokPost s.data.toList w) := by
  have hm : s.size ≤ maxLen := by unfold maxLen; omega
  have hl : s.data.toList.length = s.size := by simp
  have hrl := runL_le s.data.toList
  have hT := tok_letter (l := s.data.toList) hn (by rw [head_eq h0]; exact hsg)
  rw [head_eq h0] at hT
  have hx : s.extract 0 (runL s.data.toList) = str (s.data.toList.take (runL s.data.toList)) := by rw [extract_str]; rfl
  generalize s.data.toList.take (runL s.data.toList) = q at hx hT
  have HT := Lib.hid hT
  have nu : ((s[0].toNat : Int) != 95) = true := by simp; omega
  have nu' : ((s[0].toNat : Int) == 95) = false := by simp; omega
  clear hT hsg hu
  go_enter Tryd.func27, Tryd.ntmps27
  go_wp2_with (first | (go_at_call 33; refine (rrun_any _ _ hm).mono ?_; rintro e w' ⟨rfl, rfl⟩) | (go_at_call 47; refine (rdigit_any _ _).mono ?_; rintro e w' ⟨rfl, rfl⟩) | (go_at_call 32; refine (rsmall_any _ _).mono ?_; rintro e w' ⟨rfl, rfl⟩) | (go_at_call 18; refine (rIsWord_str _ _).mono ?_; rintro e w' ⟨rfl, hb⟩; obtain ⟨hc, hf⟩ := bcell2 hb))
  · have e : (if wordB q = true then 5 else if smallB s[0] = true then 1 else 2 : Int) = 5 := by simp [*]
    have h := HT.out
    rw [e] at h
    have hB := ((Below.refl w.heap.size w).alloc (Nat.le_refl _) (.cells #[.int .i64 0, .string ⟨#[]⟩, .int .i64 0, .int .i64 0, .int .i64 0] 34)).trans (hb.mono (by simp))
    exact bodyPost_ret (v := .tuple #[.agg #[.int .i64 5, .string (str q), .int .i64 0, .int .i64 0, .int .i64 0], .bool (decide ((runL s.data.toList : Int) ≤ 24))]) (rtok_results rfl rfl (row5 (T := 34) ((hb.block _ (by simp)).trans (heap_alloc_new w _)) _ _ _ _ _)) rfl (post_letter h (by decide) (((((hB.setCell (by simp) _).setCell (by simp) _).setCell (by simp) _).setCell (by simp) _).setCell (by simp) _))
  · have e : (if wordB q = true then 5 else if smallB s[0] = true then 1 else 2 : Int) = 1 := by simp [*]
    have h := HT.out
    rw [e] at h
    have hB := ((Below.refl w.heap.size w).alloc (Nat.le_refl _) (.cells #[.int .i64 0, .string ⟨#[]⟩, .int .i64 0, .int .i64 0, .int .i64 0] 34)).trans (hb.mono (by simp))
    exact bodyPost_ret (v := .tuple #[.agg #[.int .i64 1, .string (str q), .int .i64 0, .int .i64 0, .int .i64 0], .bool (decide ((runL s.data.toList : Int) ≤ 24))]) (rtok_results rfl rfl (row5 (T := 34) ((hb.block _ (by simp)).trans (heap_alloc_new w _)) _ _ _ _ _)) rfl (post_letter h (by decide) (((((hB.setCell (by simp) _).setCell (by simp) _).setCell (by simp) _).setCell (by simp) _).setCell (by simp) _))
  · have e : (if wordB q = true then 5 else if smallB s[0] = true then 1 else 2 : Int) = 5 := by simp [*]
    have h := HT.out
    rw [e] at h
    have hB := ((Below.refl w.heap.size w).alloc (Nat.le_refl _) (.cells #[.int .i64 0, .string ⟨#[]⟩, .int .i64 0, .int .i64 0, .int .i64 0] 34)).trans (hb.mono (by simp))
    exact bodyPost_ret (v := .tuple #[.agg #[.int .i64 5, .string (str q), .int .i64 0, .int .i64 0, .int .i64 0], .bool (decide ((runL s.data.toList : Int) ≤ 24))]) (rtok_results rfl rfl (row5 (T := 34) ((hb.block _ (by simp)).trans (heap_alloc_new w _)) _ _ _ _ _)) rfl (post_letter h (by decide) (((((hB.setCell (by simp) _).setCell (by simp) _).setCell (by simp) _).setCell (by simp) _).setCell (by simp) _))
  · have e : (if wordB q = true then 5 else if smallB s[0] = true then 1 else 2 : Int) = 2 := by simp [*]
    have h := HT.out
    rw [e] at h
    have hB := ((Below.refl w.heap.size w).alloc (Nat.le_refl _) (.cells #[.int .i64 0, .string ⟨#[]⟩, .int .i64 0, .int .i64 0, .int .i64 0] 34)).trans (hb.mono (by simp))
    exact bodyPost_ret (v := .tuple #[.agg #[.int .i64 2, .string (str q), .int .i64 0, .int .i64 0, .int .i64 0], .bool (decide ((runL s.data.toList : Int) ≤ 24))]) (rtok_results rfl rfl (row5 (T := 34) ((hb.block _ (by simp)).trans (heap_alloc_new w _)) _ _ _ _ _)) rfl (post_letter h (by decide) (((((hB.setCell (by simp) _).setCell (by simp) _).setCell (by simp) _).setCell (by simp) _).setCell (by simp) _))
end Go.Proofs.YtnoifghbcfoaaaaDoor
