/-
  ScanBlanks: the walks, case by case.
-/
import Derived.Test.YtnoifghbcfoaaaaDoorAlike
import Derived.Outline
namespace Go.Proofs.YtnoifghbcfoaaaaDoor
open Go.RowKit

theorem byte_com_lt (s : ByteArray) {k : Nat} (h : k < comL s.data.toList) (hk : k < s.size) : ((s[k].toNat : Int) == 10) = false := by
  have := com_lt h (by simpa using hk)
  have e : s.data.toList[k]'(by simpa using hk) = s[k] := rfl
  rw [e] at this
  simp; omega
theorem byte_com_at (s : ByteArray) {k : Nat} (h : k = comL s.data.toList) (hk : k < s.size) : ((s[k].toNat : Int) == 10) = true := by
  subst h
  have := com_at (l := s.data.toList) (by simpa using hk)
  have e : s.data.toList[comL s.data.toList]'(by simpa using hk) = s[comL s.data.toList] := rfl
  rw [e] at this
  simp; omega

/-- whatever Scan answers -/
def AnyPost (w : World) (e : Ending) (w' : World) : Prop := ∃ (v : Value) (x p q : Int), e = .returned (.tuple #[v, .agg #[.int .i64 x, .int .i64 p, .int .i64 q]]) ∧ Below w.heap.size w w'
/-- a fault -/
def BadPost (w : World) (e : Ending) (w' : World) : Prop := ∃ (v : Value) (x p q : Int), (x != 0) = true ∧ e = .returned (.tuple #[v, .agg #[.int .i64 x, .int .i64 p, .int .i64 q]]) ∧ Below w.heap.size w w'
theorem scan_anyhow (s : ByteArray) (w : World) (hm : s.size ≤ maxLen) (he : Errs w) : Calls Tryd.prog 10 #[.string s] w (AnyPost w) := by
  by_cases hs : s.size ≤ 65536
  · refine (scan_any s w hs he).mono fun e w' ⟨hb, h⟩ => ?_
    rcases h with ⟨q, _, rfl⟩ | ⟨_, v, rfl, _⟩
    · exact ⟨_, _, _, _, rfl, hb⟩
    · exact ⟨_, _, _, _, rfl, hb⟩
  · exact (scan_big s w (by omega) hm).mono fun e w' ⟨h, hb⟩ => ⟨_, _, _, _, h, hb⟩
theorem scan_bad (s : ByteArray) (w : World) (hm : s.size ≤ maxLen) (he : Errs w) (h : ¬(s.size ≤ 65536 ∧ (scanAll s.data.toList).2 = none)) : Calls Tryd.prog 10 #[.string s] w (BadPost w) := by
  by_cases hs : s.size ≤ 65536
  · refine (scan_any s w hs he).mono fun e w' ⟨hb, hd⟩ => ?_
    rcases hd with ⟨q, _, rfl⟩ | ⟨h2, _⟩
    · exact ⟨_, _, _, _, rfl, rfl, hb⟩
    · exact absurd ⟨hs, h2⟩ h
  · exact (scan_big s w (by omega) hm).mono fun e w' ⟨h, hb⟩ => ⟨_, _, _, _, rfl, h, hb⟩
set_option maxRecDepth 100000 in
set_option maxHeartbeats 400000 in
theorem blanks_note (a b n : ByteArray) (w : World) (hn : n.size ≤ 140737488351232) (he : Errs w) (hcom : comL n.data.toList < n.size)
    (h1 : ∀ w, Errs w → Calls Tryd.prog 10 #[.string a] w (AnyPost w)) (h2 : ∀ w, Errs w → Calls Tryd.prog 10 #[.string b] w (AnyPost w)) :
    Calls Tryd.prog 7 #[.string a, .string b, .string n] w (Lived w) := by
  have HE := Lib.hid he
  have H1 := Lib.hid h1
  have H2 := Lib.hid h2
  have HCOM := Lib.hid hcom
  clear he h1 h2 hcom
  go_enter Tryd.func7, Tryd.ntmps7
  go_wp2_with (go_at_call 9; refine (lives_any _ HE.out).mono ?_; rintro e w1 ⟨rfl, hb0⟩; have HE1 := Lib.hid (HE.out.under hb0))
  go_wp2_with (go_at_call 10; (with_reducible refine (H1.out _ (HE1.out)).mono ?_); rintro e w2 ⟨v1, x1, p1, q1, rfl, hb1⟩; have HE2 := Lib.hid (fun o => ((HE1.out).under hb1).under ((Below.refl _ w2).alloc (Nat.le_refl _) o)))
  go_wp2_with (go_at_call 10; (with_reducible refine (H2.out _ (HE2.out _)).mono ?_); rintro e w3 ⟨v2, x2, p2, q2, rfl, hb2⟩; have HE3 := Lib.hid (fun o => ((HE2.out _).under hb2).under ((Below.refl _ w3).alloc (Nat.le_refl _) o)); obtain ⟨hl2, z0, z1, z2⟩ := fault_kept hb2)
  go_loop [11] (fun v => ∃ k : Nat, k ≤ comL n.data.toList ∧ v = .int .i64 k) (fun v => n.size - (intOf v).toNat)
  case atStart => exact ⟨0, Nat.zero_le _, rfl⟩
  case round =>
    obtain ⟨k, hk, rfl⟩ := hrel
    have hks : k < n.size := by have := HCOM.out; omega
    by_cases hlt : k < comL n.data.toList
    · have hx := byte_com_lt n hlt hks
      go_wp2_with fail
      go_round
      case rel => exact ⟨k + 1, by omega, by go_num⟩
      case measure => simp [intOf]; omega
    · have hx := byte_com_at n (show k = comL n.data.toList by omega) hks
      go_wp2_with fail
      go_ret
      exact ⟨rfl, ((((hb0.trans (hb1.mono hb0.size)).alloc (Nat.le_trans hb0.size hb1.size) _).trans (hb2.mono (by have := hb0.size; have := hb1.size; simp; omega))).alloc (by have := hb0.size; have := hb1.size; omega) _)⟩
set_option maxRecDepth 100000 in
set_option maxHeartbeats 400000 in
theorem blanks_bad1 (a b n : ByteArray) (w : World) (ha : a.size ≤ 140737488351232) (hb : b.size ≤ 140737488351232) (hn : n.size ≤ 140737488351232) (he : Errs w) (hcom : comL n.data.toList = n.size)
    (h1 : ∀ w, Errs w → Calls Tryd.prog 10 #[.string a] w (BadPost w)) (h2 : ∀ w, Errs w → Calls Tryd.prog 10 #[.string b] w (AnyPost w)) :
    Calls Tryd.prog 7 #[.string a, .string b, .string n] w (Lived w) := by
  have HE := Lib.hid he
  have H1 := Lib.hid h1
  have H2 := Lib.hid h2
  have HCOM := Lib.hid hcom
  clear he h1 h2 hcom
  go_enter Tryd.func7, Tryd.ntmps7
  go_wp2_with (go_at_call 9; refine (lives_any _ HE.out).mono ?_; rintro e w1 ⟨rfl, hb0⟩; have HE1 := Lib.hid (HE.out.under hb0))
  go_wp2_with (go_at_call 10; (with_reducible refine (H1.out _ (HE1.out)).mono ?_); rintro e w2 ⟨v1, x1, p1, q1, hx1, rfl, hb1⟩; have HE2 := Lib.hid (fun o => ((HE1.out).under hb1).under ((Below.refl _ w2).alloc (Nat.le_refl _) o)))
  go_wp2_with (go_at_call 10; (with_reducible refine (H2.out _ (HE2.out _)).mono ?_); rintro e w3 ⟨v2, x2, p2, q2, rfl, hb2⟩; have HE3 := Lib.hid (fun o => ((HE2.out _).under hb2).under ((Below.refl _ w3).alloc (Nat.le_refl _) o)); obtain ⟨hl2, z0, z1, z2⟩ := fault_kept hb2)
  go_loop [11] (fun v => ∃ k : Nat, k ≤ n.size ∧ v = .int .i64 k) (fun v => n.size - (intOf v).toNat)
  case atStart => exact ⟨0, Nat.zero_le _, rfl⟩
  case round =>
    obtain ⟨k, hk, rfl⟩ := hrel
    by_cases hks : k < n.size
    · have hx := byte_com_lt n (show k < comL n.data.toList by have := HCOM.out; omega) hks
      go_wp2_with fail
      go_round
      case rel => exact ⟨k + 1, by omega, by go_num⟩
      case measure => simp [intOf]; omega
    · go_wp2_with fail
      go_ret
      exact ⟨rfl, ((((hb0.trans (hb1.mono hb0.size)).alloc (Nat.le_trans hb0.size hb1.size) _).trans (hb2.mono (by have := hb0.size; have := hb1.size; simp; omega))).alloc (by have := hb0.size; have := hb1.size; omega) _)⟩
set_option maxRecDepth 100000 in
set_option maxHeartbeats 400000 in
theorem blanks_bad2 (a b n : ByteArray) (ts1 : List Tok) (w : World) (ha : a.size ≤ 140737488351232) (hb : b.size ≤ 140737488351232) (hn : n.size ≤ 140737488351232) (he : Errs w) (hcom : comL n.data.toList = n.size)
    (h1 : ∀ w, Errs w → Calls Tryd.prog 10 #[.string a] w (OkPost ts1 w)) (h2 : ∀ w, Errs w → Calls Tryd.prog 10 #[.string b] w (BadPost w)) :
    Calls Tryd.prog 7 #[.string a, .string b, .string n] w (Lived w) := by
  have HE := Lib.hid he
  have H1 := Lib.hid h1
  have H2 := Lib.hid h2
  have HCOM := Lib.hid hcom
  clear he h1 h2 hcom
  go_enter Tryd.func7, Tryd.ntmps7
  go_wp2_with (go_at_call 9; refine (lives_any _ HE.out).mono ?_; rintro e w1 ⟨rfl, hb0⟩; have HE1 := Lib.hid (HE.out.under hb0))
  go_wp2_with (go_at_call 10; (with_reducible refine (H1.out _ (HE1.out)).mono ?_); rintro e w2 ⟨g1, c1, rfl, hg1, hgl1, hc1, hcm1, hb1, hcells1⟩; have HC1 := Lib.hid (show CellsAt w2 g1 ts1 from hcells1); clear hcells1; have HE2 := Lib.hid (fun o => ((HE1.out).under hb1).under ((Below.refl _ w2).alloc (Nat.le_refl _) o)))
  go_wp2_with (go_at_call 10; (with_reducible refine (H2.out _ (HE2.out _)).mono ?_); rintro e w3 ⟨v2, x2, p2, q2, hx2, rfl, hb2⟩; have HE3 := Lib.hid (fun o => ((HE2.out _).under hb2).under ((Below.refl _ w3).alloc (Nat.le_refl _) o)); obtain ⟨hl2, z0, z1, z2⟩ := fault_kept hb2)
  go_loop [11] (fun v => ∃ k : Nat, k ≤ n.size ∧ v = .int .i64 k) (fun v => n.size - (intOf v).toNat)
  case atStart => exact ⟨0, Nat.zero_le _, rfl⟩
  case round =>
    obtain ⟨k, hk, rfl⟩ := hrel
    by_cases hks : k < n.size
    · have hx := byte_com_lt n (show k < comL n.data.toList by have := HCOM.out; omega) hks
      go_wp2_with fail
      go_round
      case rel => exact ⟨k + 1, by omega, by go_num⟩
      case measure => simp [intOf]; omega
    · go_wp2_with fail
      go_ret
      exact ⟨rfl, ((((hb0.trans (hb1.mono hb0.size)).alloc (Nat.le_trans hb0.size hb1.size) _).trans (hb2.mono (by have := hb0.size; have := hb1.size; simp; omega))).alloc (by have := hb0.size; have := hb1.size; omega) _)⟩
set_option maxRecDepth 100000 in
set_option maxHeartbeats 400000 in
theorem blanks_long (a b n : ByteArray) (ts1 : List Tok) (ts2 : List Tok) (w : World) (ha : a.size ≤ 140737488351232) (hb : b.size ≤ 140737488351232) (hn : n.size ≤ 140737488351232) (he : Errs w) (hcom : comL n.data.toList = n.size) (hlong : 65536 < a.size + 5 + n.size + 2 + b.size)
    (h1 : ∀ w, Errs w → Calls Tryd.prog 10 #[.string a] w (OkPost ts1 w)) (h2 : ∀ w, Errs w → Calls Tryd.prog 10 #[.string b] w (OkPost ts2 w)) :
    Calls Tryd.prog 7 #[.string a, .string b, .string n] w (Lived w) := by
  have HE := Lib.hid he
  have H1 := Lib.hid h1
  have H2 := Lib.hid h2
  have HCOM := Lib.hid hcom
  clear he h1 h2 hcom
  go_enter Tryd.func7, Tryd.ntmps7
  go_wp2_with (go_at_call 9; refine (lives_any _ HE.out).mono ?_; rintro e w1 ⟨rfl, hb0⟩; have HE1 := Lib.hid (HE.out.under hb0))
  go_wp2_with (go_at_call 10; (with_reducible refine (H1.out _ (HE1.out)).mono ?_); rintro e w2 ⟨g1, c1, rfl, hg1, hgl1, hc1, hcm1, hb1, hcells1⟩; have HC1 := Lib.hid (show CellsAt w2 g1 ts1 from hcells1); clear hcells1; have HE2 := Lib.hid (fun o => ((HE1.out).under hb1).under ((Below.refl _ w2).alloc (Nat.le_refl _) o)))
  go_wp2_with (go_at_call 10; (with_reducible refine (H2.out _ (HE2.out _)).mono ?_); rintro e w3 ⟨g2, c2, rfl, hg2, hgl2, hc2, hcm2, hb2, hcells2⟩; have HC2 := Lib.hid (show CellsAt w3 g2 ts2 from hcells2); clear hcells2; have HE3 := Lib.hid (fun o => ((HE2.out _).under hb2).under ((Below.refl _ w3).alloc (Nat.le_refl _) o)); obtain ⟨hl2, z0, z1, z2⟩ := fault_kept hb2)
  go_loop [11] (fun v => ∃ k : Nat, k ≤ n.size ∧ v = .int .i64 k) (fun v => n.size - (intOf v).toNat)
  case atStart => exact ⟨0, Nat.zero_le _, rfl⟩
  case round =>
    obtain ⟨k, hk, rfl⟩ := hrel
    by_cases hks : k < n.size
    · have hx := byte_com_lt n (show k < comL n.data.toList by have := HCOM.out; omega) hks
      go_wp2_with fail
      go_round
      case rel => exact ⟨k + 1, by omega, by go_num⟩
      case measure => simp [intOf]; omega
    · go_wp2_with fail
      go_ret
      exact ⟨rfl, ((((hb0.trans (hb1.mono hb0.size)).alloc (Nat.le_trans hb0.size hb1.size) _).trans (hb2.mono (by have := hb0.size; have := hb1.size; simp; omega))).alloc (by have := hb0.size; have := hb1.size; omega) _)⟩
def OkN (ts : List Tok) (n : Nat) (w : World) (e : Ending) (w' : World) : Prop :=
  ∃ g cap, e = .returned (.tuple #[.slice (some ⟨g, 0, none⟩) n cap, .agg #[.int .i64 0, .int .i64 0, .int .i64 0]]) ∧ w.heap.size ≤ g ∧ g < w'.heap.size ∧ n ≤ cap ∧ cap ≤ maxLen ∧ Below w.heap.size w w' ∧ CellsAt w' g ts
/-- append at a guarded operation that is wanted -/
theorem wpList_append_own_on {P : Program} {w : World} {ops : Array Oper} {rest : List Oper} {o : Oper} {a : Act} {Q : Exit → Act → World → Prop} (hgd : Region.wanted o (yielded ops a.tmps) = true) (s x : Operand) (t : TypeId)
    (ho : o.op = .call { callee := .builtin .append, args := #[s, x], argTypes := #[t, t] })
    (base : Nat) (e : TypeId) (i : TypeInfo) (z : Value) (size bytes : Nat) (ht : P.underlying t = some (.slice e)) (hi : P.info? e = some i) (hz : i.zero = some z)
    (hsize : i.size = size) (hby : i.bytes = bytes) (hzs : z.cells.size = size) (hsz : 0 < size)
    (v : Value) (n : Nat) (xs : List Value) (hs : a.eval s = v) (hown : w.ownsRow base e size v n xs)
    (ad : Addr) (m c : Nat) (news : List Value) (hx : a.eval x = .slice (some ad) m c) (hl : news.length = m * size) (hnews : ∀ j u, news[j]? = some u → w.cell? (ad.add j) = some u) (h1 : ∀ u ∈ news, u.oneCell' = true)
    (h63 : n + m ≤ maxLen) (hbytes : (n + m) * bytes ≤ 140737488355328) (hbase : base ≤ w.heap.size)
    (h : ∀ v' w', w'.ownsRow base e size v' (n + m) (xs ++ news) → w.grownBy w' v.ownBlock → (v' = .slice none 0 0 ↔ v = .slice none 0 0 ∧ m = 0) → wpList P ops Q rest (a.put o.dst v') w') : wpList P ops Q (o :: rest) a w :=
  wpList_step fun K hK => by
    simp only [hgd, if_true]
    exact wp_append_own w s x t ho base e i z size bytes ht hi hz hsize hby hzs hsz v n xs hs hown ad m c news hx hl hnews h1 h63 hbytes hbase fun v' w' h2 h3 h4 => hK _ _ (h v' w' h2 h3 h4)
theorem flat_len (ts : List Tok) : (ts.flatMap Tok.cells).length = ts.length * 5 := by
  induction ts with
  | nil => rfl
  | cons t r ih => rw [List.flatMap_cons, List.length_append, ih, List.length_cons]; simp [Tok.cells]; omega
theorem flat_one (ts : List Tok) : ∀ u ∈ ts.flatMap Tok.cells, u.oneCell' = true := by
  intro u hu
  obtain ⟨t, _, ht⟩ := List.mem_flatMap.1 hu
  simp only [Tok.cells, List.mem_cons, List.not_mem_nil, or_false] at ht
  rcases ht with rfl | rfl | rfl | rfl | rfl <;> rfl
theorem news_of {w : World} {g : Nat} {pre ts : List Tok} (hp : pre <+: ts) (h : CellsAt w g ts) : ∀ j u, (pre.flatMap Tok.cells)[j]? = some u → w.cell? ((⟨g, 0, none⟩ : Addr).add j) = some u := by
  intro j u hj
  obtain ⟨r, rfl⟩ := hp
  have hadd : (⟨g, 0, none⟩ : Addr).add j = ⟨g, j, none⟩ := by unfold Addr.add; split <;> simp_all
  rw [hadd]
  refine h j u ?_
  rw [List.flatMap_append, List.getElem?_append_left]
  · exact hj
  · exact (List.getElem?_eq_some_iff.1 hj).1
theorem CellsAt.grown {w w' : World} {g : Nat} {ts : List Tok} {r : Option Nat} (h : CellsAt w g ts) (hg : w.grownBy w' r) (hlt : g < w.heap.size) (hne : some g ≠ r) : CellsAt w' g ts := fun j u hu => by
  rw [World.cell?_of_block (hg.block g hlt hne)]
  exact h j u hu
theorem flat_append {w : World} {g : Nat} {A B : List Tok} (h : ∀ j u, (A.flatMap Tok.cells ++ B.flatMap Tok.cells)[j]? = some u → w.cell? ⟨g, j, none⟩ = some u) : CellsAt w g (A ++ B) := fun j u hu => h j u (by rwa [List.flatMap_append] at hu)
theorem rAlike_n (g1 c1 g2 c2 : Nat) (A B : List Tok) (a b : Nat) (w : World) (ha : a = A.length) (hb : b = B.length) (hk : A.map Tok.key = B.map Tok.key) (hn : A.length ≤ 1073741824) (h1 : CellsAt w g1 A) (h2 : CellsAt w g2 B) :
    Calls Tryd.prog 21 #[.slice (some ⟨g1, 0, none⟩) a c1, .slice (some ⟨g2, 0, none⟩) b c2] w fun e w' => e = .returned (.bool true) ∧ ∃ nq, w' = w.drewN nq := by
  subst ha hb
  exact rAlike_any g1 c1 g2 c2 A B w hk hn h1 h2
set_option maxRecDepth 100000 in
set_option maxHeartbeats 400000 in
theorem blanks_ok (a b n : ByteArray) (ts1 ts2 ts3 : List Tok) (m : Nat) (w : World) (ha : a.size ≤ 140737488351232) (hb : b.size ≤ 140737488351232) (hn : n.size ≤ 140737488351232) (he : Errs w) (hcom : comL n.data.toList = n.size) (hshort : a.size + 5 + n.size + 2 + b.size ≤ 65536) (hm : m ≤ 65536) (hlen1 : ts1.length = m + 1) (hlen2 : ts2.length ≤ 65537) (hpos2 : 0 < ts2.length) (hlen3 : ts3.length ≤ 65537) (hkey : ts3.map Tok.key = (ts1.dropLast ++ ts2).map Tok.key) (h3 : ∀ w, Errs w → Calls Tryd.prog 10 #[.string (a ++ { data := #[10, 32, 45, 45, 32] } ++ n ++ { data := #[10, 9] } ++ b)] w (OkPost ts3 w))
    (h1 : ∀ w, Errs w → Calls Tryd.prog 10 #[.string a] w (OkN ts1 (m + 1) w)) (h2 : ∀ w, Errs w → Calls Tryd.prog 10 #[.string b] w (OkPost ts2 w)) :
    Calls Tryd.prog 7 #[.string a, .string b, .string n] w (Lived w) := by
  have HE := Lib.hid he
  have H1 := Lib.hid h1
  have H2 := Lib.hid h2
  have HLD := Lib.hid (show (ts1.dropLast.flatMap Tok.cells).length = m * 5 by rw [flat_len, List.length_dropLast, hlen1]; omega)
  have HLB := Lib.hid (show m + ts2.length = (ts1.dropLast ++ ts2).length by rw [List.length_append, List.length_dropLast, hlen1]; omega)
  obtain ⟨i0, hi, hz0, hz1, hz2⟩ := info_parts tok_info5
  clear hlen1
  have H3 := Lib.hid h3
  have HKEY := Lib.hid hkey
  have HCOM := Lib.hid hcom
  clear he h1 h2 h3 hcom hkey
  go_enter Tryd.func7, Tryd.ntmps7
  go_wp2_with (go_at_call 9; refine (lives_any _ HE.out).mono ?_; rintro e w1 ⟨rfl, hb0⟩; have HE1 := Lib.hid (HE.out.under hb0))
  go_wp2_with (go_at_call 10; (with_reducible refine (H1.out _ (HE1.out)).mono ?_); rintro e w2 ⟨g1, c1, rfl, hg1, hgl1, hc1, hcm1, hb1, hcells1⟩; have HC1 := Lib.hid (show CellsAt w2 g1 ts1 from hcells1); clear hcells1; have HE2 := Lib.hid (fun o => ((HE1.out).under hb1).under ((Below.refl _ w2).alloc (Nat.le_refl _) o)))
  go_wp2_with (go_at_call 10; (with_reducible refine (H2.out _ (HE2.out _)).mono ?_); rintro e w3 ⟨g2, c2, rfl, hg2, hgl2, hc2, hcm2, hb2, hcells2⟩; have HC2 := Lib.hid (show CellsAt w3 g2 ts2 from hcells2); clear hcells2; have HE3 := Lib.hid (fun o => ((HE2.out _).under hb2).under ((Below.refl _ w3).alloc (Nat.le_refl _) o)); obtain ⟨hl2, z0, z1, z2⟩ := fault_kept hb2)
  go_loop [11] (fun v => ∃ k : Nat, k ≤ n.size ∧ v = .int .i64 k) (fun v => n.size - (intOf v).toNat)
  case atStart => exact ⟨0, Nat.zero_le _, rfl⟩
  case round =>
    obtain ⟨k, hk, rfl⟩ := hrel
    by_cases hks : k < n.size
    · have hx := byte_com_lt n (show k < comL n.data.toList by have := HCOM.out; omega) hks
      go_wp2_with fail
      go_round
      case rel => exact ⟨k + 1, by omega, by go_num⟩
      case measure => simp [intOf]; omega
    · go_wp2_with (first | (go_at_call 10; (with_reducible refine (H3.out _ (HE3.out _)).mono ?_); rintro e w4 ⟨g3, c3, rfl, hg3, hgl3, hc3, hcm3, hb3, hcells3⟩; have HC3 := Lib.hid (show CellsAt w4 g3 ts3 from hcells3); clear hcells3; obtain ⟨hl3, y0, y1, y2⟩ := fault_kept hb3) | (at_builtin; (refine wpList_append_own_on rfl (.const (.slice none 0 0)) (.tmp 74) 23 rfl w4.heap.size 34 i0 zeroTok 5 48 Tryd.underlying23 hi hz0 hz1 hz2 rfl (by decide) _ 0 [] rfl (World.ownsRow_nil _ _ _ _) ⟨g1, 0, none⟩ m c1 (ts1.dropLast.flatMap Tok.cells) rfl HLD.out (news_of (List.dropLast_prefix ts1) (((((HC1.out.alloc hgl1 _).under hb2 (by simp; omega)).alloc (by omega) _).under hb3 (by simp; omega)).alloc (by omega) _)) (flat_one _) (by unfold maxLen; omega) (by omega) (by simp) ?_); intro v5 w5 hown5 hg5 hnil5; simp only [Nat.zero_add, List.nil_append] at hown5; have HO5 := Lib.hid hown5; have HG5 := Lib.hid hg5; clear hown5 hg5 hnil5) | (at_builtin; (refine wpList_append_own_on rfl (.tmp 75) (.tmp 76) 23 rfl w4.heap.size 34 i0 zeroTok 5 48 Tryd.underlying23 hi hz0 hz1 hz2 rfl (by decide) v5 m _ rfl HO5.out ⟨g2, 0, none⟩ ts2.length c2 (ts2.flatMap Tok.cells) rfl (flat_len ts2) (news_of (List.prefix_refl ts2) ((((HC2.out.alloc hgl2 _).under hb3 (by simp; omega)).alloc (by omega) _).grown HG5.out (by simp; omega) (fun h => nomatch (show some _ = (none : Option Nat) from h)))) (flat_one _) (by unfold maxLen; omega) (by omega) (by have := HG5.out.size; simp at this; omega) ?_); intro v6 w6 hown6 hg6 hnil6; have HG6 := Lib.hid hg6; obtain ⟨g6, c6, rfl, hg6a, hg6b, hc6, hcm6, hcells6⟩ := own_slice hown6 (by omega); have HC6 := Lib.hid hcells6; clear hown6 hg6 hnil6 hcells6) | (go_at_call 21; refine (rAlike_n g3 c3 g6 c6 ts3 (ts1.dropLast ++ ts2) _ _ _ rfl HLB.out HKEY.out (by omega) (((HC3.out.alloc hgl3 _).grown HG5.out (by simp; omega) (fun h => nomatch (show some _ = (none : Option Nat) from h))).grown HG6.out (by have := HG5.out.size; simp at this; omega) (fun h => by have := HO5.out.lt _ h.symm; omega)) (flat_append HC6.out)).mono ?_; rintro e w7 ⟨rfl, nq, rfl⟩))
      go_ret
      have s0 := hb0.size
      have s1 := hb1.size
      have s2 := hb2.size
      have s3 := hb3.size
      simp at s2 s3
      exact ⟨rfl, below_drewN ((((((((hb0.trans (hb1.mono s0)).alloc (Nat.le_trans s0 s1) _).trans (hb2.mono (by simp; omega))).alloc (by omega) _).trans (hb3.mono (by simp; omega))).alloc (by omega) _).grown HG5.out (by simp; omega) (fun k h => nomatch (show (none : Option Nat) = some k from h))).grown HG6.out (by have := HG5.out.size; simp at this; omega) (fun k h => by have := (HO5.out.lt k h).1; omega)) _⟩

theorem scan_okN (s : ByteArray) (hs : s.size ≤ 65536) (h : (scanAll s.data.toList).2 = none) {m : Nat} (hm : (scanAll s.data.toList).1.length = m + 1) (w : World) (he : Errs w) : Calls Tryd.prog 10 #[.string s] w (OkN (scanAll s.data.toList).1 (m + 1) w) :=
  (scan_ok s hs h w he).mono fun e w' h => by rw [← hm]; exact h
theorem blanks_any (a b n : ByteArray) (w : World) (ha : a.size ≤ 140737488351232) (hb : b.size ≤ 140737488351232) (hn : n.size ≤ 140737488351232) (he : Errs w) : Calls Tryd.prog 7 #[.string a, .string b, .string n] w (Lived w) := by
  have mx : ∀ s : ByteArray, s.size ≤ 140737488351232 → s.size ≤ maxLen := fun s h => by unfold maxLen; omega
  have hl := comL_le n.data.toList
  have hln : n.data.toList.length = n.size := by simp
  by_cases hc : comL n.data.toList = n.size
  · by_cases h1 : a.size ≤ 65536 ∧ (scanAll a.data.toList).2 = none
    · by_cases h2 : b.size ≤ 65536 ∧ (scanAll b.data.toList).2 = none
      · by_cases hs : a.size + 5 + n.size + 2 + b.size ≤ 65536
        · have x1 := lex_of_scan h1.2
          have x2 := lex_of_scan h2.2
          have x3 := lex_blanks x1 x2 (com_all (hc.trans hln.symm))
          have e : a.data.toList ++ sepL n.data.toList ++ b.data.toList = (a ++ { data := #[10, 32, 45, 45, 32] } ++ n ++ { data := #[10, 9] } ++ b : ByteArray).data.toList := by
            simp [sepL, ByteArray.data_append]
          rw [e] at x3
          obtain ⟨y1, y2⟩ := scan_of_lex x3
          have hsz : (a ++ { data := #[10, 32, 45, 45, 32] } ++ n ++ { data := #[10, 9] } ++ b : ByteArray).size ≤ 65536 := by
            simp only [ByteArray.size_append]
            show a.size + 5 + n.size + 2 + b.size ≤ 65536
            exact hs
          have n1 := scanF_ne h1.2
          have n2 := scanF_ne h2.2
          have l1 := scan_ok_len a
          have l2 := scan_ok_len b
          have l3 := scan_ok_len (a ++ { data := #[10, 32, 45, 45, 32] } ++ n ++ { data := #[10, 9] } ++ b)
          have p1 : 0 < (scanAll a.data.toList).1.length := n1
          have hm1 : (scanAll a.data.toList).1.length = (scanAll a.data.toList).1.length - 1 + 1 := by omega
          exact blanks_ok a b n (scanAll a.data.toList).1 (scanAll b.data.toList).1 _ _ w ha hb hn he hc hs (by omega) hm1 (by omega) n2 (by omega) (by rw [y2, List.map_append, List.map_dropLast]) (fun w he => scan_ok _ hsz y1 w he) (fun w he => scan_okN a h1.1 h1.2 hm1 w he) (fun w he => scan_ok b h2.1 h2.2 w he)
        · exact blanks_long a b n (scanAll a.data.toList).1 (scanAll b.data.toList).1 w ha hb hn he hc (by omega) (fun w he => scan_ok a h1.1 h1.2 w he) (fun w he => scan_ok b h2.1 h2.2 w he)
      · exact blanks_bad2 a b n (scanAll a.data.toList).1 w ha hb hn he hc (fun w he => scan_ok a h1.1 h1.2 w he) (fun w he => scan_bad b w (mx b hb) he h2)
    · exact blanks_bad1 a b n w ha hb hn he hc (fun w he => scan_bad a w (mx a ha) he h1) (fun w he => scan_anyhow b w (mx b hb) he)
  · exact blanks_note a b n w hn he (by omega) (fun w he => scan_anyhow a w (mx a ha) he) (fun w he => scan_anyhow b w (mx b hb) he)
end Go.Proofs.YtnoifghbcfoaaaaDoor
