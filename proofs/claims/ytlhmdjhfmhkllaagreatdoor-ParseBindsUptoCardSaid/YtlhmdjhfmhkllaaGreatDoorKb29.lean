/-
  Texts joined.
-/
import Derived.Test.YtlhmdjhfmhkllaaGreatDoorKb25
import Derived.Test.YtlhmdjhfmhkllaaGreatDoorKb28
namespace Go.Proofs.YtlhmdjhfmhkllaaGreatDoor
open Go.RowKit
theorem alloc5 {w : World} (a b c d e : Obj) : Below w.heap.size w (((((w.alloc a).alloc b).alloc c).alloc d).alloc e) := (((((Below.refl _ _).alloc (Nat.le_refl _) _).alloc (by simp) _).alloc (by simp; omega) _).alloc (by simp; omega) _).alloc (by simp; omega) _
def TwoPost (ob : Option Nat) (x : Ex) (w : World) (e : Ending) (w' : World) : Prop := ∃ L : List Value, e = .returned (.agg L.toArray) ∧ ExAt (offW 0 ob w') L x ∧ Below w.heap.size w w'
set_option maxRecDepth 100000 in
theorem two_results {tmps : Array Value} {w : World} {N : Nat} {x0 x1 x2 x3 x4 : Value} (hp : tmps.getD 6 undef = .pointer (some ⟨N, 0, none⟩)) (hg : w.heap[N]? = some (.cells #[x0, x1, x2, x3, x4] 37 (0, 0))) :
    (results Tryz.f17 tmps).run Tryz.prog w = .ok (.agg #[x0, x1, x2, x3, x4]) w :=
  results_cell_row Tryz.results17 tmps w N 37 _ (0, 0) _ hp hg Tryz.underlying37 rfl tokres_infoE
set_option maxRecDepth 100000 in
set_option maxHeartbeats 4000000 in
theorem two_any {w : World} {ob : Option Nat} (hob : ∀ g, ob = some g → g < w.heap.size) {s : Tx} (hs : s.length ≤ maxLen) {L2 L4 : List Value} {a b : Ex} (h2 : ExAt (offW 0 ob w) L2 a) (h4 : ExAt (offW 0 ob w) L4 b) : Calls Tryz.prog 17 #[.string (str s), .agg L2.toArray, .agg L4.toArray] w (TwoPost ob (operE s a b) w) := by
  have HX2 := Lib.hid h2; have HX4 := Lib.hid h4; obtain ⟨o2, s2, n2, A2, m2, k2, B2, j2, l2, rfl⟩ := h2.shape; obtain ⟨o4, s4, n4, A4, m4, k4, B4, j4, l4, rfl⟩ := h4.shape; clear h2 h4; by_cases h0 : s = arrowT
  · have e : operE s a b = .mk 10 [] 0 [] [a, b] := by unfold operE; rw [if_pos h0]
    rw [e]; have b0 : ((str s).toList == [45, 62]) = true := tx_is h0; have b1 : ((str s).toList == [102, 98, 121]) = false := tx_not (by rw [h0]; decide); clear e h0; go_enter Tryz.func17, Tryz.ntmps17
    go_wp2; exact bodyPost_ret (two_results rfl (alloc_below (alloc_below (alloc_at (by simp))))) rfl ⟨[.int .i64 10, .string ⟨#[]⟩, .int .i64 0, .slice none 0 0, .slice (some ⟨w.heap.size + 1 + 1 + 1, 0, none⟩) 2 2], rfl, ex_node (nm := []) (by constructor <;> omega) (by constructor <;> omega) (by simp [maxLen]) (strs_none _) (made2 ((off_get (Nat.zero_le _) (fun e => by have := hob _ e; omega)).trans (alloc_below (alloc_at (by simp)))) (HX2.out.sub (off_same ((((((Same.refl 0 w).alloc _).alloc _).alloc _).alloc _).alloc _))) (HX4.out.sub (off_same ((((((Same.refl 0 w).alloc _).alloc _).alloc _).alloc _).alloc _))) rfl rfl), alloc5 _ _ _ _ _⟩
  by_cases h1 : s = fbyT
  · have e : operE s a b = .mk 8 [] 0 [] [a, b] := by unfold operE; rw [if_neg h0, if_pos h1]
    rw [e]; have b0 : ((str s).toList == [45, 62]) = false := tx_not h0; have b1 : ((str s).toList == [102, 98, 121]) = true := tx_is h1; clear e h0 h1; go_enter Tryz.func17, Tryz.ntmps17
    go_wp2; exact bodyPost_ret (two_results rfl (alloc_below (alloc_below (alloc_at (by simp))))) rfl ⟨[.int .i64 8, .string ⟨#[]⟩, .int .i64 0, .slice none 0 0, .slice (some ⟨w.heap.size + 1 + 1 + 1, 0, none⟩) 2 2], rfl, ex_node (nm := []) (by constructor <;> omega) (by constructor <;> omega) (by simp [maxLen]) (strs_none _) (made2 ((off_get (Nat.zero_le _) (fun e => by have := hob _ e; omega)).trans (alloc_below (alloc_at (by simp)))) (HX2.out.sub (off_same ((((((Same.refl 0 w).alloc _).alloc _).alloc _).alloc _).alloc _))) (HX4.out.sub (off_same ((((((Same.refl 0 w).alloc _).alloc _).alloc _).alloc _).alloc _))) rfl rfl), alloc5 _ _ _ _ _⟩
  · have e : operE s a b = .mk 6 s 0 [] [a, b] := by unfold operE; rw [if_neg h0, if_neg h1]
    rw [e]; have b0 : ((str s).toList == [45, 62]) = false := tx_not h0; have b1 : ((str s).toList == [102, 98, 121]) = false := tx_not h1; clear e h0 h1; go_enter Tryz.func17, Tryz.ntmps17
    go_wp2; exact bodyPost_ret (two_results rfl (alloc_below (alloc_below (alloc_at (by simp))))) rfl ⟨[.int .i64 6, .string (str s), .int .i64 0, .slice none 0 0, .slice (some ⟨w.heap.size + 1 + 1 + 1, 0, none⟩) 2 2], rfl, ex_node (nm := s) (by constructor <;> omega) (by constructor <;> omega) hs (strs_none _) (made2 ((off_get (Nat.zero_le _) (fun e => by have := hob _ e; omega)).trans (alloc_below (alloc_at (by simp)))) (HX2.out.sub (off_same ((((((Same.refl 0 w).alloc _).alloc _).alloc _).alloc _).alloc _))) (HX4.out.sub (off_same ((((((Same.refl 0 w).alloc _).alloc _).alloc _).alloc _).alloc _))) rfl rfl), alloc5 _ _ _ _ _⟩
theorem sub_off {w W : World} (hb : Below w.heap.size w W) {ob : Option Nat} (h : ∀ g, ob = some g → w.heap.size ≤ g) : Sub w (offW 0 ob W) := fun a v hv => by
  have hlt := World.block_lt_of_cell? w _ hv
  rw [off_mk (Nat.zero_le _) (fun e => by have := h _ e; omega), World.cell?_of_block (hb.block _ hlt)]
  exact hv
theorem off_out (ob : Option Nat) (w : World) : Sub (offW 0 ob w) w := fun _ _ h => (off_cell h).2.2
/-- a tree in a box of the call's own -/
def TwoCut (Y : World) (x : Ex) (s : Value) (wc : World) : Prop := ∃ (N : Nat) (L : List Value), s = .pointer (some ⟨N, 0, none⟩) ∧ Below Y.heap.size Y wc ∧ wc.heap[N]? = some (.cells L.toArray 37 (0, 0)) ∧ ExAt wc L x
theorem cut_new {Y W : World} {x : Ex} {L : List Value} (hb : Below Y.heap.size Y W) (hx : ExAt (offW 0 none W) L x) : TwoCut Y x (.pointer (some ⟨W.heap.size, 0, none⟩)) (W.alloc (.cells L.toArray 37)) :=
  ⟨_, L, rfl, hb.alloc hb.size _, heap_alloc_new W _, (hx.sub (off_out _ _)).under ((Below.refl _ _).alloc (Nat.le_refl _) _)⟩
theorem cut_old {Y W : World} {x : Ex} {g : Nat} {a b c d e : Value} {cs : Array Value} (hcs : cs.size = 5) (hg : Y.heap.size ≤ g) (hB : W.heap[g]? = some (.cells cs 37 (0, 0))) (hb : Below Y.heap.size Y W) (hx : ExAt (offW 0 (some g) W) [a, b, c, d, e] x) :
    TwoCut Y x (.pointer (some ⟨g, 0, none⟩)) (((((W.setCell ⟨g, 0, none⟩ a).setCell ⟨g, 1, none⟩ b).setCell ⟨g, 2, none⟩ c).setCell ⟨g, 3, none⟩ d).setCell ⟨g, 4, none⟩ e) := by
  refine ⟨g, [a, b, c, d, e], rfl, ((((hb.setCell hg _).setCell hg _).setCell hg _).setCell hg _).setCell hg _, ?_, hx.sub ((off_set5 _ _ _ _ _).trans (off_out _ _))⟩; match cs, hcs with
  | ⟨[_, _, _, _, _]⟩, _ => exact set_row5 _ _ _ _ _ hB
end Go.Proofs.YtlhmdjhfmhkllaaGreatDoor

namespace Go.Proofs.YtlhmdjhfmhkllaaGreatDoor
open Go.RowKit
theorem row_set5 {w : World} {K g : Nat} (h : g ≠ K) (x y z u v : Value) : (((((w.setCell ⟨K, 0, none⟩ x).setCell ⟨K, 1, none⟩ y).setCell ⟨K, 2, none⟩ z).setCell ⟨K, 3, none⟩ u).setCell ⟨K, 4, none⟩ v).heap[g]? = w.heap[g]? := by
  have h1 : ∀ (b : Addr) (W : World) (x : Value), b.block = K → (W.setCell b x).heap[g]? = W.heap[g]? := fun b W x hb => Below.heap_setCell _ _ _ _ (by rw [hb]; exact h); rw [h1 _ _ _ rfl, h1 _ _ _ rfl, h1 _ _ _ rfl, h1 _ _ _ rfl, h1 _ _ _ rfl]
theorem op_one {g : Nat} (h : OpOk g 1) (N G o : Nat) (ts : List Tok) (q : Out Ex) (hq : opX g 1 ts o = some q) (w : World) (hp : PState w N G ts o) : Calls Tryz.prog 64 #[.pointer (some ⟨N, 0, none⟩), .int .i64 1] w (PPost REx N G o q w) := h N G o ts q hq w hp
set_option maxRecDepth 100000 in
theorem expr_results {tmps : Array Value} {w : World} {N : Nat} {x0 x1 x2 x3 x4 : Value} (hp : tmps.getD 2 undef = .pointer (some ⟨N, 0, none⟩)) (hg : w.heap[N]? = some (.cells #[x0, x1, x2, x3, x4] 37 (0, 0))) :
    (results Tryz.f31 tmps).run Tryz.prog w = .ok (.agg #[x0, x1, x2, x3, x4]) w :=
  results_cell_row Tryz.results31 tmps w N 37 _ (0, 0) _ hp hg Tryz.underlying37 rfl tokres_infoE
set_option maxRecDepth 100000 in
set_option maxHeartbeats 2000000 in
theorem pexpr_any {g : Nat} (HO : OpOk g 1) : PartOk 31 REx (fun o ts => opX g 1 ts o) := by
  intro N G o ts q hq w h; have hq : opX g 1 ts o = some q := hq; replace hq : bindP _ _ = some q := (bindP_id _).trans hq; have HQ0 := Lib.hid hq; have HP0 := Lib.hid h; have HK0 := Lib.hid (KeptN.refl N w); have HJ0 := Lib.hid (KeptN.refl N (w.alloc (.cells #[.int .i64 0, .string ⟨#[]⟩, .int .i64 0, .slice none 0 0, .slice none 0 0] 37))); have HOO := Lib.hid HO; have hN := h.lt; have hG := h.2.2.1; clear h hq HO; go_enter Tryz.func31, Tryz.ntmps31
  go_wp2_with (go_at_call 64
               rcases bindP_some HQ0.out with ⟨f, hf, rfl⟩ | ⟨x1, ts1, h1, hq1⟩
               · (with_reducible refine (op_one HOO.out N G o _ _ hf _ (HP0.out.under (((Below.refl _ _).alloc (by simp) _)))).mono ?_); rintro e w7 ⟨rfl, hk7⟩; exact ⟨rfl, rfl, (HK0.out.alloc _).trans hk7⟩
               (with_reducible refine (op_one HOO.out N G o _ _ h1 _ (HP0.out.under (((Below.refl _ _).alloc (by simp) _)))).mono ?_); rintro e w7 ⟨v1, rfl, hr7, hp7, hk7⟩; obtain ⟨V1, rfl⟩ : ∃ W, W = w7 := ⟨_, rfl⟩; have HQ1 := Lib.hid hq1; have HP1 := Lib.hid hp7; have HK1 := Lib.hid ((HK0.out.alloc _).trans hk7); have HJ1 := Lib.hid (HJ0.out.trans hk7); obtain ⟨L1, rfl, hx⟩ := hr7; have HX1 := Lib.hid hx; obtain ⟨o1, s1, n1, A1, m1, k1, B1, j1, l1, rfl⟩ := hx.shape; clear hx; cases HQ1.out; have BR := Lib.hid (hk7.cells (heap_alloc_new w (.cells #[.int .i64 0, .string ⟨#[]⟩, .int .i64 0, .slice none 0 0, .slice none 0 0] 37)) (by omega)); obtain ⟨r0, r1, r2, r3, r4⟩ := row5 BR.out; have f0 := row_frozen BR.out 0; have f1 := row_frozen BR.out 1; have f2 := row_frozen BR.out 2; have f3 := row_frozen BR.out 3; have f4 := row_frozen BR.out 4; clear hq1 hp7 hk7 h1)
  exact bodyPost_ret (expr_results rfl (set_row5 _ _ _ _ _ BR.out)) rfl ⟨_, rfl, ⟨_, rfl, HX1.out.lift ((Same.refl _ V1).set5 (.inl (by simp)) _ _ _ _ _) (by simp)⟩, (HP1.out.set5 (by omega) (by omega) _ _ _ _ _), HK1.out.set5 (Nat.le_refl _) _ _ _ _ _⟩
set_option maxRecDepth 100000 in
theorem sampled_results {tmps : Array Value} {w : World} {N : Nat} {x0 x1 x2 x3 x4 : Value} (hp : tmps.getD 2 undef = .pointer (some ⟨N, 0, none⟩)) (hg : w.heap[N]? = some (.cells #[x0, x1, x2, x3, x4] 37 (0, 0))) :
    (results Tryz.f173 tmps).run Tryz.prog w = .ok (.agg #[x0, x1, x2, x3, x4]) w :=
  results_cell_row Tryz.results173 tmps w N 37 _ (0, 0) _ hp hg Tryz.underlying37 rfl tokres_infoE
set_option maxRecDepth 100000 in
set_option maxHeartbeats 4000000 in
theorem sampled_any {U E : PrX} (HU : PartOk 111 REx (fun o ts => U ts o)) (HA : PartOk 193 REx (fun o ts => atomP E o ts)) : PartOk 173 REx (fun o ts => sampledP U E o ts) := by
  intro N G o ts q hq w h; have HQ0 := Lib.hid (show bindP (atomP E o ts) (fun e ts => if e.op = 14 ∧ atP everyT ts = true then (if ts.tail = [] then none else bindP (U ts.tail o) fun k ts => whenP (ts.length + 1) (.mk 15 [] 0 [] [e, k]) ts) else whenP (ts.length + 1) e ts) = some q from hq); have HP0 := Lib.hid h; have HK0 := Lib.hid (KeptN.refl N w); have HJ0 := Lib.hid (KeptN.refl N (w.alloc (.cells #[.int .i64 0, .string ⟨#[]⟩, .int .i64 0, .slice none 0 0, .slice none 0 0] 37))); have HUU := Lib.hid HU; have HAA := Lib.hid HA; have hmf := make_fn; have hN := h.lt; have hG := h.2.2.1; clear h hq HU HA; go_enter Tryz.func173, Tryz.ntmps173
  go_wp2_with (go_at_call 193
               rcases bindP_some HQ0.out with ⟨f, hf, rfl⟩ | ⟨x1, ts1, h1, hq1⟩
               · (with_reducible refine (HAA.out N G o _ _ hf _ (HP0.out.under (((Below.refl _ _).alloc (by simp) _)))).mono ?_); rintro e w7 ⟨rfl, hk7⟩; exact ⟨rfl, rfl, (HK0.out.alloc _).trans hk7⟩
               (with_reducible refine (HAA.out N G o _ _ h1 _ (HP0.out.under (((Below.refl _ _).alloc (by simp) _)))).mono ?_); rintro e w7 ⟨v1, rfl, hr7, hp7, hk7⟩; obtain ⟨V1, rfl⟩ : ∃ W, W = w7 := ⟨_, rfl⟩; have HQ1 := Lib.hid hq1; have HP1 := Lib.hid hp7; have HK1 := Lib.hid ((HK0.out.alloc _).trans hk7); have HJ1 := Lib.hid (HJ0.out.trans hk7); obtain ⟨L1, rfl, hx⟩ := hr7; have HX1 := Lib.hid hx; obtain ⟨o1, s1, n1, A1, m1, k1, B1, j1, l1, rfl⟩ := hx.shape; clear hx; have g1 : w.heap.size < V1.heap.size := (by have := HJ1.out.size; simp at this; omega); have BR := Lib.hid (hk7.cells (heap_alloc_new w (.cells #[.int .i64 0, .string ⟨#[]⟩, .int .i64 0, .slice none 0 0, .slice none 0 0] 37)) (by omega)); clear hq1 hp7 hk7 h1)
  · have e14 : o1 = 14 := by assumption
    subst e14; have e1 : x1.op = 14 := (by have hx := HX1.out; cases hx; rfl); have HE1 := Lib.hid (HX1.out.sub (new_off (B := w.heap.size + 1) (ob := some V1.heap.size) ((Same.refl _ V1).alloc (.cells #[.int .i64 14, .string s1, .int .i64 n1, .slice A1 m1 k1, .slice B1 j1 l1] 37)) (by simp) (fun g hg => .inr (by injection hg with hg; omega)))); have HG1 := Lib.hid g1; have hq1 := HQ1.out; have HB1 := Lib.hid (heap_alloc_new V1 (.cells #[.int .i64 14, .string s1, .int .i64 n1, .slice A1 m1 k1, .slice B1 j1 l1] 37)); have HC1 := Lib.hid (alloc_below (o := (.cells #[.int .i64 14, .string s1, .int .i64 n1, .slice A1 m1 k1, .slice B1 j1 l1] 37)) BR.out); have HPa := Lib.hid (HP1.out.under ((Below.refl _ _).alloc (Nat.le_refl _) (.cells #[.int .i64 14, .string s1, .int .i64 n1, .slice A1 m1 k1, .slice B1 j1 l1] 37))); have HKa := Lib.hid (HK1.out.alloc (.cells #[.int .i64 14, .string s1, .int .i64 n1, .slice A1 m1 k1, .slice B1 j1 l1] 37)); clear g1; cases ts1 with
    | nil => rw [if_neg (by rintro ⟨_, e⟩; cases e)] at hq1; rw [whenP] at hq1; cases hq1
    | cons t r =>
      by_cases he : t.text = everyT
      · rw [if_pos ⟨e1, decide_eq_true he⟩] at hq1; replace hq1 : (if r = [] then none else bindP (U r o) fun k ts => whenP (ts.length + 1) (.mk 15 [] 0 [] [x1, k]) ts) = some q := hq1; have hr : r ≠ [] := fun e => by rw [if_pos e] at hq1; cases hq1
        rw [if_neg hr] at hq1; have HQ2 := Lib.hid hq1; refine Calls.mono (skipyes_every HPa.out he hr) ?_; clear hq1 HQ1; rintro e w7 ⟨rfl, hp7, hk7⟩; obtain ⟨V2, rfl⟩ : ∃ W, W = w7 := ⟨_, rfl⟩; have hg2 := HG1.out; have HP2 := Lib.hid hp7; have HK2 := Lib.hid (HKa.out.trans hk7); have BK2 := Lib.hid (hk7.cells HB1.out (by omega)); have BR2 := Lib.hid (hk7.cells HC1.out (by omega)); have HE2 := Lib.hid (HE1.out.sub (off_same (hk7.same (B := w.heap.size + 1) (Nat.lt_succ_of_lt hN)))); obtain ⟨p0, p1, p2, p3, p4⟩ := row5 BK2.out; clear hp7 hk7 HE1 he; have HJ2 := HK2; go_wp2_with fail
        refine wp_region_held_drew (S := fun _ => True) (by kernel_rfl) True.intro (fun hHeld => ?_); refine take_now 1 rfl ?_; try simp only [Act.put, setA, setZ, setS]
        refine wpAnyH_ready (rs := [0, 2]) (by kernel_rfl) (by simp) (cons_at 0 rfl (fun K hK => ?_) (cons_at 2 rfl (fun K hK => ?_) AllReadyH.nil))
        · go_simp
          refine hK.out _ _ True.intro (fun hHeld => ?_); clear hK K; try simp only [Act.put, setA, setZ, setS]
          refine only_at 2 (by kernel_rfl) rfl (fun K hK => ?_); go_simp
          (go_at_call 111
           rcases bindP_some HQ2.out with ⟨f, hf, rfl⟩ | ⟨x3, ts3, h3, hq3⟩
           · (with_reducible refine (HUU.out N G o _ _ hf _ (HP2.out.under ((Below.refl _ _).drew))).mono ?_); rintro e w7 ⟨rfl, hk7⟩; exact ⟨rfl, rfl, (HK2.out.trans (KeptN.of_below ((Below.refl _ _).drew))).trans hk7⟩
           (with_reducible refine (HUU.out N G o _ _ h3 _ (HP2.out.under ((Below.refl _ _).drew))).mono ?_); rintro e w7 ⟨v3, rfl, hr7, hp7, hk7⟩; obtain ⟨V3, rfl⟩ : ∃ W, W = w7 := ⟨_, rfl⟩; have HQ3 := Lib.hid hq3; have HP3 := Lib.hid hp7; have HK3 := Lib.hid ((HK2.out.trans (KeptN.of_below ((Below.refl _ _).drew))).trans hk7); have HJ3 := Lib.hid ((HJ2.out.trans (KeptN.of_below ((Below.refl _ _).drew))).trans hk7); have HM3 := Lib.hid ((KeptN.of_below ((Below.refl _ _).drew)).trans hk7); obtain ⟨L3, rfl, hx⟩ := hr7; have HF3 := Lib.hid (hx.sub (new_off (B := w.heap.size + 1) (ob := some V1.heap.size) (Same.refl _ V3) (by have := lt_of_heap BK2.out; show w.heap.size + 1 ≤ V2.heap.size; omega) (fun g hg => .inl (by injection hg with hg; have := lt_of_heap BK2.out; show g < V2.heap.size; omega)))); obtain ⟨o3, s3, n3, A3, m3, k3, B3, j3, l3, rfl⟩ := hx.shape; clear hx; have BK3 := Lib.hid (HM3.out.cells BK2.out (by omega)); have BR3 := Lib.hid (HM3.out.cells BR2.out (by omega)); have HE3 := Lib.hid (HE2.out.sub (off_same (HM3.out.same (B := w.heap.size + 1) (Nat.lt_succ_of_lt hN)))); have g3 : V1.heap.size < V3.heap.size := lt_of_heap BK3.out; obtain ⟨p0, p1, p2, p3, p4⟩ := row5 BK3.out; clear hq3 hp7 hk7 h3)
          refine hK.out _ _ True.intro (fun hHeld => ?_); clear hK K; try simp only [Act.put, setA, setZ, setS]
          refine only_at 3 (by kernel_rfl) rfl (fun K hK => ?_); go_simp
          refine hK.out _ _ True.intro (fun hHeld => ?_); clear hK K; try simp only [Act.put, setA, setZ, setS]
          obtain ⟨t0, t1, t2, t3, t4⟩ := row5 BK3.out; have e0 := row_frozen BK3.out 0; have e1 := row_frozen BK3.out 1; have e2 := row_frozen BK3.out 2; have e3 := row_frozen BK3.out 3; have e4 := row_frozen BK3.out 4; refine only_at 4 (by kernel_rfl) rfl (fun K hK => ?_); go_simp
          refine hK.out _ _ True.intro (fun hHeld => ?_); clear hK K; try simp only [Act.put, setA, setZ, setS]
          refine only_at 5 (by kernel_rfl) rfl (fun K hK => ?_); go_simp
          refine hK.out _ _ True.intro (fun hHeld => ?_); clear hK K; try simp only [Act.put, setA, setZ, setS]
          refine wpAnyH_done (by kernel_rfl) ?_ _; go_wp2_with fail
          go_loopg [4, 5] (ts3.length + 1) (fun g v4 v5 wr => ∃ (m : Nat) (e : Ex) (ts' : List Tok) (L : List Value), m = g ∧ whenP m e ts' = some q ∧ wr.heap[V1.heap.size]? = some (.cells L.toArray 37 (0, 0)) ∧ ExAt (offW (w.heap.size + 1) (some V1.heap.size) wr) L e ∧ wr.heap[w.heap.size]? = some (.cells #[.int .i64 0, .string ⟨#[]⟩, .int .i64 0, .slice none 0 0, .slice none 0 0] 37) ∧ PState wr N G ts' o ∧ KeptN N w wr)
          case atStart => exact ⟨_, .mk 15 [] 0 [] [x1, x3], ts3, [.int .i64 15, .string ⟨#[]⟩, .int .i64 0, .slice none 0 0, .slice (some ⟨V3.heap.size, 0, none⟩) 2 2], rfl, HQ3.out, alloc_below (set_row5 _ _ _ _ _ BK3.out), ex_node (nm := []) (by constructor <;> omega) (by constructor <;> omega) (by simp [maxLen]) (strs_none _) (made2 ((off_get (by omega) (fun e => by injection e with e; omega)).trans (alloc_at (by simp))) ((HE3.out.sub (off_set5 _ _ _ _ _)).sub (off_same ((Same.refl _ _).alloc _))) ((HF3.out.sub (off_set5 _ _ _ _ _)).sub (off_same ((Same.refl _ _).alloc _))) rfl rfl), alloc_below ((row_set5 (by omega) _ _ _ _ _).trans BR3.out), (HP3.out.set5 (by omega) (by omega) _ _ _ _ _).under ((Below.refl _ _).alloc (Nat.le_refl _) _), (HK3.out.set5 (Nat.le_of_lt hg2) _ _ _ _ _).alloc _⟩
          case round =>
            obtain ⟨wq, rfl⟩ : ∃ W, W = wr := ⟨_, rfl⟩; obtain ⟨m, eL, ts2, L, rfl, hlx, hbk, hL, hbr, hp, hk⟩ := hrel; obtain ⟨oL, sL, nL, AL, mL, kL, BL, jL, lL, rfl⟩ := hL.shape; have HEq := Lib.hid hL; have BKq := Lib.hid hbk; have BRq := Lib.hid hbr; have HPq := Lib.hid hp; have HKq := Lib.hid hk; have hKN : V1.heap.size ≠ N := (by have := HG1.out; omega); have hRN : w.heap.size ≠ N := (by omega); have hKR : V1.heap.size ≠ w.heap.size := (by have := HG1.out; omega); clear hL hbk hbr hp hk; cases m with
            | zero => rw [whenP] at hlx; cases hlx
            | succ m =>
              cases ts2 with
              | nil => rw [whenP] at hlx; cases hlx
              | cons t r =>
                rw [whenP] at hlx; by_cases ht : t.text = whenT'
                · rw [if_pos ht] at hlx; have hr : r ≠ [] := fun e => by rw [if_pos e] at hlx; cases hlx
                  rw [if_neg hr] at hlx; have HQ2 := Lib.hid hlx; clear hlx
                  go_wp2_with (first
                    | (go_at_call 132; (with_reducible refine (skipyes_when HPq.out ht hr).mono ?_); rintro e w7 ⟨rfl, hp7, hk7⟩; obtain ⟨V2, rfl⟩ : ∃ W, W = w7 := ⟨_, rfl⟩; have HP2 := Lib.hid hp7; have HK2 := Lib.hid (HKq.out.trans hk7); have HJ2 := Lib.hid hk7; clear hp7 hk7)
                    | (go_at_call 85; rcases bindP_some HQ2.out with ⟨f, hf, rfl⟩ | ⟨x3, ts3, h3, hq3⟩
                       · (with_reducible refine (con_any N G o _ _ hf _ HP2.out).mono ?_); rintro e w7 ⟨rfl, hk7⟩; exact ⟨rfl, rfl, HK2.out.trans hk7⟩
                       (with_reducible refine (con_any N G o _ _ h3 _ HP2.out).mono ?_); rintro e w7 ⟨v3, rfl, hr7, hp7, hk7⟩; obtain ⟨V3, rfl⟩ : ∃ W, W = w7 := ⟨_, rfl⟩; have HQ3 := Lib.hid hq3; have HP3 := Lib.hid hp7; have HK3 := Lib.hid (HK2.out.trans hk7); have HJ3 := Lib.hid (HJ2.out.trans hk7); obtain ⟨rfl, hxl⟩ := hr7; have HX3 := Lib.hid hxl; clear hxl; clear hq3 hp7 hk7 h3)
                    | (go_at_call 194; rcases bindP_some HQ3.out with ⟨f, hf, rfl⟩ | ⟨x4, ts4, h4, hq4⟩
                       · (with_reducible refine (enc_name N G o _ _ hf _ HP3.out).mono ?_); rintro e w7 ⟨rfl, hk7⟩; exact ⟨rfl, rfl, HK3.out.trans hk7⟩
                       (with_reducible refine (enc_name N G o _ _ h4 _ HP3.out).mono ?_); rintro e w7 ⟨v4, rfl, hr7, hp7, hk7⟩; obtain ⟨V4, rfl⟩ : ∃ W, W = w7 := ⟨_, rfl⟩; have HQ4 := Lib.hid hq4; have HP4 := Lib.hid hp7; have HK4 := Lib.hid (HK3.out.trans hk7); have HJ4 := Lib.hid (HJ3.out.trans hk7); obtain ⟨rfl, hxl⟩ := hr7; have HX4 := Lib.hid hxl; clear hxl; have BK4 := Lib.hid (HJ4.out.cells BKq.out hKN); have BR4 := Lib.hid (HJ4.out.cells BRq.out hRN); have g4 : V1.heap.size < V4.heap.size := lt_of_heap BK4.out; obtain ⟨p0, p1, p2, p3, p4⟩ := row5 BK4.out; have f0 := row_frozen BK4.out 0; have f1 := row_frozen BK4.out 1; have f2 := row_frozen BK4.out 2; have f3 := row_frozen BK4.out 3; have f4 := row_frozen BK4.out 4; clear hq4 hp7 hk7 h4))
                  go_roundg m
                  case measure => omega
                  case rel =>
                    have h1 := HG1.out; exact ⟨m, _, ts4, [.int .i64 11, .string (str x4), .int .i64 0, .slice (some ⟨V4.heap.size, 0, none⟩) 1 1, .slice (some ⟨V4.heap.size + 1, 0, none⟩) 1 1], rfl, HQ4.out, alloc_below (alloc_below (set_row5 _ _ _ _ _ BK4.out)), ex_node (by constructor <;> omega) (by constructor <;> omega) HX4.out (made1 (R := StrCell) (L := [.string (str x3)]) ((off_get (by omega) (fun e => by injection e with e; omega)).trans (alloc_below (alloc_at (by simp)))) ⟨rfl, HX3.out⟩ rfl) (made1 ((off_get (by omega) (fun e => by injection e with e; omega)).trans (alloc_at (by simp))) (((HEq.out.sub (off_same (HJ4.out.same (B := w.heap.size + 1) (Nat.lt_succ_of_lt hN)))).sub (off_set5 _ _ _ _ _)).sub (off_same (((Same.refl _ _).alloc _).alloc _))) rfl), alloc_below (alloc_below ((row_set5 hKR.symm _ _ _ _ _).trans BR4.out)), (HP4.out.set5 hKN (by omega) _ _ _ _ _).under (((Below.refl _ _).alloc (Nat.le_refl _) _).alloc (by simp) _), ((HK4.out.set5 (Nat.le_of_lt h1) _ _ _ _ _).alloc _).alloc _⟩
                · rw [if_neg ht] at hlx; cases hlx
                  go_wp2_with (go_at_call 132
                               (with_reducible refine (skipno_when HPq.out ht).mono ?_); rintro e w7 ⟨rfl, hb7⟩; obtain ⟨V2, rfl⟩ : ∃ W, W = w7 := ⟨_, rfl⟩; have HP2 := Lib.hid (HPq.out.under hb7); have HK2 := Lib.hid (HKq.out.trans (KeptN.of_below hb7)); have HJ2 := Lib.hid (KeptN.of_below (N := N) hb7); have BK2 := Lib.hid (HJ2.out.cells BKq.out hKN); have BR2 := Lib.hid (HJ2.out.cells BRq.out hRN); obtain ⟨p0, p1, p2, p3, p4⟩ := row5 BK2.out; obtain ⟨r0, r1, r2, r3, r4⟩ := row5 BR2.out; have f0 := row_frozen BR2.out 0; have f1 := row_frozen BR2.out 1; have f2 := row_frozen BR2.out 2; have f3 := row_frozen BR2.out 3; have f4 := row_frozen BR2.out 4; clear hb7)
                  exact bodyPost_ret (sampled_results rfl (set_row5 _ _ _ _ _ BR2.out)) rfl ⟨_, rfl, ⟨_, rfl, ((HEq.out.sub (off_same (HJ2.out.same (B := w.heap.size + 1) (Nat.lt_succ_of_lt hN)))).sub (off_sub _ _ _)).lift ((Same.refl _ V2).set5 (.inl (Nat.lt_succ_self _)) _ _ _ _ _) (Nat.le_succ _)⟩, (HP2.out.set5 (by omega) (by omega) _ _ _ _ _), HK2.out.set5 (Nat.le_refl _) _ _ _ _ _⟩
        · go_simp
          (go_at_call 111
           rcases bindP_some HQ2.out with ⟨f, hf, rfl⟩ | ⟨x3, ts3, h3, hq3⟩
           · (with_reducible refine (HUU.out N G o _ _ hf _ (HP2.out.under ((Below.refl _ _).drew))).mono ?_); rintro e w7 ⟨rfl, hk7⟩; exact ⟨rfl, rfl, (HK2.out.trans (KeptN.of_below ((Below.refl _ _).drew))).trans hk7⟩
           (with_reducible refine (HUU.out N G o _ _ h3 _ (HP2.out.under ((Below.refl _ _).drew))).mono ?_); rintro e w7 ⟨v3, rfl, hr7, hp7, hk7⟩; obtain ⟨V3, rfl⟩ : ∃ W, W = w7 := ⟨_, rfl⟩; have HQ3 := Lib.hid hq3; have HP3 := Lib.hid hp7; have HK3 := Lib.hid ((HK2.out.trans (KeptN.of_below ((Below.refl _ _).drew))).trans hk7); have HJ3 := Lib.hid ((HJ2.out.trans (KeptN.of_below ((Below.refl _ _).drew))).trans hk7); have HM3 := Lib.hid ((KeptN.of_below ((Below.refl _ _).drew)).trans hk7); obtain ⟨L3, rfl, hx⟩ := hr7; have HF3 := Lib.hid (hx.sub (new_off (B := w.heap.size + 1) (ob := some V1.heap.size) (Same.refl _ V3) (by have := lt_of_heap BK2.out; show w.heap.size + 1 ≤ V2.heap.size; omega) (fun g hg => .inl (by injection hg with hg; have := lt_of_heap BK2.out; show g < V2.heap.size; omega)))); obtain ⟨o3, s3, n3, A3, m3, k3, B3, j3, l3, rfl⟩ := hx.shape; clear hx; have BK3 := Lib.hid (HM3.out.cells BK2.out (by omega)); have BR3 := Lib.hid (HM3.out.cells BR2.out (by omega)); have HE3 := Lib.hid (HE2.out.sub (off_same (HM3.out.same (B := w.heap.size + 1) (Nat.lt_succ_of_lt hN)))); have g3 : V1.heap.size < V3.heap.size := lt_of_heap BK3.out; obtain ⟨p0, p1, p2, p3, p4⟩ := row5 BK3.out; clear hq3 hp7 hk7 h3)
          refine hK.out _ _ True.intro (fun hHeld => ?_); clear hK K; try simp only [Act.put, setA, setZ, setS]
          refine only_at 0 (by kernel_rfl) rfl (fun K hK => ?_); go_simp
          refine hK.out _ _ True.intro (fun hHeld => ?_); clear hK K; try simp only [Act.put, setA, setZ, setS]
          refine only_at 3 (by kernel_rfl) rfl (fun K hK => ?_); go_simp
          refine hK.out _ _ True.intro (fun hHeld => ?_); clear hK K; try simp only [Act.put, setA, setZ, setS]
          obtain ⟨t0, t1, t2, t3, t4⟩ := row5 BK3.out; have e0 := row_frozen BK3.out 0; have e1 := row_frozen BK3.out 1; have e2 := row_frozen BK3.out 2; have e3 := row_frozen BK3.out 3; have e4 := row_frozen BK3.out 4; refine only_at 4 (by kernel_rfl) rfl (fun K hK => ?_); go_simp
          refine hK.out _ _ True.intro (fun hHeld => ?_); clear hK K; try simp only [Act.put, setA, setZ, setS]
          refine only_at 5 (by kernel_rfl) rfl (fun K hK => ?_); go_simp
          refine hK.out _ _ True.intro (fun hHeld => ?_); clear hK K; try simp only [Act.put, setA, setZ, setS]
          refine wpAnyH_done (by kernel_rfl) ?_ _; go_wp2_with fail
          go_loopg [4, 5] (ts3.length + 1) (fun g v4 v5 wr => ∃ (m : Nat) (e : Ex) (ts' : List Tok) (L : List Value), m = g ∧ whenP m e ts' = some q ∧ wr.heap[V1.heap.size]? = some (.cells L.toArray 37 (0, 0)) ∧ ExAt (offW (w.heap.size + 1) (some V1.heap.size) wr) L e ∧ wr.heap[w.heap.size]? = some (.cells #[.int .i64 0, .string ⟨#[]⟩, .int .i64 0, .slice none 0 0, .slice none 0 0] 37) ∧ PState wr N G ts' o ∧ KeptN N w wr)
          case atStart => exact ⟨_, .mk 15 [] 0 [] [x1, x3], ts3, [.int .i64 15, .string ⟨#[]⟩, .int .i64 0, .slice none 0 0, .slice (some ⟨V3.heap.size, 0, none⟩) 2 2], rfl, HQ3.out, alloc_below (set_row5 _ _ _ _ _ BK3.out), ex_node (nm := []) (by constructor <;> omega) (by constructor <;> omega) (by simp [maxLen]) (strs_none _) (made2 ((off_get (by omega) (fun e => by injection e with e; omega)).trans (alloc_at (by simp))) ((HE3.out.sub (off_set5 _ _ _ _ _)).sub (off_same ((Same.refl _ _).alloc _))) ((HF3.out.sub (off_set5 _ _ _ _ _)).sub (off_same ((Same.refl _ _).alloc _))) rfl rfl), alloc_below ((row_set5 (by omega) _ _ _ _ _).trans BR3.out), (HP3.out.set5 (by omega) (by omega) _ _ _ _ _).under ((Below.refl _ _).alloc (Nat.le_refl _) _), (HK3.out.set5 (Nat.le_of_lt hg2) _ _ _ _ _).alloc _⟩
          case round =>
            obtain ⟨wq, rfl⟩ : ∃ W, W = wr := ⟨_, rfl⟩; obtain ⟨m, eL, ts2, L, rfl, hlx, hbk, hL, hbr, hp, hk⟩ := hrel; obtain ⟨oL, sL, nL, AL, mL, kL, BL, jL, lL, rfl⟩ := hL.shape; have HEq := Lib.hid hL; have BKq := Lib.hid hbk; have BRq := Lib.hid hbr; have HPq := Lib.hid hp; have HKq := Lib.hid hk; have hKN : V1.heap.size ≠ N := (by have := HG1.out; omega); have hRN : w.heap.size ≠ N := (by omega); have hKR : V1.heap.size ≠ w.heap.size := (by have := HG1.out; omega); clear hL hbk hbr hp hk; cases m with
            | zero => rw [whenP] at hlx; cases hlx
            | succ m =>
              cases ts2 with
              | nil => rw [whenP] at hlx; cases hlx
              | cons t r =>
                rw [whenP] at hlx; by_cases ht : t.text = whenT'
                · rw [if_pos ht] at hlx; have hr : r ≠ [] := fun e => by rw [if_pos e] at hlx; cases hlx
                  rw [if_neg hr] at hlx; have HQ2 := Lib.hid hlx; clear hlx
                  go_wp2_with (first
                    | (go_at_call 132; (with_reducible refine (skipyes_when HPq.out ht hr).mono ?_); rintro e w7 ⟨rfl, hp7, hk7⟩; obtain ⟨V2, rfl⟩ : ∃ W, W = w7 := ⟨_, rfl⟩; have HP2 := Lib.hid hp7; have HK2 := Lib.hid (HKq.out.trans hk7); have HJ2 := Lib.hid hk7; clear hp7 hk7)
                    | (go_at_call 85; rcases bindP_some HQ2.out with ⟨f, hf, rfl⟩ | ⟨x3, ts3, h3, hq3⟩
                       · (with_reducible refine (con_any N G o _ _ hf _ HP2.out).mono ?_); rintro e w7 ⟨rfl, hk7⟩; exact ⟨rfl, rfl, HK2.out.trans hk7⟩
                       (with_reducible refine (con_any N G o _ _ h3 _ HP2.out).mono ?_); rintro e w7 ⟨v3, rfl, hr7, hp7, hk7⟩; obtain ⟨V3, rfl⟩ : ∃ W, W = w7 := ⟨_, rfl⟩; have HQ3 := Lib.hid hq3; have HP3 := Lib.hid hp7; have HK3 := Lib.hid (HK2.out.trans hk7); have HJ3 := Lib.hid (HJ2.out.trans hk7); obtain ⟨rfl, hxl⟩ := hr7; have HX3 := Lib.hid hxl; clear hxl; clear hq3 hp7 hk7 h3)
                    | (go_at_call 194; rcases bindP_some HQ3.out with ⟨f, hf, rfl⟩ | ⟨x4, ts4, h4, hq4⟩
                       · (with_reducible refine (enc_name N G o _ _ hf _ HP3.out).mono ?_); rintro e w7 ⟨rfl, hk7⟩; exact ⟨rfl, rfl, HK3.out.trans hk7⟩
                       (with_reducible refine (enc_name N G o _ _ h4 _ HP3.out).mono ?_); rintro e w7 ⟨v4, rfl, hr7, hp7, hk7⟩; obtain ⟨V4, rfl⟩ : ∃ W, W = w7 := ⟨_, rfl⟩; have HQ4 := Lib.hid hq4; have HP4 := Lib.hid hp7; have HK4 := Lib.hid (HK3.out.trans hk7); have HJ4 := Lib.hid (HJ3.out.trans hk7); obtain ⟨rfl, hxl⟩ := hr7; have HX4 := Lib.hid hxl; clear hxl; have BK4 := Lib.hid (HJ4.out.cells BKq.out hKN); have BR4 := Lib.hid (HJ4.out.cells BRq.out hRN); have g4 : V1.heap.size < V4.heap.size := lt_of_heap BK4.out; obtain ⟨p0, p1, p2, p3, p4⟩ := row5 BK4.out; have f0 := row_frozen BK4.out 0; have f1 := row_frozen BK4.out 1; have f2 := row_frozen BK4.out 2; have f3 := row_frozen BK4.out 3; have f4 := row_frozen BK4.out 4; clear hq4 hp7 hk7 h4))
                  go_roundg m
                  case measure => omega
                  case rel =>
                    have h1 := HG1.out; exact ⟨m, _, ts4, [.int .i64 11, .string (str x4), .int .i64 0, .slice (some ⟨V4.heap.size, 0, none⟩) 1 1, .slice (some ⟨V4.heap.size + 1, 0, none⟩) 1 1], rfl, HQ4.out, alloc_below (alloc_below (set_row5 _ _ _ _ _ BK4.out)), ex_node (by constructor <;> omega) (by constructor <;> omega) HX4.out (made1 (R := StrCell) (L := [.string (str x3)]) ((off_get (by omega) (fun e => by injection e with e; omega)).trans (alloc_below (alloc_at (by simp)))) ⟨rfl, HX3.out⟩ rfl) (made1 ((off_get (by omega) (fun e => by injection e with e; omega)).trans (alloc_at (by simp))) (((HEq.out.sub (off_same (HJ4.out.same (B := w.heap.size + 1) (Nat.lt_succ_of_lt hN)))).sub (off_set5 _ _ _ _ _)).sub (off_same (((Same.refl _ _).alloc _).alloc _))) rfl), alloc_below (alloc_below ((row_set5 hKR.symm _ _ _ _ _).trans BR4.out)), (HP4.out.set5 hKN (by omega) _ _ _ _ _).under (((Below.refl _ _).alloc (Nat.le_refl _) _).alloc (by simp) _), ((HK4.out.set5 (Nat.le_of_lt h1) _ _ _ _ _).alloc _).alloc _⟩
                · rw [if_neg ht] at hlx; cases hlx
                  go_wp2_with (go_at_call 132
                               (with_reducible refine (skipno_when HPq.out ht).mono ?_); rintro e w7 ⟨rfl, hb7⟩; obtain ⟨V2, rfl⟩ : ∃ W, W = w7 := ⟨_, rfl⟩; have HP2 := Lib.hid (HPq.out.under hb7); have HK2 := Lib.hid (HKq.out.trans (KeptN.of_below hb7)); have HJ2 := Lib.hid (KeptN.of_below (N := N) hb7); have BK2 := Lib.hid (HJ2.out.cells BKq.out hKN); have BR2 := Lib.hid (HJ2.out.cells BRq.out hRN); obtain ⟨p0, p1, p2, p3, p4⟩ := row5 BK2.out; obtain ⟨r0, r1, r2, r3, r4⟩ := row5 BR2.out; have f0 := row_frozen BR2.out 0; have f1 := row_frozen BR2.out 1; have f2 := row_frozen BR2.out 2; have f3 := row_frozen BR2.out 3; have f4 := row_frozen BR2.out 4; clear hb7)
                  exact bodyPost_ret (sampled_results rfl (set_row5 _ _ _ _ _ BR2.out)) rfl ⟨_, rfl, ⟨_, rfl, ((HEq.out.sub (off_same (HJ2.out.same (B := w.heap.size + 1) (Nat.lt_succ_of_lt hN)))).sub (off_sub _ _ _)).lift ((Same.refl _ V2).set5 (.inl (Nat.lt_succ_self _)) _ _ _ _ _) (Nat.le_succ _)⟩, (HP2.out.set5 (by omega) (by omega) _ _ _ _ _), HK2.out.set5 (Nat.le_refl _) _ _ _ _ _⟩
      · rw [if_neg (fun h => he (of_decide_eq_true h.2))] at hq1; have HS1 := Lib.hid hq1; refine Calls.mono (skipno_every HPa.out he) ?_; clear hq1 HQ1; rintro e w7 ⟨rfl, hb7⟩; obtain ⟨V2, rfl⟩ : ∃ W, W = w7 := ⟨_, rfl⟩; have HP2 := Lib.hid (HPa.out.under hb7); have HK2 := Lib.hid (HKa.out.trans (KeptN.of_below hb7)); have BK2 := Lib.hid ((hb7.block _ (lt_of_heap HB1.out)).trans HB1.out); have BR2 := Lib.hid ((hb7.block _ (lt_of_heap HC1.out)).trans HC1.out); have HE2 := Lib.hid (HE1.out.sub (off_same (Same.below hb7))); clear hb7 HE1 he; go_wp2_with fail
        go_loopg [4, 5] ((t :: r).length + 1) (fun g v4 v5 wr => ∃ (m : Nat) (e : Ex) (ts' : List Tok) (L : List Value), m = g ∧ whenP m e ts' = some q ∧ wr.heap[V1.heap.size]? = some (.cells L.toArray 37 (0, 0)) ∧ ExAt (offW (w.heap.size + 1) (some V1.heap.size) wr) L e ∧ wr.heap[w.heap.size]? = some (.cells #[.int .i64 0, .string ⟨#[]⟩, .int .i64 0, .slice none 0 0, .slice none 0 0] 37) ∧ PState wr N G ts' o ∧ KeptN N w wr)
        case atStart => exact ⟨_, x1, t :: r, _, rfl, HS1.out, BK2.out, HE2.out, BR2.out, HP2.out, HK2.out⟩
        case round =>
          obtain ⟨wq, rfl⟩ : ∃ W, W = wr := ⟨_, rfl⟩; obtain ⟨m, eL, ts2, L, rfl, hlx, hbk, hL, hbr, hp, hk⟩ := hrel; obtain ⟨oL, sL, nL, AL, mL, kL, BL, jL, lL, rfl⟩ := hL.shape; have HEq := Lib.hid hL; have BKq := Lib.hid hbk; have BRq := Lib.hid hbr; have HPq := Lib.hid hp; have HKq := Lib.hid hk; have hKN : V1.heap.size ≠ N := (by have := HG1.out; omega); have hRN : w.heap.size ≠ N := (by omega); have hKR : V1.heap.size ≠ w.heap.size := (by have := HG1.out; omega); clear hL hbk hbr hp hk; cases m with
          | zero => rw [whenP] at hlx; cases hlx
          | succ m =>
            cases ts2 with
            | nil => rw [whenP] at hlx; cases hlx
            | cons t r =>
              rw [whenP] at hlx; by_cases ht : t.text = whenT'
              · rw [if_pos ht] at hlx; have hr : r ≠ [] := fun e => by rw [if_pos e] at hlx; cases hlx
                rw [if_neg hr] at hlx; have HQ2 := Lib.hid hlx; clear hlx
                go_wp2_with (first
                  | (go_at_call 132; (with_reducible refine (skipyes_when HPq.out ht hr).mono ?_); rintro e w7 ⟨rfl, hp7, hk7⟩; obtain ⟨V2, rfl⟩ : ∃ W, W = w7 := ⟨_, rfl⟩; have HP2 := Lib.hid hp7; have HK2 := Lib.hid (HKq.out.trans hk7); have HJ2 := Lib.hid hk7; clear hp7 hk7)
                  | (go_at_call 85; rcases bindP_some HQ2.out with ⟨f, hf, rfl⟩ | ⟨x3, ts3, h3, hq3⟩
                     · (with_reducible refine (con_any N G o _ _ hf _ HP2.out).mono ?_); rintro e w7 ⟨rfl, hk7⟩; exact ⟨rfl, rfl, HK2.out.trans hk7⟩
                     (with_reducible refine (con_any N G o _ _ h3 _ HP2.out).mono ?_); rintro e w7 ⟨v3, rfl, hr7, hp7, hk7⟩; obtain ⟨V3, rfl⟩ : ∃ W, W = w7 := ⟨_, rfl⟩; have HQ3 := Lib.hid hq3; have HP3 := Lib.hid hp7; have HK3 := Lib.hid (HK2.out.trans hk7); have HJ3 := Lib.hid (HJ2.out.trans hk7); obtain ⟨rfl, hxl⟩ := hr7; have HX3 := Lib.hid hxl; clear hxl; clear hq3 hp7 hk7 h3)
                  | (go_at_call 194; rcases bindP_some HQ3.out with ⟨f, hf, rfl⟩ | ⟨x4, ts4, h4, hq4⟩
                     · (with_reducible refine (enc_name N G o _ _ hf _ HP3.out).mono ?_); rintro e w7 ⟨rfl, hk7⟩; exact ⟨rfl, rfl, HK3.out.trans hk7⟩
                     (with_reducible refine (enc_name N G o _ _ h4 _ HP3.out).mono ?_); rintro e w7 ⟨v4, rfl, hr7, hp7, hk7⟩; obtain ⟨V4, rfl⟩ : ∃ W, W = w7 := ⟨_, rfl⟩; have HQ4 := Lib.hid hq4; have HP4 := Lib.hid hp7; have HK4 := Lib.hid (HK3.out.trans hk7); have HJ4 := Lib.hid (HJ3.out.trans hk7); obtain ⟨rfl, hxl⟩ := hr7; have HX4 := Lib.hid hxl; clear hxl; have BK4 := Lib.hid (HJ4.out.cells BKq.out hKN); have BR4 := Lib.hid (HJ4.out.cells BRq.out hRN); have g4 : V1.heap.size < V4.heap.size := lt_of_heap BK4.out; obtain ⟨p0, p1, p2, p3, p4⟩ := row5 BK4.out; have f0 := row_frozen BK4.out 0; have f1 := row_frozen BK4.out 1; have f2 := row_frozen BK4.out 2; have f3 := row_frozen BK4.out 3; have f4 := row_frozen BK4.out 4; clear hq4 hp7 hk7 h4))
                go_roundg m
                case measure => omega
                case rel =>
                  have h1 := HG1.out; exact ⟨m, _, ts4, [.int .i64 11, .string (str x4), .int .i64 0, .slice (some ⟨V4.heap.size, 0, none⟩) 1 1, .slice (some ⟨V4.heap.size + 1, 0, none⟩) 1 1], rfl, HQ4.out, alloc_below (alloc_below (set_row5 _ _ _ _ _ BK4.out)), ex_node (by constructor <;> omega) (by constructor <;> omega) HX4.out (made1 (R := StrCell) (L := [.string (str x3)]) ((off_get (by omega) (fun e => by injection e with e; omega)).trans (alloc_below (alloc_at (by simp)))) ⟨rfl, HX3.out⟩ rfl) (made1 ((off_get (by omega) (fun e => by injection e with e; omega)).trans (alloc_at (by simp))) (((HEq.out.sub (off_same (HJ4.out.same (B := w.heap.size + 1) (Nat.lt_succ_of_lt hN)))).sub (off_set5 _ _ _ _ _)).sub (off_same (((Same.refl _ _).alloc _).alloc _))) rfl), alloc_below (alloc_below ((row_set5 hKR.symm _ _ _ _ _).trans BR4.out)), (HP4.out.set5 hKN (by omega) _ _ _ _ _).under (((Below.refl _ _).alloc (Nat.le_refl _) _).alloc (by simp) _), ((HK4.out.set5 (Nat.le_of_lt h1) _ _ _ _ _).alloc _).alloc _⟩
              · rw [if_neg ht] at hlx; cases hlx
                go_wp2_with (go_at_call 132
                             (with_reducible refine (skipno_when HPq.out ht).mono ?_); rintro e w7 ⟨rfl, hb7⟩; obtain ⟨V2, rfl⟩ : ∃ W, W = w7 := ⟨_, rfl⟩; have HP2 := Lib.hid (HPq.out.under hb7); have HK2 := Lib.hid (HKq.out.trans (KeptN.of_below hb7)); have HJ2 := Lib.hid (KeptN.of_below (N := N) hb7); have BK2 := Lib.hid (HJ2.out.cells BKq.out hKN); have BR2 := Lib.hid (HJ2.out.cells BRq.out hRN); obtain ⟨p0, p1, p2, p3, p4⟩ := row5 BK2.out; obtain ⟨r0, r1, r2, r3, r4⟩ := row5 BR2.out; have f0 := row_frozen BR2.out 0; have f1 := row_frozen BR2.out 1; have f2 := row_frozen BR2.out 2; have f3 := row_frozen BR2.out 3; have f4 := row_frozen BR2.out 4; clear hb7)
                exact bodyPost_ret (sampled_results rfl (set_row5 _ _ _ _ _ BR2.out)) rfl ⟨_, rfl, ⟨_, rfl, ((HEq.out.sub (off_same (HJ2.out.same (B := w.heap.size + 1) (Nat.lt_succ_of_lt hN)))).sub (off_sub _ _ _)).lift ((Same.refl _ V2).set5 (.inl (Nat.lt_succ_self _)) _ _ _ _ _) (Nat.le_succ _)⟩, (HP2.out.set5 (by omega) (by omega) _ _ _ _ _), HK2.out.set5 (Nat.le_refl _) _ _ _ _ _⟩
  · have hs : whenP (ts1.length + 1) x1 ts1 = some q := by
      have h := HQ1.out; rwa [if_neg (by rintro ⟨e, _⟩; have e1 : x1.op = o1 := (by have hx := HX1.out; cases hx; rfl); have e2 : ¬ o1 = 14 := (by assumption); omega)] at h
    have HE1 := Lib.hid (HX1.out.sub (new_off (B := w.heap.size + 1) (ob := some V1.heap.size) ((Same.refl _ V1).alloc (.cells #[.int .i64 o1, .string s1, .int .i64 n1, .slice A1 m1 k1, .slice B1 j1 l1] 37)) (by simp) (fun g hg => .inr (by injection hg with hg; omega)))); have HG1 := Lib.hid g1; have HS1 := Lib.hid hs; clear g1 hs; go_loopg [4, 5] (ts1.length + 1) (fun g v4 v5 wr => ∃ (m : Nat) (e : Ex) (ts' : List Tok) (L : List Value), m = g ∧ whenP m e ts' = some q ∧ wr.heap[V1.heap.size]? = some (.cells L.toArray 37 (0, 0)) ∧ ExAt (offW (w.heap.size + 1) (some V1.heap.size) wr) L e ∧ wr.heap[w.heap.size]? = some (.cells #[.int .i64 0, .string ⟨#[]⟩, .int .i64 0, .slice none 0 0, .slice none 0 0] 37) ∧ PState wr N G ts' o ∧ KeptN N w wr)
    case atStart => exact ⟨_, x1, ts1, _, rfl, HS1.out, heap_alloc_new V1 _, HE1.out, alloc_below BR.out, HP1.out.under ((Below.refl _ _).alloc (Nat.le_refl _) _), HK1.out.alloc _⟩
    case round =>
      obtain ⟨wq, rfl⟩ : ∃ W, W = wr := ⟨_, rfl⟩; obtain ⟨m, eL, ts2, L, rfl, hlx, hbk, hL, hbr, hp, hk⟩ := hrel; obtain ⟨oL, sL, nL, AL, mL, kL, BL, jL, lL, rfl⟩ := hL.shape; have HEq := Lib.hid hL; have BKq := Lib.hid hbk; have BRq := Lib.hid hbr; have HPq := Lib.hid hp; have HKq := Lib.hid hk; have hKN : V1.heap.size ≠ N := (by have := HG1.out; omega); have hRN : w.heap.size ≠ N := (by omega); have hKR : V1.heap.size ≠ w.heap.size := (by have := HG1.out; omega); clear hL hbk hbr hp hk; cases m with
      | zero => rw [whenP] at hlx; cases hlx
      | succ m =>
        cases ts2 with
        | nil => rw [whenP] at hlx; cases hlx
        | cons t r =>
          rw [whenP] at hlx; by_cases ht : t.text = whenT'
          · rw [if_pos ht] at hlx; have hr : r ≠ [] := fun e => by rw [if_pos e] at hlx; cases hlx
            rw [if_neg hr] at hlx; have HQ2 := Lib.hid hlx; clear hlx
            go_wp2_with (first
              | (go_at_call 132; (with_reducible refine (skipyes_when HPq.out ht hr).mono ?_); rintro e w7 ⟨rfl, hp7, hk7⟩; obtain ⟨V2, rfl⟩ : ∃ W, W = w7 := ⟨_, rfl⟩; have HP2 := Lib.hid hp7; have HK2 := Lib.hid (HKq.out.trans hk7); have HJ2 := Lib.hid hk7; clear hp7 hk7)
              | (go_at_call 85; rcases bindP_some HQ2.out with ⟨f, hf, rfl⟩ | ⟨x3, ts3, h3, hq3⟩
                 · (with_reducible refine (con_any N G o _ _ hf _ HP2.out).mono ?_); rintro e w7 ⟨rfl, hk7⟩; exact ⟨rfl, rfl, HK2.out.trans hk7⟩
                 (with_reducible refine (con_any N G o _ _ h3 _ HP2.out).mono ?_); rintro e w7 ⟨v3, rfl, hr7, hp7, hk7⟩; obtain ⟨V3, rfl⟩ : ∃ W, W = w7 := ⟨_, rfl⟩; have HQ3 := Lib.hid hq3; have HP3 := Lib.hid hp7; have HK3 := Lib.hid (HK2.out.trans hk7); have HJ3 := Lib.hid (HJ2.out.trans hk7); obtain ⟨rfl, hxl⟩ := hr7; have HX3 := Lib.hid hxl; clear hxl; clear hq3 hp7 hk7 h3)
              | (go_at_call 194; rcases bindP_some HQ3.out with ⟨f, hf, rfl⟩ | ⟨x4, ts4, h4, hq4⟩
                 · (with_reducible refine (enc_name N G o _ _ hf _ HP3.out).mono ?_); rintro e w7 ⟨rfl, hk7⟩; exact ⟨rfl, rfl, HK3.out.trans hk7⟩
                 (with_reducible refine (enc_name N G o _ _ h4 _ HP3.out).mono ?_); rintro e w7 ⟨v4, rfl, hr7, hp7, hk7⟩; obtain ⟨V4, rfl⟩ : ∃ W, W = w7 := ⟨_, rfl⟩; have HQ4 := Lib.hid hq4; have HP4 := Lib.hid hp7; have HK4 := Lib.hid (HK3.out.trans hk7); have HJ4 := Lib.hid (HJ3.out.trans hk7); obtain ⟨rfl, hxl⟩ := hr7; have HX4 := Lib.hid hxl; clear hxl; have BK4 := Lib.hid (HJ4.out.cells BKq.out hKN); have BR4 := Lib.hid (HJ4.out.cells BRq.out hRN); have g4 : V1.heap.size < V4.heap.size := lt_of_heap BK4.out; obtain ⟨p0, p1, p2, p3, p4⟩ := row5 BK4.out; have f0 := row_frozen BK4.out 0; have f1 := row_frozen BK4.out 1; have f2 := row_frozen BK4.out 2; have f3 := row_frozen BK4.out 3; have f4 := row_frozen BK4.out 4; clear hq4 hp7 hk7 h4))
            go_roundg m
            case measure => omega
            case rel =>
              have h1 := HG1.out; exact ⟨m, _, ts4, [.int .i64 11, .string (str x4), .int .i64 0, .slice (some ⟨V4.heap.size, 0, none⟩) 1 1, .slice (some ⟨V4.heap.size + 1, 0, none⟩) 1 1], rfl, HQ4.out, alloc_below (alloc_below (set_row5 _ _ _ _ _ BK4.out)), ex_node (by constructor <;> omega) (by constructor <;> omega) HX4.out (made1 (R := StrCell) (L := [.string (str x3)]) ((off_get (by omega) (fun e => by injection e with e; omega)).trans (alloc_below (alloc_at (by simp)))) ⟨rfl, HX3.out⟩ rfl) (made1 ((off_get (by omega) (fun e => by injection e with e; omega)).trans (alloc_at (by simp))) (((HEq.out.sub (off_same (HJ4.out.same (B := w.heap.size + 1) (Nat.lt_succ_of_lt hN)))).sub (off_set5 _ _ _ _ _)).sub (off_same (((Same.refl _ _).alloc _).alloc _))) rfl), alloc_below (alloc_below ((row_set5 hKR.symm _ _ _ _ _).trans BR4.out)), (HP4.out.set5 hKN (by omega) _ _ _ _ _).under (((Below.refl _ _).alloc (Nat.le_refl _) _).alloc (by simp) _), ((HK4.out.set5 (Nat.le_of_lt h1) _ _ _ _ _).alloc _).alloc _⟩
          · rw [if_neg ht] at hlx; cases hlx
            go_wp2_with (go_at_call 132
                         (with_reducible refine (skipno_when HPq.out ht).mono ?_); rintro e w7 ⟨rfl, hb7⟩; obtain ⟨V2, rfl⟩ : ∃ W, W = w7 := ⟨_, rfl⟩; have HP2 := Lib.hid (HPq.out.under hb7); have HK2 := Lib.hid (HKq.out.trans (KeptN.of_below hb7)); have HJ2 := Lib.hid (KeptN.of_below (N := N) hb7); have BK2 := Lib.hid (HJ2.out.cells BKq.out hKN); have BR2 := Lib.hid (HJ2.out.cells BRq.out hRN); obtain ⟨p0, p1, p2, p3, p4⟩ := row5 BK2.out; obtain ⟨r0, r1, r2, r3, r4⟩ := row5 BR2.out; have f0 := row_frozen BR2.out 0; have f1 := row_frozen BR2.out 1; have f2 := row_frozen BR2.out 2; have f3 := row_frozen BR2.out 3; have f4 := row_frozen BR2.out 4; clear hb7)
            exact bodyPost_ret (sampled_results rfl (set_row5 _ _ _ _ _ BR2.out)) rfl ⟨_, rfl, ⟨_, rfl, ((HEq.out.sub (off_same (HJ2.out.same (B := w.heap.size + 1) (Nat.lt_succ_of_lt hN)))).sub (off_sub _ _ _)).lift ((Same.refl _ V2).set5 (.inl (Nat.lt_succ_self _)) _ _ _ _ _) (Nat.le_succ _)⟩, (HP2.out.set5 (by omega) (by omega) _ _ _ _ _), HK2.out.set5 (Nat.le_refl _) _ _ _ _ _⟩
end Go.Proofs.YtlhmdjhfmhkllaaGreatDoor
