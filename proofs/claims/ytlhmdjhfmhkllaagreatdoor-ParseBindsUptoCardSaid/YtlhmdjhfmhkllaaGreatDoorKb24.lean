/-
  Texts joined.
-/
import Derived.Test.YtlhmdjhfmhkllaaGreatDoorKb23
namespace Go.Proofs.YtlhmdjhfmhkllaaGreatDoor
open Go.RowKit
/-- can a part begin here? a method's value -/
abbrev BegOk (g : FuncId) (B : List Tok → Bool) : Prop := ∀ (N G o : Nat) (t : Tok) (r : List Tok) (w : World), PState w N G (t :: r) o → Calls Tryz.prog g #[.pointer (some ⟨N, 0, none⟩)] w (BoolPost (B (t :: r)) w)
def zeroRQ : Value := .agg #[.slice none 0 0, .int .i64 0, .string ⟨#[]⟩, .int .i64 0, .slice none 0 0, .slice none 0 0]
theorem infoQ : (Tryz.prog.info? 73).map (fun i => (i.zero, i.size, i.bytes)) = some (some zeroRQ, 6, 104) := by kernel_rfl
theorem subQ : ∀ (w w' : World) (L : List Value) (x : QEq), Sub w w' → EqAt w L x → EqAt w' L x := fun _ _ _ _ hs h => h.sub hs
theorem cell1Q {w : World} {L : List Value} {x : QEq} (h : EqAt w L x) : ∀ u ∈ L, u.oneCell' = true := by
  obtain ⟨A3, m3, k3, o1, s1, n1, A1, m1, k1, A2, m2, k2, rfl⟩ := h.shape; intro u hu; simp only [List.mem_cons, List.not_mem_nil, or_false] at hu; rcases hu with rfl | rfl | rfl | rfl | rfl | rfl <;> rfl
def RQV (w : World) (v : Value) (x : QEq) : Prop := ∃ L : List Value, v = .agg L.toArray ∧ EqAt w L x
def RQs (w : World) (v : Value) (l : List QEq) : Prop := SliceAt w (EqAt w) v l
theorem RQs.lift {w w' : World} {B B' : Nat} {v : Value} {l : List QEq} (h : RQs (newW B w) v l) (hs : Same B w w') (hB : B' ≤ B) : RQs (newW B' w') v l := (SliceAt.sub h hs.sub fun _ _ h => h.sub hs.sub).sub (new_mono hB w') fun _ _ h => h.sub (new_mono hB w')
def zeroRY : Value := .agg #[.int .i64 0, .string ⟨#[]⟩, .int .i64 0, .slice none 0 0, .slice none 0 0, .string ⟨#[]⟩]
theorem infoY : (Tryz.prog.info? 118).map (fun i => (i.zero, i.size, i.bytes)) = some (some zeroRY, 6, 96) := by kernel_rfl
theorem subY : ∀ (w w' : World) (L : List Value) (x : QWay), Sub w w' → WayAt w L x → WayAt w' L x := fun _ _ _ _ hs h => h.sub hs
theorem cell1Y {w : World} {L : List Value} {x : QWay} (h : WayAt w L x) : ∀ u ∈ L, u.oneCell' = true := by
  obtain ⟨o1, s1, n1, A1, m1, k1, A2, m2, k2, c1, rfl⟩ := h.shape; intro u hu; simp only [List.mem_cons, List.not_mem_nil, or_false] at hu; rcases hu with rfl | rfl | rfl | rfl | rfl | rfl <;> rfl
def RYV (w : World) (v : Value) (x : QWay) : Prop := ∃ L : List Value, v = .agg L.toArray ∧ WayAt w L x
def RYs (w : World) (v : Value) (l : List QWay) : Prop := SliceAt w (WayAt w) v l
theorem RYs.lift {w w' : World} {B B' : Nat} {v : Value} {l : List QWay} (h : RYs (newW B w) v l) (hs : Same B w w') (hB : B' ≤ B) : RYs (newW B' w') v l := (SliceAt.sub h hs.sub fun _ _ h => h.sub hs.sub).sub (new_mono hB w') fun _ _ h => h.sub (new_mono hB w')
def zeroRS : Value := .agg #[.string ⟨#[]⟩, .slice none 0 0, .slice none 0 0]
theorem infoS : (Tryz.prog.info? 116).map (fun i => (i.zero, i.size, i.bytes)) = some (some zeroRS, 3, 64) := by kernel_rfl
theorem subS : ∀ (w w' : World) (L : List Value) (x : QState), Sub w w' → StateAt w L x → StateAt w' L x := fun _ _ _ _ hs h => h.sub hs
theorem cell1S {w : World} {L : List Value} {x : QState} (h : StateAt w L x) : ∀ u ∈ L, u.oneCell' = true := by
  obtain ⟨s1, A1, m1, k1, A2, m2, k2, rfl⟩ := h.shape; intro u hu; simp only [List.mem_cons, List.not_mem_nil, or_false] at hu; rcases hu with rfl | rfl | rfl <;> rfl
def RSV (w : World) (v : Value) (x : QState) : Prop := ∃ L : List Value, v = .agg L.toArray ∧ StateAt w L x
def RSs (w : World) (v : Value) (l : List QState) : Prop := SliceAt w (StateAt w) v l
theorem RSs.lift {w w' : World} {B B' : Nat} {v : Value} {l : List QState} (h : RSs (newW B w) v l) (hs : Same B w w') (hB : B' ≤ B) : RSs (newW B' w') v l := (SliceAt.sub h hs.sub fun _ _ h => h.sub hs.sub).sub (new_mono hB w') fun _ _ h => h.sub (new_mono hB w')
def zeroRI : Value := .agg #[.slice none 0 0, .int .i64 0, .string ⟨#[]⟩, .int .i64 0, .slice none 0 0, .slice none 0 0, .slice none 0 0]
theorem infoI : (Tryz.prog.info? 76).map (fun i => (i.zero, i.size, i.bytes)) = some (some zeroRI, 7, 128) := by kernel_rfl
theorem subI : ∀ (w w' : World) (L : List Value) (x : QItem), Sub w w' → ItemAt w L x → ItemAt w' L x := fun _ _ _ _ hs h => h.sub hs
theorem cell1I {w : World} {L : List Value} {x : QItem} (h : ItemAt w L x) : ∀ u ∈ L, u.oneCell' = true := by
  obtain ⟨A3, m3, k3, o1, s1, n1, A1, m1, k1, A2, m2, k2, A4, m4, k4, rfl⟩ := h.shape; intro u hu; simp only [List.mem_cons, List.not_mem_nil, or_false] at hu; rcases hu with rfl | rfl | rfl | rfl | rfl | rfl | rfl <;> rfl
def RIV (w : World) (v : Value) (x : QItem) : Prop := ∃ L : List Value, v = .agg L.toArray ∧ ItemAt w L x
def RIs (w : World) (v : Value) (l : List QItem) : Prop := SliceAt w (ItemAt w) v l
theorem RIs.lift {w w' : World} {B B' : Nat} {v : Value} {l : List QItem} (h : RIs (newW B w) v l) (hs : Same B w w') (hB : B' ≤ B) : RIs (newW B' w') v l := (SliceAt.sub h hs.sub fun _ _ h => h.sub hs.sub).sub (new_mono hB w') fun _ _ h => h.sub (new_mono hB w')
set_option maxHeartbeats 4000000 in
set_option maxRecDepth 100000 in
theorem repeatedQ_any {fb fn : FuncId} {Bg : List Tok → Bool} {P : Nat → List Tok → Pr QEq} (ef : ∀ (args : Array Value) (W : World), (callFunc fb args).run Tryz.prog W = .ok (.enter fb args) W) (eg : ∀ (args : Array Value) (W : World), (callFunc fn args).run Tryz.prog W = .ok (.enter fn args) W) (hf : BegOk fb Bg) (hg : PartOk fn RQV P) (N G o : Nat) (ts : List Tok) (q : Out (List QEq)) (hq : repeatedP Bg (P o) ts = some q) (w : World) (h : PState w N G ts o) :
    Calls Tryz.prog 183 #[.func (.func fb) #[.pointer (some ⟨N, 0, none⟩)] #[], .func (.func fn) #[.pointer (some ⟨N, 0, none⟩)] #[]] w (PPost RQs N G o q w) := by
  have HQ0 := Lib.hid (show repeatP Bg (P o) (ts.length + 1) [] ts = some q from hq); have HP0 := Lib.hid h; have HG := Lib.hid hg; have HF := Lib.hid hf; have hNB := h.lt; have hGB := h.2.2.1; have hts := h.1.1; clear h hq hg hf; go_enter Tryz.func183, Tryz.ntmps183
  go_wp2_with fail
  go_loopg [5] (ts.length + 1) (fun g v wr => ∃ (m : Nat) (acc : List QEq) (ts' : List Tok), m = g ∧ repeatP Bg (P o) m acc ts' = some q ∧ acc.length + m = ts.length + 1 ∧ OwnL (fun w L x => EqAt w L x) w.heap.size 73 6 wr v acc ∧ PState wr N G ts' o ∧ KeptN N w wr)
  case atStart => exact ⟨_, [], ts, rfl, HQ0.out, by simp, OwnL.nil w, HP0.out, KeptN.refl _ _⟩
  case round =>
    obtain ⟨wq, rfl⟩ : ∃ W, W = wr := ⟨_, rfl⟩; obtain ⟨m, acc, ts', rfl, hs, hlen, ho, hp, hk⟩ := hrel; have HO := Lib.hid ho; have HKq := Lib.hid hk; have HPq := Lib.hid hp; have hlen1 : acc.length ≤ 2097152 := (by omega); have HLEN := Lib.hid hlen; clear ho hp hk hlen; cases m with
    | zero => rw [repeatP] at hs; cases hs
    | succ m =>
      cases ts' with
      | nil => rw [repeatP, if_pos rfl] at hs; cases hs
      | cons t r =>
        rw [repeatP, if_neg (by simp)] at hs; have HSK := Lib.hid (HF.out N G o t r _ HPq.out); cases hb : Bg (t :: r)
        · rw [hb] at hs HSK; rw [if_neg (by decide)] at hs; cases hs; clear hb
          go_wp2_with (go_at_fn fb
                       (with_reducible refine HSK.out.mono ?_); rintro e w7 ⟨rfl, hb7⟩; have HB7 := Lib.hid hb7; clear hb7)
          go_ret; exact ⟨_, rfl, OwnL.at_ subQ (OwnL.same subQ HO.out (Same.below HB7.out)), HPq.out.under HB7.out, HKq.out.trans (KeptN.of_below HB7.out)⟩
        · rw [hb] at hs HSK; rw [if_pos rfl] at hs; have HQa := Lib.hid hs; clear hs hb
          go_wp2_with (first
            | (go_at_fn fb
               (with_reducible refine HSK.out.mono ?_); rintro e w7 ⟨rfl, hb7⟩; obtain ⟨Va, rfl⟩ : ∃ W, W = w7 := ⟨_, rfl⟩; have HPa := Lib.hid (HPq.out.under hb7); have HKa := Lib.hid (HKq.out.trans (KeptN.of_below hb7)); have HJa := Lib.hid (KeptN.refl N Va); have HSa := Lib.hid (Same.below (B := w.heap.size) hb7); clear hb7)
            | (go_at_fn fn
               rcases bindP_some HQa.out with ⟨f, hf, rfl⟩ | ⟨xb, tsb, hb, hqb⟩
               · (with_reducible refine (HG.out N G o _ _ hf _ HPa.out).mono ?_); rintro e w7 ⟨rfl, hk7⟩; exact ⟨rfl, rfl, HKa.out.trans hk7⟩
               (with_reducible refine (HG.out N G o _ _ hb _ HPa.out).mono ?_); rintro e w7 ⟨vb, rfl, hr7, hp7, hk7⟩; obtain ⟨Vb, rfl⟩ : ∃ W, W = w7 := ⟨_, rfl⟩; have HQb := Lib.hid hqb; have HPb := Lib.hid hp7; have HKb := Lib.hid (HKa.out.trans hk7); have HJb := Lib.hid (HJa.out.trans hk7); obtain ⟨L, rfl, hx⟩ := hr7; have HXb := Lib.hid hx; obtain ⟨A3, m3, k3, o1, s1, n1, A1, m1, k1, A2, m2, k2, rfl⟩ := hx.shape; clear hx; have HSb := Lib.hid ((HSa.out.trans (hk7.same hNB)).alloc (.cells [.slice A3 m3 k3, .int .i64 o1, .string s1, .int .i64 n1, .slice A1 m1 k1, .slice A2 m2 k2].toArray 73)); have HOb := Lib.hid (OwnL.same subQ HO.out HSb.out); have HBa := Lib.hid HKa.out.size; have HBb := Lib.hid HKb.out.size; clear hqb hp7 hk7 hb)
            | (at_builtin; refine append_ownL (R := (fun w L x => EqAt w L x)) (B := w.heap.size) (L := [.slice A3 m3 k3, .int .i64 o1, .string s1, .int .i64 n1, .slice A1 m1 k1, .slice A2 m2 k2]) subQ rfl _ _ rfl Tryz.underlying113 infoQ rfl (by decide) (by decide) rfl rfl (heap_alloc_new _ _) rfl (cell1Q HXb.out) HOb.out (HXb.out.sub (new_off ((Same.refl _ _).alloc _) HBa.out (fun g hg => .inl (Nat.lt_of_lt_of_le (HO.out.lt g hg).2 HSa.out.1)))) hlen1 ?_ ?_; (have := HBb.out; simp; omega); (intro v5 w5 ho5 hb5; have HO5 := Lib.hid ho5; have HP5 := Lib.hid ((HPb.out.under ((Below.refl _ _).alloc (Nat.le_refl _) (.cells [.slice A3 m3 k3, .int .i64 o1, .string s1, .int .i64 n1, .slice A1 m1 k1, .slice A2 m2 k2].toArray 73))).onB hb5 hNB hGB); have HK5 := Lib.hid ((HKb.out.alloc (.cells [.slice A3 m3 k3, .int .i64 o1, .string s1, .int .i64 n1, .slice A1 m1 k1, .slice A2 m2 k2].toArray 73)).onB hb5 (Nat.le_refl _)); clear ho5 hb5)))
          go_roundg m
          case measure => omega
          case rel => exact ⟨m, acc ++ [xb], tsb, rfl, HQb.out, by have := HLEN.out; simp; omega, HO5.out, HP5.out, HK5.out⟩
set_option maxHeartbeats 4000000 in
set_option maxRecDepth 100000 in
theorem repeatedY_any {fb fn : FuncId} {Bg : List Tok → Bool} {P : Nat → List Tok → Pr QWay} (ef : ∀ (args : Array Value) (W : World), (callFunc fb args).run Tryz.prog W = .ok (.enter fb args) W) (eg : ∀ (args : Array Value) (W : World), (callFunc fn args).run Tryz.prog W = .ok (.enter fn args) W) (hf : BegOk fb Bg) (hg : PartOk fn RYV P) (N G o : Nat) (ts : List Tok) (q : Out (List QWay)) (hq : repeatedP Bg (P o) ts = some q) (w : World) (h : PState w N G ts o) :
    Calls Tryz.prog 184 #[.func (.func fb) #[.pointer (some ⟨N, 0, none⟩)] #[], .func (.func fn) #[.pointer (some ⟨N, 0, none⟩)] #[]] w (PPost RYs N G o q w) := by
  have HQ0 := Lib.hid (show repeatP Bg (P o) (ts.length + 1) [] ts = some q from hq); have HP0 := Lib.hid h; have HG := Lib.hid hg; have HF := Lib.hid hf; have hNB := h.lt; have hGB := h.2.2.1; have hts := h.1.1; clear h hq hg hf; go_enter Tryz.func184, Tryz.ntmps184
  go_wp2_with fail
  go_loopg [5] (ts.length + 1) (fun g v wr => ∃ (m : Nat) (acc : List QWay) (ts' : List Tok), m = g ∧ repeatP Bg (P o) m acc ts' = some q ∧ acc.length + m = ts.length + 1 ∧ OwnL (fun w L x => WayAt w L x) w.heap.size 118 6 wr v acc ∧ PState wr N G ts' o ∧ KeptN N w wr)
  case atStart => exact ⟨_, [], ts, rfl, HQ0.out, by simp, OwnL.nil w, HP0.out, KeptN.refl _ _⟩
  case round =>
    obtain ⟨wq, rfl⟩ : ∃ W, W = wr := ⟨_, rfl⟩; obtain ⟨m, acc, ts', rfl, hs, hlen, ho, hp, hk⟩ := hrel; have HO := Lib.hid ho; have HKq := Lib.hid hk; have HPq := Lib.hid hp; have hlen1 : acc.length ≤ 2097152 := (by omega); have HLEN := Lib.hid hlen; clear ho hp hk hlen; cases m with
    | zero => rw [repeatP] at hs; cases hs
    | succ m =>
      cases ts' with
      | nil => rw [repeatP, if_pos rfl] at hs; cases hs
      | cons t r =>
        rw [repeatP, if_neg (by simp)] at hs; have HSK := Lib.hid (HF.out N G o t r _ HPq.out); cases hb : Bg (t :: r)
        · rw [hb] at hs HSK; rw [if_neg (by decide)] at hs; cases hs; clear hb
          go_wp2_with (go_at_fn fb
                       (with_reducible refine HSK.out.mono ?_); rintro e w7 ⟨rfl, hb7⟩; have HB7 := Lib.hid hb7; clear hb7)
          go_ret; exact ⟨_, rfl, OwnL.at_ subY (OwnL.same subY HO.out (Same.below HB7.out)), HPq.out.under HB7.out, HKq.out.trans (KeptN.of_below HB7.out)⟩
        · rw [hb] at hs HSK; rw [if_pos rfl] at hs; have HQa := Lib.hid hs; clear hs hb
          go_wp2_with (first
            | (go_at_fn fb
               (with_reducible refine HSK.out.mono ?_); rintro e w7 ⟨rfl, hb7⟩; obtain ⟨Va, rfl⟩ : ∃ W, W = w7 := ⟨_, rfl⟩; have HPa := Lib.hid (HPq.out.under hb7); have HKa := Lib.hid (HKq.out.trans (KeptN.of_below hb7)); have HJa := Lib.hid (KeptN.refl N Va); have HSa := Lib.hid (Same.below (B := w.heap.size) hb7); clear hb7)
            | (go_at_fn fn
               rcases bindP_some HQa.out with ⟨f, hf, rfl⟩ | ⟨xb, tsb, hb, hqb⟩
               · (with_reducible refine (HG.out N G o _ _ hf _ HPa.out).mono ?_); rintro e w7 ⟨rfl, hk7⟩; exact ⟨rfl, rfl, HKa.out.trans hk7⟩
               (with_reducible refine (HG.out N G o _ _ hb _ HPa.out).mono ?_); rintro e w7 ⟨vb, rfl, hr7, hp7, hk7⟩; obtain ⟨Vb, rfl⟩ : ∃ W, W = w7 := ⟨_, rfl⟩; have HQb := Lib.hid hqb; have HPb := Lib.hid hp7; have HKb := Lib.hid (HKa.out.trans hk7); have HJb := Lib.hid (HJa.out.trans hk7); obtain ⟨L, rfl, hx⟩ := hr7; have HXb := Lib.hid hx; obtain ⟨o1, s1, n1, A1, m1, k1, A2, m2, k2, c1, rfl⟩ := hx.shape; clear hx; have HSb := Lib.hid ((HSa.out.trans (hk7.same hNB)).alloc (.cells [.int .i64 o1, .string s1, .int .i64 n1, .slice A1 m1 k1, .slice A2 m2 k2, .string c1].toArray 118)); have HOb := Lib.hid (OwnL.same subY HO.out HSb.out); have HBa := Lib.hid HKa.out.size; have HBb := Lib.hid HKb.out.size; clear hqb hp7 hk7 hb)
            | (at_builtin; refine append_ownL (R := (fun w L x => WayAt w L x)) (B := w.heap.size) (L := [.int .i64 o1, .string s1, .int .i64 n1, .slice A1 m1 k1, .slice A2 m2 k2, .string c1]) subY rfl _ _ rfl Tryz.underlying114 infoY rfl (by decide) (by decide) rfl rfl (heap_alloc_new _ _) rfl (cell1Y HXb.out) HOb.out (HXb.out.sub (new_off ((Same.refl _ _).alloc _) HBa.out (fun g hg => .inl (Nat.lt_of_lt_of_le (HO.out.lt g hg).2 HSa.out.1)))) hlen1 ?_ ?_; (have := HBb.out; simp; omega); (intro v5 w5 ho5 hb5; have HO5 := Lib.hid ho5; have HP5 := Lib.hid ((HPb.out.under ((Below.refl _ _).alloc (Nat.le_refl _) (.cells [.int .i64 o1, .string s1, .int .i64 n1, .slice A1 m1 k1, .slice A2 m2 k2, .string c1].toArray 118))).onB hb5 hNB hGB); have HK5 := Lib.hid ((HKb.out.alloc (.cells [.int .i64 o1, .string s1, .int .i64 n1, .slice A1 m1 k1, .slice A2 m2 k2, .string c1].toArray 118)).onB hb5 (Nat.le_refl _)); clear ho5 hb5)))
          go_roundg m
          case measure => omega
          case rel => exact ⟨m, acc ++ [xb], tsb, rfl, HQb.out, by have := HLEN.out; simp; omega, HO5.out, HP5.out, HK5.out⟩
set_option maxHeartbeats 4000000 in
set_option maxRecDepth 100000 in
theorem repeatedS_any {fb fn : FuncId} {Bg : List Tok → Bool} {P : Nat → List Tok → Pr QState} (ef : ∀ (args : Array Value) (W : World), (callFunc fb args).run Tryz.prog W = .ok (.enter fb args) W) (eg : ∀ (args : Array Value) (W : World), (callFunc fn args).run Tryz.prog W = .ok (.enter fn args) W) (hf : BegOk fb Bg) (hg : PartOk fn RSV P) (N G o : Nat) (ts : List Tok) (q : Out (List QState)) (hq : repeatedP Bg (P o) ts = some q) (w : World) (h : PState w N G ts o) :
    Calls Tryz.prog 164 #[.func (.func fb) #[.pointer (some ⟨N, 0, none⟩)] #[], .func (.func fn) #[.pointer (some ⟨N, 0, none⟩)] #[]] w (PPost RSs N G o q w) := by
  have HQ0 := Lib.hid (show repeatP Bg (P o) (ts.length + 1) [] ts = some q from hq); have HP0 := Lib.hid h; have HG := Lib.hid hg; have HF := Lib.hid hf; have hNB := h.lt; have hGB := h.2.2.1; have hts := h.1.1; clear h hq hg hf; go_enter Tryz.func164, Tryz.ntmps164
  go_wp2_with fail
  go_loopg [5] (ts.length + 1) (fun g v wr => ∃ (m : Nat) (acc : List QState) (ts' : List Tok), m = g ∧ repeatP Bg (P o) m acc ts' = some q ∧ acc.length + m = ts.length + 1 ∧ OwnL (fun w L x => StateAt w L x) w.heap.size 116 3 wr v acc ∧ PState wr N G ts' o ∧ KeptN N w wr)
  case atStart => exact ⟨_, [], ts, rfl, HQ0.out, by simp, OwnL.nil w, HP0.out, KeptN.refl _ _⟩
  case round =>
    obtain ⟨wq, rfl⟩ : ∃ W, W = wr := ⟨_, rfl⟩; obtain ⟨m, acc, ts', rfl, hs, hlen, ho, hp, hk⟩ := hrel; have HO := Lib.hid ho; have HKq := Lib.hid hk; have HPq := Lib.hid hp; have hlen1 : acc.length ≤ 2097152 := (by omega); have HLEN := Lib.hid hlen; clear ho hp hk hlen; cases m with
    | zero => rw [repeatP] at hs; cases hs
    | succ m =>
      cases ts' with
      | nil => rw [repeatP, if_pos rfl] at hs; cases hs
      | cons t r =>
        rw [repeatP, if_neg (by simp)] at hs; have HSK := Lib.hid (HF.out N G o t r _ HPq.out); cases hb : Bg (t :: r)
        · rw [hb] at hs HSK; rw [if_neg (by decide)] at hs; cases hs; clear hb
          go_wp2_with (go_at_fn fb
                       (with_reducible refine HSK.out.mono ?_); rintro e w7 ⟨rfl, hb7⟩; have HB7 := Lib.hid hb7; clear hb7)
          go_ret; exact ⟨_, rfl, OwnL.at_ subS (OwnL.same subS HO.out (Same.below HB7.out)), HPq.out.under HB7.out, HKq.out.trans (KeptN.of_below HB7.out)⟩
        · rw [hb] at hs HSK; rw [if_pos rfl] at hs; have HQa := Lib.hid hs; clear hs hb
          go_wp2_with (first
            | (go_at_fn fb
               (with_reducible refine HSK.out.mono ?_); rintro e w7 ⟨rfl, hb7⟩; obtain ⟨Va, rfl⟩ : ∃ W, W = w7 := ⟨_, rfl⟩; have HPa := Lib.hid (HPq.out.under hb7); have HKa := Lib.hid (HKq.out.trans (KeptN.of_below hb7)); have HJa := Lib.hid (KeptN.refl N Va); have HSa := Lib.hid (Same.below (B := w.heap.size) hb7); clear hb7)
            | (go_at_fn fn
               rcases bindP_some HQa.out with ⟨f, hf, rfl⟩ | ⟨xb, tsb, hb, hqb⟩
               · (with_reducible refine (HG.out N G o _ _ hf _ HPa.out).mono ?_); rintro e w7 ⟨rfl, hk7⟩; exact ⟨rfl, rfl, HKa.out.trans hk7⟩
               (with_reducible refine (HG.out N G o _ _ hb _ HPa.out).mono ?_); rintro e w7 ⟨vb, rfl, hr7, hp7, hk7⟩; obtain ⟨Vb, rfl⟩ : ∃ W, W = w7 := ⟨_, rfl⟩; have HQb := Lib.hid hqb; have HPb := Lib.hid hp7; have HKb := Lib.hid (HKa.out.trans hk7); have HJb := Lib.hid (HJa.out.trans hk7); obtain ⟨L, rfl, hx⟩ := hr7; have HXb := Lib.hid hx; obtain ⟨s1, A1, m1, k1, A2, m2, k2, rfl⟩ := hx.shape; clear hx; have HSb := Lib.hid ((HSa.out.trans (hk7.same hNB)).alloc (.cells [.string s1, .slice A1 m1 k1, .slice A2 m2 k2].toArray 116)); have HOb := Lib.hid (OwnL.same subS HO.out HSb.out); have HBa := Lib.hid HKa.out.size; have HBb := Lib.hid HKb.out.size; clear hqb hp7 hk7 hb)
            | (at_builtin; refine append_ownL (R := (fun w L x => StateAt w L x)) (B := w.heap.size) (L := [.string s1, .slice A1 m1 k1, .slice A2 m2 k2]) subS rfl _ _ rfl Tryz.underlying74 infoS rfl (by decide) (by decide) rfl rfl (heap_alloc_new _ _) rfl (cell1S HXb.out) HOb.out (HXb.out.sub (new_off ((Same.refl _ _).alloc _) HBa.out (fun g hg => .inl (Nat.lt_of_lt_of_le (HO.out.lt g hg).2 HSa.out.1)))) hlen1 ?_ ?_; (have := HBb.out; simp; omega); (intro v5 w5 ho5 hb5; have HO5 := Lib.hid ho5; have HP5 := Lib.hid ((HPb.out.under ((Below.refl _ _).alloc (Nat.le_refl _) (.cells [.string s1, .slice A1 m1 k1, .slice A2 m2 k2].toArray 116))).onB hb5 hNB hGB); have HK5 := Lib.hid ((HKb.out.alloc (.cells [.string s1, .slice A1 m1 k1, .slice A2 m2 k2].toArray 116)).onB hb5 (Nat.le_refl _)); clear ho5 hb5)))
          go_roundg m
          case measure => omega
          case rel => exact ⟨m, acc ++ [xb], tsb, rfl, HQb.out, by have := HLEN.out; simp; omega, HO5.out, HP5.out, HK5.out⟩
set_option maxHeartbeats 4000000 in
set_option maxRecDepth 100000 in
theorem repeatedI_any {fb fn : FuncId} {Bg : List Tok → Bool} {P : Nat → List Tok → Pr QItem} (ef : ∀ (args : Array Value) (W : World), (callFunc fb args).run Tryz.prog W = .ok (.enter fb args) W) (eg : ∀ (args : Array Value) (W : World), (callFunc fn args).run Tryz.prog W = .ok (.enter fn args) W) (hf : BegOk fb Bg) (hg : PartOk fn RIV P) (N G o : Nat) (ts : List Tok) (q : Out (List QItem)) (hq : repeatedP Bg (P o) ts = some q) (w : World) (h : PState w N G ts o) :
    Calls Tryz.prog 89 #[.func (.func fb) #[.pointer (some ⟨N, 0, none⟩)] #[], .func (.func fn) #[.pointer (some ⟨N, 0, none⟩)] #[]] w (PPost RIs N G o q w) := by
  have HQ0 := Lib.hid (show repeatP Bg (P o) (ts.length + 1) [] ts = some q from hq); have HP0 := Lib.hid h; have HG := Lib.hid hg; have HF := Lib.hid hf; have hNB := h.lt; have hGB := h.2.2.1; have hts := h.1.1; clear h hq hg hf; go_enter Tryz.func89, Tryz.ntmps89
  go_wp2_with fail
  go_loopg [5] (ts.length + 1) (fun g v wr => ∃ (m : Nat) (acc : List QItem) (ts' : List Tok), m = g ∧ repeatP Bg (P o) m acc ts' = some q ∧ acc.length + m = ts.length + 1 ∧ OwnL (fun w L x => ItemAt w L x) w.heap.size 76 7 wr v acc ∧ PState wr N G ts' o ∧ KeptN N w wr)
  case atStart => exact ⟨_, [], ts, rfl, HQ0.out, by simp, OwnL.nil w, HP0.out, KeptN.refl _ _⟩
  case round =>
    obtain ⟨wq, rfl⟩ : ∃ W, W = wr := ⟨_, rfl⟩; obtain ⟨m, acc, ts', rfl, hs, hlen, ho, hp, hk⟩ := hrel; have HO := Lib.hid ho; have HKq := Lib.hid hk; have HPq := Lib.hid hp; have hlen1 : acc.length ≤ 2097152 := (by omega); have HLEN := Lib.hid hlen; clear ho hp hk hlen; cases m with
    | zero => rw [repeatP] at hs; cases hs
    | succ m =>
      cases ts' with
      | nil => rw [repeatP, if_pos rfl] at hs; cases hs
      | cons t r =>
        rw [repeatP, if_neg (by simp)] at hs; have HSK := Lib.hid (HF.out N G o t r _ HPq.out); cases hb : Bg (t :: r)
        · rw [hb] at hs HSK; rw [if_neg (by decide)] at hs; cases hs; clear hb
          go_wp2_with (go_at_fn fb
                       (with_reducible refine HSK.out.mono ?_); rintro e w7 ⟨rfl, hb7⟩; have HB7 := Lib.hid hb7; clear hb7)
          go_ret; exact ⟨_, rfl, OwnL.at_ subI (OwnL.same subI HO.out (Same.below HB7.out)), HPq.out.under HB7.out, HKq.out.trans (KeptN.of_below HB7.out)⟩
        · rw [hb] at hs HSK; rw [if_pos rfl] at hs; have HQa := Lib.hid hs; clear hs hb
          go_wp2_with (first
            | (go_at_fn fb
               (with_reducible refine HSK.out.mono ?_); rintro e w7 ⟨rfl, hb7⟩; obtain ⟨Va, rfl⟩ : ∃ W, W = w7 := ⟨_, rfl⟩; have HPa := Lib.hid (HPq.out.under hb7); have HKa := Lib.hid (HKq.out.trans (KeptN.of_below hb7)); have HJa := Lib.hid (KeptN.refl N Va); have HSa := Lib.hid (Same.below (B := w.heap.size) hb7); clear hb7)
            | (go_at_fn fn
               rcases bindP_some HQa.out with ⟨f, hf, rfl⟩ | ⟨xb, tsb, hb, hqb⟩
               · (with_reducible refine (HG.out N G o _ _ hf _ HPa.out).mono ?_); rintro e w7 ⟨rfl, hk7⟩; exact ⟨rfl, rfl, HKa.out.trans hk7⟩
               (with_reducible refine (HG.out N G o _ _ hb _ HPa.out).mono ?_); rintro e w7 ⟨vb, rfl, hr7, hp7, hk7⟩; obtain ⟨Vb, rfl⟩ : ∃ W, W = w7 := ⟨_, rfl⟩; have HQb := Lib.hid hqb; have HPb := Lib.hid hp7; have HKb := Lib.hid (HKa.out.trans hk7); have HJb := Lib.hid (HJa.out.trans hk7); obtain ⟨L, rfl, hx⟩ := hr7; have HXb := Lib.hid hx; obtain ⟨A3, m3, k3, o1, s1, n1, A1, m1, k1, A2, m2, k2, A4, m4, k4, rfl⟩ := hx.shape; clear hx; have HSb := Lib.hid ((HSa.out.trans (hk7.same hNB)).alloc (.cells [.slice A3 m3 k3, .int .i64 o1, .string s1, .int .i64 n1, .slice A1 m1 k1, .slice A2 m2 k2, .slice A4 m4 k4].toArray 76)); have HOb := Lib.hid (OwnL.same subI HO.out HSb.out); have HBa := Lib.hid HKa.out.size; have HBb := Lib.hid HKb.out.size; clear hqb hp7 hk7 hb)
            | (at_builtin; refine append_ownL (R := (fun w L x => ItemAt w L x)) (B := w.heap.size) (L := [.slice A3 m3 k3, .int .i64 o1, .string s1, .int .i64 n1, .slice A1 m1 k1, .slice A2 m2 k2, .slice A4 m4 k4]) subI rfl _ _ rfl Tryz.underlying49 infoI rfl (by decide) (by decide) rfl rfl (heap_alloc_new _ _) rfl (cell1I HXb.out) HOb.out (HXb.out.sub (new_off ((Same.refl _ _).alloc _) HBa.out (fun g hg => .inl (Nat.lt_of_lt_of_le (HO.out.lt g hg).2 HSa.out.1)))) hlen1 ?_ ?_; (have := HBb.out; simp; omega); (intro v5 w5 ho5 hb5; have HO5 := Lib.hid ho5; have HP5 := Lib.hid ((HPb.out.under ((Below.refl _ _).alloc (Nat.le_refl _) (.cells [.slice A3 m3 k3, .int .i64 o1, .string s1, .int .i64 n1, .slice A1 m1 k1, .slice A2 m2 k2, .slice A4 m4 k4].toArray 76))).onB hb5 hNB hGB); have HK5 := Lib.hid ((HKb.out.alloc (.cells [.slice A3 m3 k3, .int .i64 o1, .string s1, .int .i64 n1, .slice A1 m1 k1, .slice A2 m2 k2, .slice A4 m4 k4].toArray 76)).onB hb5 (Nat.le_refl _)); clear ho5 hb5)))
          go_roundg m
          case measure => omega
          case rel => exact ⟨m, acc ++ [xb], tsb, rfl, HQb.out, by have := HLEN.out; simp; omega, HO5.out, HP5.out, HK5.out⟩
end Go.Proofs.YtlhmdjhfmhkllaaGreatDoor
