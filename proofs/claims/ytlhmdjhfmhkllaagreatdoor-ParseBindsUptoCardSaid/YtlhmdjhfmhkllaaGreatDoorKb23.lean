/-
  Texts joined.
-/
import Derived.Test.YtlhmdjhfmhkllaaGreatDoorKb21
import Derived.Test.YtlhmdjhfmhkllaaGreatDoorKb22
namespace Go.Proofs.YtlhmdjhfmhkllaaGreatDoor
open Go.RowKit
theorem OwnL.lt {X : Type} {R : World → List Value → X → Prop} {B : Nat} {T : TypeId} {n : Nat} {w : World} {v : Value} {xs : List X} (h : OwnL R B T n w v xs) : ∀ g, v.ownBlock = some g → B ≤ g ∧ g < w.heap.size := by
  obtain ⟨Ls, h1, _⟩ := h; exact h1.lt
theorem KeptN.onB {N B : Nat} {w w1 w2 : World} (h : KeptN N w w1) (hb : Below B w1 w2) (hB : w.heap.size ≤ B) : KeptN N w w2 :=
  ⟨hb.os.trans h.os, hb.tape.trans h.tape, hb.output.trans h.output, Nat.le_trans h.size hb.size, fun k h1 h2 => (hb.block k (by omega)).trans (h.block k h1 h2)⟩
theorem PState.onB {w w' : World} {N G o B : Nat} {ts : List Tok} (h : PState w N G ts o) (hb : Below B w w') (hN : N < B) (hG : G < B) : PState w' N G ts o := h.same hb.size (hb.block N hN) (hb.block G hG)
def zeroE5 : Value := .agg #[.int .i64 0, .string ⟨#[]⟩, .int .i64 0, .slice none 0 0, .slice none 0 0]
theorem ex_info5 : (Tryz.prog.info? 37).map (fun i => (i.zero, i.size, i.bytes)) = some (some zeroE5, 5, 80) := by kernel_rfl
def zeroA6 : Value := .agg #[.string ⟨#[]⟩, .int .i64 0, .string ⟨#[]⟩, .int .i64 0, .slice none 0 0, .slice none 0 0]
theorem arm_info6 : (Tryz.prog.info? 225).map (fun i => (i.zero, i.size, i.bytes)) = some (some zeroA6, 6, 96) := by kernel_rfl
theorem oneS (s : ByteArray) : ∀ u ∈ [Value.string s], u.oneCell' = true := by intro u hu; simp at hu; subst hu; rfl
theorem one5 (o1 n1 : Int) (s1 : ByteArray) (A1 A2 : Option Addr) (m1 k1 m2 k2 : Nat) : ∀ u ∈ [Value.int .i64 o1, .string s1, .int .i64 n1, .slice A1 m1 k1, .slice A2 m2 k2], u.oneCell' = true := by
  intro u hu; simp only [List.mem_cons, List.not_mem_nil, or_false] at hu; rcases hu with rfl | rfl | rfl | rfl | rfl <;> rfl
theorem one6 (c1 : ByteArray) (o1 n1 : Int) (s1 : ByteArray) (A1 A2 : Option Addr) (m1 k1 m2 k2 : Nat) : ∀ u ∈ [Value.string c1, .int .i64 o1, .string s1, .int .i64 n1, .slice A1 m1 k1, .slice A2 m2 k2], u.oneCell' = true := by
  intro u hu; simp only [List.mem_cons, List.not_mem_nil, or_false] at hu; rcases hu with rfl | rfl | rfl | rfl | rfl | rfl <;> rfl
/-- an arm's cells -/
def RArm (w : World) (L : List Value) (x : Tx × Ex) : Prop := ∃ L', L = .string (str x.1) :: L' ∧ x.1.length ≤ maxLen ∧ ExAt w L' x.2
def RArmV (w : World) (v : Value) (x : Tx × Ex) : Prop := ∃ L : List Value, v = .agg L.toArray ∧ RArm w L x
def RExs (w : World) (v : Value) (l : List Ex) : Prop := SliceAt w (ExAt w) v l
def RArms (w : World) (v : Value) (l : List (Tx × Ex)) : Prop := SliceAt w (RArm w) v l
theorem RArm.shape {w : World} {L : List Value} {x : Tx × Ex} (h : RArm w L x) : ∃ c1 o1 s1 n1 A1 m1 k1 A2 m2 k2, L = [.string c1, .int .i64 o1, .string s1, .int .i64 n1, .slice A1 m1 k1, .slice A2 m2 k2] := by
  obtain ⟨L', rfl, _, h2⟩ := h; obtain ⟨_, _, _, _, _, _, _, _, _, rfl⟩ := h2.shape; exact ⟨_, _, _, _, _, _, _, _, _, _, rfl⟩
theorem RArm.sub {w w' : World} {L : List Value} {x : Tx × Ex} (h : RArm w L x) (hs : Sub w w') : RArm w' L x := by
  obtain ⟨L', rfl, h1, h2⟩ := h; exact ⟨L', rfl, h1, h2.sub hs⟩
theorem strSub : ∀ (w w' : World) (L : List Value) (x : Tx), Sub w w' → StrCell L x → StrCell L x := fun _ _ _ _ _ h => h
theorem exSub : ∀ (w w' : World) (L : List Value) (x : Ex), Sub w w' → ExAt w L x → ExAt w' L x := fun _ _ _ _ hs h => h.sub hs
theorem armSub : ∀ (w w' : World) (L : List Value) (x : Tx × Ex), Sub w w' → RArm w L x → RArm w' L x := fun _ _ _ _ hs h => h.sub hs
theorem RExs.lift {w w' : World} {B B' : Nat} {v : Value} {l : List Ex} (h : RExs (newW B w) v l) (hs : Same B w w') (hB : B' ≤ B) : RExs (newW B' w') v l := (SliceAt.sub h hs.sub fun _ _ h => h.sub hs.sub).sub (new_mono hB w') fun _ _ h => h.sub (new_mono hB w')
theorem RArms.lift {w w' : World} {B B' : Nat} {v : Value} {l : List (Tx × Ex)} (h : RArms (newW B w) v l) (hs : Same B w w') (hB : B' ≤ B) : RArms (newW B' w') v l := (SliceAt.sub h hs.sub fun _ _ h => h.sub hs.sub).sub (new_mono hB w') fun _ _ h => h.sub (new_mono hB w')
set_option maxHeartbeats 4000000 in
set_option maxRecDepth 100000 in
theorem separatedT_any {fn : FuncId} {P : Nat → List Tok → Pr Tx} (eg : ∀ (args : Array Value) (W : World), (callFunc fn args).run Tryz.prog W = .ok (.enter fn args) W) (hg : PartOk fn RStr P) (s : Tx) (N G o : Nat) (ts : List Tok) (q : Out (List Tx)) (hq : separatedP s (P o) ts = some q) (w : World) (h : PState w N G ts o) :
    Calls Tryz.prog 84 #[.pointer (some ⟨N, 0, none⟩), .string (str s), .func (.func fn) #[.pointer (some ⟨N, 0, none⟩)] #[]] w (PPost RStrs N G o q w) := by
  have HQ0 := Lib.hid (show bindP (P o ts) (fun x ts' => sepP s (P o) (ts.length + 1) [x] ts') = some q from hq); have HP0 := Lib.hid h; have HK0 := Lib.hid (KeptN.refl N w); have HJ0 := Lib.hid (KeptN.refl N w); have HG := Lib.hid hg; have hNB := h.lt; have hGB := h.2.2.1; have hts := h.1.1; clear h hq hg; go_enter Tryz.func84, Tryz.ntmps84
  go_wp2_with (go_at_fn fn
               rcases bindP_some HQ0.out with ⟨f, hf, rfl⟩ | ⟨x1, ts1, h1, hq1⟩
               · (with_reducible refine (HG.out N G o _ _ hf _ HP0.out).mono ?_); rintro e w7 ⟨rfl, hk7⟩; exact ⟨rfl, rfl, HK0.out.trans hk7⟩
               (with_reducible refine (HG.out N G o _ _ h1 _ HP0.out).mono ?_); rintro e w7 ⟨v1, rfl, hr7, hp7, hk7⟩; obtain ⟨V1, rfl⟩ : ∃ W, W = w7 := ⟨_, rfl⟩; have HQ1 := Lib.hid hq1; have HP1 := Lib.hid hp7; have HK1 := Lib.hid (HK0.out.trans hk7); have HJ1 := Lib.hid (HJ0.out.trans hk7); obtain ⟨rfl, hxl⟩ := hr7; have HX1 := Lib.hid hxl; clear hxl; have HN1 := Lib.hid HP1.out.lt; clear hq1 hp7 hk7 h1)
  have HL := Lib.hid (OwnL.one (R := (fun _ L x => StrCell L x)) (B := w.heap.size) (T := 9) (n := 1) (w := V1) (L := [.string (str x1)]) (x := x1) strSub rfl (⟨rfl, HX1.out⟩) HK1.out.size); go_loopg [7] (ts.length + 1) (fun g v wr => ∃ (m : Nat) (acc : List Tx) (ts' : List Tok), m = g ∧ sepP s (P o) m acc ts' = some q ∧ acc.length + m = ts.length + 2 ∧ OwnL (fun _ L x => StrCell L x) w.heap.size 9 1 wr v acc ∧ PState wr N G ts' o ∧ KeptN N w wr)
  case atStart => exact ⟨_, [x1], ts1, rfl, HQ1.out, by simp; omega, HL.out, HP1.out.under ((Below.refl _ _).alloc (Nat.le_refl _) _), HK1.out.alloc _⟩
  case round =>
    obtain ⟨wq, rfl⟩ : ∃ W, W = wr := ⟨_, rfl⟩; obtain ⟨m, acc, ts', rfl, hs, hlen, ho, hp, hk⟩ := hrel; have HO := Lib.hid ho; have HKq := Lib.hid hk; have HPq := Lib.hid hp; have hlen1 : acc.length ≤ 2097152 := (by omega); have HLEN := Lib.hid hlen; clear ho hp hk hlen; cases m with
    | zero => rw [sepP] at hs; cases hs
    | succ m =>
      cases ts' with
      | nil => rw [sepP] at hs; cases hs
      | cons t r =>
        rw [sepP] at hs; by_cases ht : t.text = s
        · rw [if_pos ht] at hs; by_cases hr : r = []
          · rw [if_pos hr] at hs; cases hs
          · rw [if_neg hr] at hs; have HQa := Lib.hid hs; have HSK := Lib.hid (skip_yes HPq.out ht hr); clear hs ht hr
            go_wp2_with (first
              | (go_at_call 132; (with_reducible refine HSK.out.mono ?_); rintro e w7 ⟨rfl, hp7, hk7⟩; obtain ⟨Va, rfl⟩ : ∃ W, W = w7 := ⟨_, rfl⟩; have HPa := Lib.hid hp7; have HKa := Lib.hid (HKq.out.trans hk7); have HJa := Lib.hid (KeptN.refl N Va); have HSa := Lib.hid (hk7.same hNB); clear hp7 hk7)
              | (go_at_fn fn
                 rcases bindP_some HQa.out with ⟨f, hf, rfl⟩ | ⟨xb, tsb, hb, hqb⟩
                 · (with_reducible refine (HG.out N G o _ _ hf _ HPa.out).mono ?_); rintro e w7 ⟨rfl, hk7⟩; exact ⟨rfl, rfl, HKa.out.trans hk7⟩
                 (with_reducible refine (HG.out N G o _ _ hb _ HPa.out).mono ?_); rintro e w7 ⟨vb, rfl, hr7, hp7, hk7⟩; obtain ⟨Vb, rfl⟩ : ∃ W, W = w7 := ⟨_, rfl⟩; have HQb := Lib.hid hqb; have HPb := Lib.hid hp7; have HKb := Lib.hid (HKa.out.trans hk7); have HJb := Lib.hid (HJa.out.trans hk7); obtain ⟨rfl, hxl⟩ := hr7; have HXb := Lib.hid hxl; clear hxl; have HSb := Lib.hid ((HSa.out.trans (hk7.same hNB)).alloc (.cells [.string (str xb)].toArray 9)); have HOb := Lib.hid (OwnL.same strSub HO.out HSb.out); have HBa := Lib.hid HKa.out.size; have HBb := Lib.hid HKb.out.size; clear hqb hp7 hk7 hb)
              | (at_builtin; refine append_ownL (R := (fun _ L x => StrCell L x)) (B := w.heap.size) (L := [.string (str xb)]) strSub rfl _ _ rfl Tryz.underlying34 str_info rfl (by decide) (by decide) rfl rfl (heap_alloc_new _ _) rfl (oneS _) HOb.out (⟨rfl, HXb.out⟩) hlen1 ?_ ?_; (have := HBb.out; simp; omega); (intro v5 w5 ho5 hb5; have HO5 := Lib.hid ho5; have HP5 := Lib.hid ((HPb.out.under ((Below.refl _ _).alloc (Nat.le_refl _) (.cells [.string (str xb)].toArray 9))).onB hb5 hNB hGB); have HK5 := Lib.hid ((HKb.out.alloc (.cells [.string (str xb)].toArray 9)).onB hb5 (Nat.le_refl _)); clear ho5 hb5)))
            go_roundg m
            case measure => omega
            case rel => exact ⟨m, acc ++ [xb], tsb, rfl, HQb.out, by have := HLEN.out; simp; omega, HO5.out, HP5.out, HK5.out⟩
        · rw [if_neg ht] at hs; cases hs; have HSK := Lib.hid (skip_no HPq.out ht); clear ht
          go_wp2_with (go_at_call 132
                       (with_reducible refine HSK.out.mono ?_); rintro e w7 ⟨rfl, hb7⟩; have HB7 := Lib.hid hb7; clear hb7)
          go_ret; exact ⟨_, rfl, OwnL.at_ strSub (OwnL.same strSub HO.out (Same.below HB7.out)), HPq.out.under HB7.out, HKq.out.trans (KeptN.of_below HB7.out)⟩
set_option maxHeartbeats 4000000 in
set_option maxRecDepth 100000 in
theorem separatedE_any {fn : FuncId} {P : Nat → List Tok → Pr Ex} (eg : ∀ (args : Array Value) (W : World), (callFunc fn args).run Tryz.prog W = .ok (.enter fn args) W) (hg : PartOk fn REx P) (s : Tx) (N G o : Nat) (ts : List Tok) (q : Out (List Ex)) (hq : separatedP s (P o) ts = some q) (w : World) (h : PState w N G ts o) :
    Calls Tryz.prog 239 #[.pointer (some ⟨N, 0, none⟩), .string (str s), .func (.func fn) #[.pointer (some ⟨N, 0, none⟩)] #[]] w (PPost RExs N G o q w) := by
  have HQ0 := Lib.hid (show bindP (P o ts) (fun x ts' => sepP s (P o) (ts.length + 1) [x] ts') = some q from hq); have HP0 := Lib.hid h; have HK0 := Lib.hid (KeptN.refl N w); have HJ0 := Lib.hid (KeptN.refl N w); have HG := Lib.hid hg; have hNB := h.lt; have hGB := h.2.2.1; have hts := h.1.1; clear h hq hg; go_enter Tryz.func239, Tryz.ntmps239
  go_wp2_with (go_at_fn fn
               rcases bindP_some HQ0.out with ⟨f, hf, rfl⟩ | ⟨x1, ts1, h1, hq1⟩
               · (with_reducible refine (HG.out N G o _ _ hf _ HP0.out).mono ?_); rintro e w7 ⟨rfl, hk7⟩; exact ⟨rfl, rfl, HK0.out.trans hk7⟩
               (with_reducible refine (HG.out N G o _ _ h1 _ HP0.out).mono ?_); rintro e w7 ⟨v1, rfl, hr7, hp7, hk7⟩; obtain ⟨V1, rfl⟩ : ∃ W, W = w7 := ⟨_, rfl⟩; have HQ1 := Lib.hid hq1; have HP1 := Lib.hid hp7; have HK1 := Lib.hid (HK0.out.trans hk7); have HJ1 := Lib.hid (HJ0.out.trans hk7); obtain ⟨L, rfl, hx⟩ := hr7; have HX1 := Lib.hid hx; obtain ⟨o1, s1, n1, A1, m1, k1, A2, m2, k2, rfl⟩ := hx.shape; clear hx; have HN1 := Lib.hid HP1.out.lt; clear hq1 hp7 hk7 h1)
  have HL := Lib.hid (OwnL.one (R := (fun w L x => ExAt w L x)) (B := w.heap.size) (T := 37) (n := 5) (w := V1) (L := [.int .i64 o1, .string s1, .int .i64 n1, .slice A1 m1 k1, .slice A2 m2 k2]) (x := x1) exSub rfl (HX1.out.sub (new_mono (Nat.le_refl _) V1)) HK1.out.size); go_loopg [7] (ts.length + 1) (fun g v wr => ∃ (m : Nat) (acc : List Ex) (ts' : List Tok), m = g ∧ sepP s (P o) m acc ts' = some q ∧ acc.length + m = ts.length + 2 ∧ OwnL (fun w L x => ExAt w L x) w.heap.size 37 5 wr v acc ∧ PState wr N G ts' o ∧ KeptN N w wr)
  case atStart => exact ⟨_, [x1], ts1, rfl, HQ1.out, by simp; omega, HL.out, HP1.out.under ((Below.refl _ _).alloc (Nat.le_refl _) _), HK1.out.alloc _⟩
  case round =>
    obtain ⟨wq, rfl⟩ : ∃ W, W = wr := ⟨_, rfl⟩; obtain ⟨m, acc, ts', rfl, hs, hlen, ho, hp, hk⟩ := hrel; have HO := Lib.hid ho; have HKq := Lib.hid hk; have HPq := Lib.hid hp; have hlen1 : acc.length ≤ 2097152 := (by omega); have HLEN := Lib.hid hlen; clear ho hp hk hlen; cases m with
    | zero => rw [sepP] at hs; cases hs
    | succ m =>
      cases ts' with
      | nil => rw [sepP] at hs; cases hs
      | cons t r =>
        rw [sepP] at hs; by_cases ht : t.text = s
        · rw [if_pos ht] at hs; by_cases hr : r = []
          · rw [if_pos hr] at hs; cases hs
          · rw [if_neg hr] at hs; have HQa := Lib.hid hs; have HSK := Lib.hid (skip_yes HPq.out ht hr); clear hs ht hr
            go_wp2_with (first
              | (go_at_call 132; (with_reducible refine HSK.out.mono ?_); rintro e w7 ⟨rfl, hp7, hk7⟩; obtain ⟨Va, rfl⟩ : ∃ W, W = w7 := ⟨_, rfl⟩; have HPa := Lib.hid hp7; have HKa := Lib.hid (HKq.out.trans hk7); have HJa := Lib.hid (KeptN.refl N Va); have HSa := Lib.hid (hk7.same hNB); clear hp7 hk7)
              | (go_at_fn fn
                 rcases bindP_some HQa.out with ⟨f, hf, rfl⟩ | ⟨xb, tsb, hb, hqb⟩
                 · (with_reducible refine (HG.out N G o _ _ hf _ HPa.out).mono ?_); rintro e w7 ⟨rfl, hk7⟩; exact ⟨rfl, rfl, HKa.out.trans hk7⟩
                 (with_reducible refine (HG.out N G o _ _ hb _ HPa.out).mono ?_); rintro e w7 ⟨vb, rfl, hr7, hp7, hk7⟩; obtain ⟨Vb, rfl⟩ : ∃ W, W = w7 := ⟨_, rfl⟩; have HQb := Lib.hid hqb; have HPb := Lib.hid hp7; have HKb := Lib.hid (HKa.out.trans hk7); have HJb := Lib.hid (HJa.out.trans hk7); obtain ⟨L, rfl, hx⟩ := hr7; have HXb := Lib.hid hx; obtain ⟨o1, s1, n1, A1, m1, k1, A2, m2, k2, rfl⟩ := hx.shape; clear hx; have HSb := Lib.hid ((HSa.out.trans (hk7.same hNB)).alloc (.cells [.int .i64 o1, .string s1, .int .i64 n1, .slice A1 m1 k1, .slice A2 m2 k2].toArray 37)); have HOb := Lib.hid (OwnL.same exSub HO.out HSb.out); have HBa := Lib.hid HKa.out.size; have HBb := Lib.hid HKb.out.size; clear hqb hp7 hk7 hb)
              | (at_builtin; refine append_ownL (R := (fun w L x => ExAt w L x)) (B := w.heap.size) (L := [.int .i64 o1, .string s1, .int .i64 n1, .slice A1 m1 k1, .slice A2 m2 k2]) exSub rfl _ _ rfl Tryz.underlying35 ex_info5 rfl (by decide) (by decide) rfl rfl (heap_alloc_new _ _) rfl (one5 _ _ _ _ _ _ _ _ _) HOb.out (HXb.out.sub (new_off ((Same.refl _ _).alloc _) HBa.out (fun g hg => .inl (Nat.lt_of_lt_of_le (HO.out.lt g hg).2 HSa.out.1)))) hlen1 ?_ ?_; (have := HBb.out; simp; omega); (intro v5 w5 ho5 hb5; have HO5 := Lib.hid ho5; have HP5 := Lib.hid ((HPb.out.under ((Below.refl _ _).alloc (Nat.le_refl _) (.cells [.int .i64 o1, .string s1, .int .i64 n1, .slice A1 m1 k1, .slice A2 m2 k2].toArray 37))).onB hb5 hNB hGB); have HK5 := Lib.hid ((HKb.out.alloc (.cells [.int .i64 o1, .string s1, .int .i64 n1, .slice A1 m1 k1, .slice A2 m2 k2].toArray 37)).onB hb5 (Nat.le_refl _)); clear ho5 hb5)))
            go_roundg m
            case measure => omega
            case rel => exact ⟨m, acc ++ [xb], tsb, rfl, HQb.out, by have := HLEN.out; simp; omega, HO5.out, HP5.out, HK5.out⟩
        · rw [if_neg ht] at hs; cases hs; have HSK := Lib.hid (skip_no HPq.out ht); clear ht
          go_wp2_with (go_at_call 132
                       (with_reducible refine HSK.out.mono ?_); rintro e w7 ⟨rfl, hb7⟩; have HB7 := Lib.hid hb7; clear hb7)
          go_ret; exact ⟨_, rfl, OwnL.at_ exSub (OwnL.same exSub HO.out (Same.below HB7.out)), HPq.out.under HB7.out, HKq.out.trans (KeptN.of_below HB7.out)⟩
set_option maxHeartbeats 4000000 in
set_option maxRecDepth 100000 in
theorem separatedA_any {fn : FuncId} {P : Nat → List Tok → Pr (Tx × Ex)} (eg : ∀ (args : Array Value) (W : World), (callFunc fn args).run Tryz.prog W = .ok (.enter fn args) W) (hg : PartOk fn RArmV P) (s : Tx) (N G o : Nat) (ts : List Tok) (q : Out (List (Tx × Ex))) (hq : separatedP s (P o) ts = some q) (w : World) (h : PState w N G ts o) :
    Calls Tryz.prog 240 #[.pointer (some ⟨N, 0, none⟩), .string (str s), .func (.func fn) #[.pointer (some ⟨N, 0, none⟩)] #[]] w (PPost RArms N G o q w) := by
  have HQ0 := Lib.hid (show bindP (P o ts) (fun x ts' => sepP s (P o) (ts.length + 1) [x] ts') = some q from hq); have HP0 := Lib.hid h; have HK0 := Lib.hid (KeptN.refl N w); have HJ0 := Lib.hid (KeptN.refl N w); have HG := Lib.hid hg; have hNB := h.lt; have hGB := h.2.2.1; have hts := h.1.1; clear h hq hg; go_enter Tryz.func240, Tryz.ntmps240
  go_wp2_with (go_at_fn fn
               rcases bindP_some HQ0.out with ⟨f, hf, rfl⟩ | ⟨x1, ts1, h1, hq1⟩
               · (with_reducible refine (HG.out N G o _ _ hf _ HP0.out).mono ?_); rintro e w7 ⟨rfl, hk7⟩; exact ⟨rfl, rfl, HK0.out.trans hk7⟩
               (with_reducible refine (HG.out N G o _ _ h1 _ HP0.out).mono ?_); rintro e w7 ⟨v1, rfl, hr7, hp7, hk7⟩; obtain ⟨V1, rfl⟩ : ∃ W, W = w7 := ⟨_, rfl⟩; have HQ1 := Lib.hid hq1; have HP1 := Lib.hid hp7; have HK1 := Lib.hid (HK0.out.trans hk7); have HJ1 := Lib.hid (HJ0.out.trans hk7); obtain ⟨L, rfl, hx⟩ := hr7; have HX1 := Lib.hid hx; obtain ⟨c1, o1, s1, n1, A1, m1, k1, A2, m2, k2, rfl⟩ := hx.shape; clear hx; have HN1 := Lib.hid HP1.out.lt; clear hq1 hp7 hk7 h1)
  have HL := Lib.hid (OwnL.one (R := (fun w L x => RArm w L x)) (B := w.heap.size) (T := 225) (n := 6) (w := V1) (L := [.string c1, .int .i64 o1, .string s1, .int .i64 n1, .slice A1 m1 k1, .slice A2 m2 k2]) (x := x1) armSub rfl (HX1.out.sub (new_mono (Nat.le_refl _) V1)) HK1.out.size); go_loopg [7] (ts.length + 1) (fun g v wr => ∃ (m : Nat) (acc : List (Tx × Ex)) (ts' : List Tok), m = g ∧ sepP s (P o) m acc ts' = some q ∧ acc.length + m = ts.length + 2 ∧ OwnL (fun w L x => RArm w L x) w.heap.size 225 6 wr v acc ∧ PState wr N G ts' o ∧ KeptN N w wr)
  case atStart => exact ⟨_, [x1], ts1, rfl, HQ1.out, by simp; omega, HL.out, HP1.out.under ((Below.refl _ _).alloc (Nat.le_refl _) _), HK1.out.alloc _⟩
  case round =>
    obtain ⟨wq, rfl⟩ : ∃ W, W = wr := ⟨_, rfl⟩; obtain ⟨m, acc, ts', rfl, hs, hlen, ho, hp, hk⟩ := hrel; have HO := Lib.hid ho; have HKq := Lib.hid hk; have HPq := Lib.hid hp; have hlen1 : acc.length ≤ 2097152 := (by omega); have HLEN := Lib.hid hlen; clear ho hp hk hlen; cases m with
    | zero => rw [sepP] at hs; cases hs
    | succ m =>
      cases ts' with
      | nil => rw [sepP] at hs; cases hs
      | cons t r =>
        rw [sepP] at hs; by_cases ht : t.text = s
        · rw [if_pos ht] at hs; by_cases hr : r = []
          · rw [if_pos hr] at hs; cases hs
          · rw [if_neg hr] at hs; have HQa := Lib.hid hs; have HSK := Lib.hid (skip_yes HPq.out ht hr); clear hs ht hr
            go_wp2_with (first
              | (go_at_call 132; (with_reducible refine HSK.out.mono ?_); rintro e w7 ⟨rfl, hp7, hk7⟩; obtain ⟨Va, rfl⟩ : ∃ W, W = w7 := ⟨_, rfl⟩; have HPa := Lib.hid hp7; have HKa := Lib.hid (HKq.out.trans hk7); have HJa := Lib.hid (KeptN.refl N Va); have HSa := Lib.hid (hk7.same hNB); clear hp7 hk7)
              | (go_at_fn fn
                 rcases bindP_some HQa.out with ⟨f, hf, rfl⟩ | ⟨xb, tsb, hb, hqb⟩
                 · (with_reducible refine (HG.out N G o _ _ hf _ HPa.out).mono ?_); rintro e w7 ⟨rfl, hk7⟩; exact ⟨rfl, rfl, HKa.out.trans hk7⟩
                 (with_reducible refine (HG.out N G o _ _ hb _ HPa.out).mono ?_); rintro e w7 ⟨vb, rfl, hr7, hp7, hk7⟩; obtain ⟨Vb, rfl⟩ : ∃ W, W = w7 := ⟨_, rfl⟩; have HQb := Lib.hid hqb; have HPb := Lib.hid hp7; have HKb := Lib.hid (HKa.out.trans hk7); have HJb := Lib.hid (HJa.out.trans hk7); obtain ⟨L, rfl, hx⟩ := hr7; have HXb := Lib.hid hx; obtain ⟨c1, o1, s1, n1, A1, m1, k1, A2, m2, k2, rfl⟩ := hx.shape; clear hx; have HSb := Lib.hid ((HSa.out.trans (hk7.same hNB)).alloc (.cells [.string c1, .int .i64 o1, .string s1, .int .i64 n1, .slice A1 m1 k1, .slice A2 m2 k2].toArray 225)); have HOb := Lib.hid (OwnL.same armSub HO.out HSb.out); have HBa := Lib.hid HKa.out.size; have HBb := Lib.hid HKb.out.size; clear hqb hp7 hk7 hb)
              | (at_builtin; refine append_ownL (R := (fun w L x => RArm w L x)) (B := w.heap.size) (L := [.string c1, .int .i64 o1, .string s1, .int .i64 n1, .slice A1 m1 k1, .slice A2 m2 k2]) armSub rfl _ _ rfl Tryz.underlying221 arm_info6 rfl (by decide) (by decide) rfl rfl (heap_alloc_new _ _) rfl (one6 _ _ _ _ _ _ _ _ _ _) HOb.out (HXb.out.sub (new_off ((Same.refl _ _).alloc _) HBa.out (fun g hg => .inl (Nat.lt_of_lt_of_le (HO.out.lt g hg).2 HSa.out.1)))) hlen1 ?_ ?_; (have := HBb.out; simp; omega); (intro v5 w5 ho5 hb5; have HO5 := Lib.hid ho5; have HP5 := Lib.hid ((HPb.out.under ((Below.refl _ _).alloc (Nat.le_refl _) (.cells [.string c1, .int .i64 o1, .string s1, .int .i64 n1, .slice A1 m1 k1, .slice A2 m2 k2].toArray 225))).onB hb5 hNB hGB); have HK5 := Lib.hid ((HKb.out.alloc (.cells [.string c1, .int .i64 o1, .string s1, .int .i64 n1, .slice A1 m1 k1, .slice A2 m2 k2].toArray 225)).onB hb5 (Nat.le_refl _)); clear ho5 hb5)))
            go_roundg m
            case measure => omega
            case rel => exact ⟨m, acc ++ [xb], tsb, rfl, HQb.out, by have := HLEN.out; simp; omega, HO5.out, HP5.out, HK5.out⟩
        · rw [if_neg ht] at hs; cases hs; have HSK := Lib.hid (skip_no HPq.out ht); clear ht
          go_wp2_with (go_at_call 132
                       (with_reducible refine HSK.out.mono ?_); rintro e w7 ⟨rfl, hb7⟩; have HB7 := Lib.hid hb7; clear hb7)
          go_ret; exact ⟨_, rfl, OwnL.at_ armSub (OwnL.same armSub HO.out (Same.below HB7.out)), HPq.out.under HB7.out, HKq.out.trans (KeptN.of_below HB7.out)⟩
end Go.Proofs.YtlhmdjhfmhkllaaGreatDoor

namespace Go.Proofs.YtlhmdjhfmhkllaaGreatDoor
open Go.RowKit
theorem want_if : ∀ (N G o : Nat) (ts : List Tok) (q : Out Unit), wantP ifT ts = some q → ∀ w, PState w N G ts o → Calls Tryz.prog 82 #[.pointer (some ⟨N, 0, none⟩), .string ⟨#[105, 102]⟩] w (PPost RUnit N G o q w) := fun N G o ts q h w hp => want_any ifT N G o ts q h w hp
theorem want_then : ∀ (N G o : Nat) (ts : List Tok) (q : Out Unit), wantP thenT ts = some q → ∀ w, PState w N G ts o → Calls Tryz.prog 82 #[.pointer (some ⟨N, 0, none⟩), .string ⟨#[116, 104, 101, 110]⟩] w (PPost RUnit N G o q w) := fun N G o ts q h w hp => want_any thenT N G o ts q h w hp
theorem want_else : ∀ (N G o : Nat) (ts : List Tok) (q : Out Unit), wantP elseT ts = some q → ∀ w, PState w N G ts o → Calls Tryz.prog 82 #[.pointer (some ⟨N, 0, none⟩), .string ⟨#[101, 108, 115, 101]⟩] w (PPost RUnit N G o q w) := fun N G o ts q h w hp => want_any elseT N G o ts q h w hp
theorem want_arrow : ∀ (N G o : Nat) (ts : List Tok) (q : Out Unit), wantP arrowT ts = some q → ∀ w, PState w N G ts o → Calls Tryz.prog 82 #[.pointer (some ⟨N, 0, none⟩), .string ⟨#[45, 62]⟩] w (PPost RUnit N G o q w) := fun N G o ts q h w hp => want_any arrowT N G o ts q h w hp
theorem at_openB {w : World} {N G : Nat} {t : Tok} {r : List Tok} {o : Nat} (h : PState w N G (t :: r) o) : Calls Tryz.prog 134 #[.pointer (some ⟨N, 0, none⟩), .string ⟨#[91]⟩] w (BoolPost (decide (t.text = openB)) w) := at_any h openB
theorem at_open {w : World} {N G : Nat} {t : Tok} {r : List Tok} {o : Nat} (h : PState w N G (t :: r) o) : Calls Tryz.prog 134 #[.pointer (some ⟨N, 0, none⟩), .string ⟨#[40]⟩] w (BoolPost (decide (t.text = openT)) w) := at_any h openT
theorem skipno_every {w : World} {N G : Nat} {t : Tok} {r : List Tok} {o : Nat} (h : PState w N G (t :: r) o) (hs : t.text ≠ everyT) : Calls Tryz.prog 132 #[.pointer (some ⟨N, 0, none⟩), .string ⟨#[101, 118, 101, 114, 121]⟩] w (BoolPost false w) := skip_no h hs
theorem skipyes_every {w : World} {N G : Nat} {t : Tok} {r : List Tok} {o : Nat} (h : PState w N G (t :: r) o) (hs : t.text = everyT) (hr : r ≠ []) : Calls Tryz.prog 132 #[.pointer (some ⟨N, 0, none⟩), .string ⟨#[101, 118, 101, 114, 121]⟩] w (SkipPost N G r o w) := skip_yes h hs hr
theorem skipno_when {w : World} {N G : Nat} {t : Tok} {r : List Tok} {o : Nat} (h : PState w N G (t :: r) o) (hs : t.text ≠ whenT') : Calls Tryz.prog 132 #[.pointer (some ⟨N, 0, none⟩), .string ⟨#[119, 104, 101, 110]⟩] w (BoolPost false w) := skip_no h hs
theorem skipyes_when {w : World} {N G : Nat} {t : Tok} {r : List Tok} {o : Nat} (h : PState w N G (t :: r) o) (hs : t.text = whenT') (hr : r ≠ []) : Calls Tryz.prog 132 #[.pointer (some ⟨N, 0, none⟩), .string ⟨#[119, 104, 101, 110]⟩] w (SkipPost N G r o w) := skip_yes h hs hr
theorem enter_name : ∀ (args : Array Value) (W : World), (callFunc 83 args).run Tryz.prog W = .ok (.enter 83 args) W := enters_of Tryz.func83 (by kernel_rfl) rfl
theorem enter_names : ∀ (args : Array Value) (W : World), (callFunc 88 args).run Tryz.prog W = .ok (.enter 88 args) W := enters_of Tryz.func88 (by kernel_rfl) rfl
theorem enter_expr : ∀ (args : Array Value) (W : World), (callFunc 31 args).run Tryz.prog W = .ok (.enter 31 args) W := enters_of Tryz.func31 (by kernel_rfl) rfl
theorem enter_exprs : ∀ (args : Array Value) (W : World), (callFunc 223 args).run Tryz.prog W = .ok (.enter 223 args) W := enters_of Tryz.func223 (by kernel_rfl) rfl
theorem enter_arm : ∀ (args : Array Value) (W : World), (callFunc 241 args).run Tryz.prog W = .ok (.enter 241 args) W := enters_of Tryz.func241 (by kernel_rfl) rfl
theorem enter_arms : ∀ (args : Array Value) (W : World), (callFunc 225 args).run Tryz.prog W = .ok (.enter 225 args) W := enters_of Tryz.func225 (by kernel_rfl) rfl
theorem make_fn : ∀ (fn : Fn) (first cap : Array Value) (w : World), (Instr.makeFunc fn first cap).run Tryz.prog w = .ok (.func fn first cap) w := fun _ _ _ _ => rfl
set_option maxHeartbeats 1000000 in
theorem pnames_any : PartOk 88 RStrs (fun _ => namesP) := by
  intro N G o ts q hq w h; have H := Lib.hid (show Calls Tryz.prog 84 #[.pointer (some ⟨N, 0, none⟩), .string ⟨#[44]⟩, .func (.func 83) #[.pointer (some ⟨N, 0, none⟩)] #[]] w (PPost RStrs N G o q w) from separatedT_any enter_name name_any commaT N G o ts q hq w h); have hmf := make_fn; clear h hq; cases q with
  | bad f =>
    go_enter Tryz.func88, Tryz.ntmps88
    go_wp2_with (go_at_call 84
                 (with_reducible refine H.out.mono ?_); rintro e w7 ⟨rfl, hk7⟩; have HK := Lib.hid hk7; clear hk7)
    exact ⟨rfl, rfl, HK.out⟩
  | ok x r =>
    go_enter Tryz.func88, Tryz.ntmps88
    go_wp2_with (go_at_call 84
                 (with_reducible refine H.out.mono ?_); rintro e w7 ⟨v, rfl, hr, hp, hk⟩; have HR := Lib.hid hr; have HP := Lib.hid hp; have HK := Lib.hid hk; clear hr hp hk)
    go_ret; exact ⟨_, rfl, HR.out, HP.out, HK.out⟩
set_option maxHeartbeats 1000000 in
theorem exprs_any {E : PrX} (HE : PartOk 31 REx (fun o ts => E ts o)) : PartOk 223 RExs (fun o => separatedP commaT fun ts => E ts o) := by
  intro N G o ts q hq w h; have H := Lib.hid (show Calls Tryz.prog 239 #[.pointer (some ⟨N, 0, none⟩), .string ⟨#[44]⟩, .func (.func 31) #[.pointer (some ⟨N, 0, none⟩)] #[]] w (PPost RExs N G o q w) from separatedE_any (P := fun o ts => E ts o) enter_expr HE commaT N G o ts q hq w h); have hmf := make_fn; clear h hq; cases q with
  | bad f =>
    go_enter Tryz.func223, Tryz.ntmps223
    go_wp2_with (go_at_call 239
                 (with_reducible refine H.out.mono ?_); rintro e w7 ⟨rfl, hk7⟩; have HK := Lib.hid hk7; clear hk7)
    exact ⟨rfl, rfl, HK.out⟩
  | ok x r =>
    go_enter Tryz.func223, Tryz.ntmps223
    go_wp2_with (go_at_call 239
                 (with_reducible refine H.out.mono ?_); rintro e w7 ⟨v, rfl, hr, hp, hk⟩; have HR := Lib.hid hr; have HP := Lib.hid hp; have HK := Lib.hid hk; clear hr hp hk)
    go_ret; exact ⟨_, rfl, HR.out, HP.out, HK.out⟩
set_option maxHeartbeats 2000000 in
theorem pstatics_any : PartOk 86 RStrs (fun _ => staticsP) := by
  intro N G o ts q hq w h; have hmf := make_fn; replace hq : staticsP ts = some q := hq; cases ts with
  | nil =>
    cases hq
  | cons t r =>
    have HA := Lib.hid (at_openB h); have HP := Lib.hid h; by_cases ht : t.text = openB
    · rw [decide_eq_true ht] at HA; have hq : enclosedP openB namesP shutB (t :: r) = some q := (by have h2 : atP openB (t :: r) = true := decide_eq_true ht; unfold staticsP at hq; rw [if_neg (List.cons_ne_nil _ _)] at hq; rwa [if_pos h2] at hq); have H := Lib.hid (fun (w : World) (h : PState w N G (t :: r) o) => show Calls Tryz.prog 87 #[.pointer (some ⟨N, 0, none⟩), .string ⟨#[91]⟩, .func (.func 88) #[.pointer (some ⟨N, 0, none⟩)] #[], .string ⟨#[93]⟩] w (PPost RStrs N G o q w) from enclosedS_any enter_names pnames_any openB shutB N G o (t :: r) q hq w h); clear h hq ht; cases q with
      | bad f =>
        go_enter Tryz.func86, Tryz.ntmps86
        go_wp2_with (first
          | (go_at_call 134; (with_reducible refine HA.out.mono ?_); rintro e w7 ⟨rfl, hb7⟩; obtain ⟨V, rfl⟩ : ∃ W, W = w7 := ⟨_, rfl⟩; have HV := Lib.hid hb7; clear hb7)
          | (go_at_call 87; (with_reducible refine (H.out _ (HP.out.under HV.out)).mono ?_); rintro e w7 ⟨rfl, hk7⟩; have HK := Lib.hid ((KeptN.of_below HV.out).trans hk7); clear hk7))
        exact ⟨rfl, rfl, HK.out⟩
      | ok x r =>
        go_enter Tryz.func86, Tryz.ntmps86
        go_wp2_with (first
          | (go_at_call 134; (with_reducible refine HA.out.mono ?_); rintro e w7 ⟨rfl, hb7⟩; obtain ⟨V, rfl⟩ : ∃ W, W = w7 := ⟨_, rfl⟩; have HV := Lib.hid hb7; clear hb7)
          | (go_at_call 87; (with_reducible refine (H.out _ (HP.out.under HV.out)).mono ?_); rintro e w7 ⟨v, rfl, hr, hp, hk⟩; have HR := Lib.hid hr; have HP7 := Lib.hid hp; have HK := Lib.hid ((KeptN.of_below HV.out).trans hk); clear hr hp hk))
        go_ret; exact ⟨_, rfl, HR.out.lift (Same.refl _ _) HV.out.size, HP7.out, HK.out⟩
    · rw [decide_eq_false ht] at HA; have hq : some (.ok [] (t :: r)) = some q := (by have h2 : atP openB (t :: r) = false := decide_eq_false ht; unfold staticsP at hq; rw [if_neg (List.cons_ne_nil _ _)] at hq; rwa [if_neg (by rw [h2]; simp)] at hq); cases hq; clear h ht; go_enter Tryz.func86, Tryz.ntmps86
      go_wp2_with (go_at_call 134
                   (with_reducible refine HA.out.mono ?_); rintro e w7 ⟨rfl, hb7⟩; have HV := Lib.hid hb7; clear hb7)
      go_ret; exact ⟨_, rfl, ⟨none, 0, rfl, Nat.le_refl _, by unfold maxLen; omega, fun i x h => by simp at h⟩, HP.out.under HV.out, KeptN.of_below HV.out⟩
/- a row of six is set -/
section
variable {w w' : World} {N G o K : Nat} {ts : List Tok}
theorem set_row6 {T0 : TypeId} {a b c d e f : Value} (x y z u v s : Value) (h : w.heap[K]? = some (.cells #[a, b, c, d, e, f] T0 (0, 0))) : ((((((w.setCell ⟨K, 0, none⟩ x).setCell ⟨K, 1, none⟩ y).setCell ⟨K, 2, none⟩ z).setCell ⟨K, 3, none⟩ u).setCell ⟨K, 4, none⟩ v).setCell ⟨K, 5, none⟩ s).heap[K]? = some (.cells #[x, y, z, u, v, s] T0 (0, 0)) := by
  have h1 := heap_setCell_same w K 0 _ _ x h; have h2 := heap_setCell_same _ K 1 _ _ y h1; have h3 := heap_setCell_same _ K 2 _ _ z h2; have h4 := heap_setCell_same _ K 3 _ _ u h3; have h5 := heap_setCell_same _ K 4 _ _ v h4; have h6 := heap_setCell_same _ K 5 _ _ s h5; simpa using h6
end
theorem arm_info : (Tryz.prog.info? 225).map (·.size) = some 6 := by kernel_rfl
set_option maxRecDepth 100000 in
theorem arm_results {tmps : Array Value} {w : World} {N : Nat} {x0 x1 x2 x3 x4 x5 : Value} (hp : tmps.getD 2 undef = .pointer (some ⟨N, 0, none⟩)) (hg : w.heap[N]? = some (.cells #[x0, x1, x2, x3, x4, x5] 225 (0, 0))) :
    (results Tryz.f241 tmps).run Tryz.prog w = .ok (.agg #[x0, x1, x2, x3, x4, x5]) w :=
  results_cell_row Tryz.results241 tmps w N 225 _ (0, 0) _ hp hg Tryz.underlying225 rfl arm_info
set_option maxHeartbeats 2000000 in
theorem arm_any {E : PrX} (HE : PartOk 31 REx (fun o ts => E ts o)) : PartOk 241 RArmV (fun o => armP E o) := by
  intro N G o ts q hq w h; have HQ0 := Lib.hid (show bindP (conP ts) (fun c ts => bindP (wantP arrowT ts) fun _ ts => bindP (E ts o) fun e ts => some (.ok (c, e) ts)) = some q from hq); have HP0 := Lib.hid h; have HK0 := Lib.hid (KeptN.refl N w); have HJ0 := Lib.hid (KeptN.refl N (w.alloc (.cells #[.string ⟨#[]⟩, .int .i64 0, .string ⟨#[]⟩, .int .i64 0, .slice none 0 0, .slice none 0 0] 225))); have HEE := Lib.hid HE; have hN := h.lt; have hG := h.2.2.1; clear h hq HE; go_enter Tryz.func241, Tryz.ntmps241
  go_wp2_with (first
    | (go_at_call 85; rcases bindP_some HQ0.out with ⟨f, hf, rfl⟩ | ⟨x1, ts1, h1, hq1⟩
       · (with_reducible refine (con_any N G o _ _ hf _ (HP0.out.under ((Below.refl _ _).alloc (by simp) _))).mono ?_); rintro e w7 ⟨rfl, hk7⟩; exact ⟨rfl, rfl, (HK0.out.alloc _).trans hk7⟩
       (with_reducible refine (con_any N G o _ _ h1 _ (HP0.out.under ((Below.refl _ _).alloc (by simp) _))).mono ?_); rintro e w7 ⟨v1, rfl, hr7, hp7, hk7⟩; obtain ⟨V1, rfl⟩ : ∃ W, W = w7 := ⟨_, rfl⟩; have HQ1 := Lib.hid hq1; have HP1 := Lib.hid hp7; have HK1 := Lib.hid ((HK0.out.alloc _).trans hk7); have HJ1 := Lib.hid (HJ0.out.trans hk7); obtain ⟨rfl, hxl⟩ := hr7; have HX1 := Lib.hid hxl; clear hxl; clear hq1 hp7 hk7 h1)
    | (go_at_call 82; rcases bindP_some HQ1.out with ⟨f, hf, rfl⟩ | ⟨x2, ts2, h2, hq2⟩
       · (with_reducible refine (want_arrow N G o _ _ hf _ HP1.out).mono ?_); rintro e w7 ⟨rfl, hk7⟩; exact ⟨rfl, rfl, HK1.out.trans hk7⟩
       (with_reducible refine (want_arrow N G o _ _ h2 _ HP1.out).mono ?_); rintro e w7 ⟨v2, rfl, hr7, hp7, hk7⟩; obtain ⟨V2, rfl⟩ : ∃ W, W = w7 := ⟨_, rfl⟩; have HQ2 := Lib.hid hq2; have HP2 := Lib.hid hp7; have HK2 := Lib.hid (HK1.out.trans hk7); have HJ2 := Lib.hid (HJ1.out.trans hk7); cases hr7; clear hq2 hp7 hk7 h2)
    | (go_at_call 31; rcases bindP_some HQ2.out with ⟨f, hf, rfl⟩ | ⟨x3, ts3, h3, hq3⟩
       · (with_reducible refine (HEE.out N G o _ _ hf _ HP2.out).mono ?_); rintro e w7 ⟨rfl, hk7⟩; exact ⟨rfl, rfl, HK2.out.trans hk7⟩
       (with_reducible refine (HEE.out N G o _ _ h3 _ HP2.out).mono ?_); rintro e w7 ⟨v3, rfl, hr7, hp7, hk7⟩; obtain ⟨V3, rfl⟩ : ∃ W, W = w7 := ⟨_, rfl⟩; have HQ3 := Lib.hid hq3; have HP3 := Lib.hid hp7; have HK3 := Lib.hid (HK2.out.trans hk7); have HJ3 := Lib.hid (HJ2.out.trans hk7); obtain ⟨L, rfl, hx⟩ := hr7; have HX3 := Lib.hid hx; obtain ⟨o1, s1, n1, A1, m1, k1, A2, m2, k2, rfl⟩ := hx.shape; clear hx; cases HQ3.out; have BR := Lib.hid (HJ3.out.cells (heap_alloc_new w (.cells #[.string ⟨#[]⟩, .int .i64 0, .string ⟨#[]⟩, .int .i64 0, .slice none 0 0, .slice none 0 0] 225)) (by omega)); obtain ⟨r0, r1, r2, r3, r4, r5⟩ := row6 BR.out; have f0 := row_frozen BR.out 0; have f1 := row_frozen BR.out 1; have f2 := row_frozen BR.out 2; have f3 := row_frozen BR.out 3; have f4 := row_frozen BR.out 4; have f5 := row_frozen BR.out 5; clear hq3 hp7 hk7 h3))
  have hs2 : w.heap.size < V2.heap.size := (by have := HJ2.out.size; simp at this; omega); have hK6 : ∀ j : Nat, (⟨w.heap.size, j, none⟩ : Addr).block < V2.heap.size ∨ V3.heap.size ≤ (⟨w.heap.size, j, none⟩ : Addr).block := fun j => .inl hs2; refine bodyPost_ret (arm_results rfl (set_row6 _ _ _ _ _ _ BR.out)) rfl ⟨_, rfl, ⟨_, rfl, ⟨_, rfl, HX1.out, HX3.out.lift (((Same.refl V2.heap.size V3).set5 (.inl hs2) _ _ _ _ _).set (hK6 5) _) HK2.out.size⟩⟩, (HP3.out.set5 (by omega) (by omega) _ _ _ _ _).set (a := ⟨w.heap.size, 5, none⟩) (by simp; omega) (by simp; omega) _, (HK3.out.set5 (Nat.le_refl _) _ _ _ _ _).setNew (a := ⟨w.heap.size, 5, none⟩) (Nat.le_refl _) _⟩
set_option maxHeartbeats 1000000 in
theorem parms_any {E : PrX} (HE : PartOk 31 REx (fun o ts => E ts o)) : PartOk 225 RArms (fun o => separatedP barT (armP E o)) := by
  intro N G o ts q hq w h; have H := Lib.hid (show Calls Tryz.prog 240 #[.pointer (some ⟨N, 0, none⟩), .string ⟨#[124]⟩, .func (.func 241) #[.pointer (some ⟨N, 0, none⟩)] #[]] w (PPost RArms N G o q w) from separatedA_any (P := fun o => armP E o) enter_arm (arm_any HE) barT N G o ts q hq w h); have hmf := make_fn; clear h hq; cases q with
  | bad f =>
    go_enter Tryz.func225, Tryz.ntmps225
    go_wp2_with (go_at_call 240
                 (with_reducible refine H.out.mono ?_); rintro e w7 ⟨rfl, hk7⟩; have HK := Lib.hid hk7; clear hk7)
    exact ⟨rfl, rfl, HK.out⟩
  | ok x r =>
    go_enter Tryz.func225, Tryz.ntmps225
    go_wp2_with (go_at_call 240
                 (with_reducible refine H.out.mono ?_); rintro e w7 ⟨v, rfl, hr, hp, hk⟩; have HR := Lib.hid hr; have HP := Lib.hid hp; have HK := Lib.hid hk; clear hr hp hk)
    go_ret; exact ⟨_, rfl, HR.out, HP.out, HK.out⟩
end Go.Proofs.YtlhmdjhfmhkllaaGreatDoor
