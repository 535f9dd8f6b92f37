/-
  Texts joined.
-/
import Derived.Shelf.Abstract
import Derived.Test.YtlhmdjhfmhkllaaGreatDoorKb20
namespace Go.Proofs.YtlhmdjhfmhkllaaGreatDoor
open Go.RowKit
set_option maxHeartbeats 2000000 in
set_option maxRecDepth 100000 in
theorem enclosedT_any {g : FuncId} {P : Nat → List Tok → Pr Tx} (eg : ∀ (args : Array Value) (W : World), (callFunc g args).run Tryz.prog W = .ok (.enter g args) W) (hg : PartOk g RStr P) (l r : Tx) (N G o : Nat) (ts : List Tok) (q : Out Tx) (hq : enclosedP l (P o) r ts = some q) (w : World) (h : PState w N G ts o) :
    Calls Tryz.prog 194 #[.pointer (some ⟨N, 0, none⟩), .string (str l), .func (.func g) #[.pointer (some ⟨N, 0, none⟩)] #[], .string (str r)] w (PPost RStr N G o q w) := by
  have HQ0 := Lib.hid (show bindP (wantP l ts) (fun _ ts => bindP (P o ts) fun x ts => bindP (wantP r ts) fun _ ts => some (.ok x ts)) = some q from hq); have HP0 := Lib.hid h; have HK0 := Lib.hid (KeptN.refl N w); have HJ0 := Lib.hid (KeptN.refl N w); have HG := Lib.hid hg; have hN := h.lt; have hG := h.2.2.1; clear h hq hg; go_enter Tryz.func194, Tryz.ntmps194
  go_wp2_with (first
    | (go_at_call 82; rcases bindP_some HQ0.out with ⟨f, hf, rfl⟩ | ⟨x1, ts1, h1, hq1⟩
       · (with_reducible refine (want_any l N G o _ _ hf _ HP0.out).mono ?_); rintro e w7 ⟨rfl, hk7⟩; exact ⟨rfl, rfl, HK0.out.trans hk7⟩
       (with_reducible refine (want_any l N G o _ _ h1 _ HP0.out).mono ?_); rintro e w7 ⟨v1, rfl, hr7, hp7, hk7⟩; obtain ⟨V1, rfl⟩ : ∃ W, W = w7 := ⟨_, rfl⟩; have HQ1 := Lib.hid hq1; have HP1 := Lib.hid hp7; have HK1 := Lib.hid (HK0.out.trans hk7); have HJ1 := Lib.hid (HJ0.out.trans hk7); cases hr7; have HN1 := Lib.hid HP1.out.lt; clear hq1 hp7 hk7 h1)
    | (go_at_fn g
       rcases bindP_some HQ1.out with ⟨f, hf, rfl⟩ | ⟨x2, ts2, h2, hq2⟩
       · (with_reducible refine (HG.out N G o _ _ hf _ HP1.out).mono ?_); rintro e w7 ⟨rfl, hk7⟩; exact ⟨rfl, rfl, HK1.out.trans hk7⟩
       (with_reducible refine (HG.out N G o _ _ h2 _ HP1.out).mono ?_); rintro e w7 ⟨v2, rfl, hr7, hp7, hk7⟩; obtain ⟨V2, rfl⟩ : ∃ W, W = w7 := ⟨_, rfl⟩; have HQ2 := Lib.hid hq2; have HP2 := Lib.hid hp7; have HK2 := Lib.hid (HK1.out.trans hk7); have HJ2 := Lib.hid (HJ1.out.trans hk7); have HR2 := Lib.hid hr7; obtain ⟨rfl, hxl⟩ := hr7; clear hxl; clear hq2 hp7 hk7 h2)
    | (go_at_call 82; rcases bindP_some HQ2.out with ⟨f, hf, rfl⟩ | ⟨x3, ts3, h3, hq3⟩
       · (with_reducible refine (want_any r N G o _ _ hf _ HP2.out).mono ?_); rintro e w7 ⟨rfl, hk7⟩; exact ⟨rfl, rfl, HK2.out.trans hk7⟩
       (with_reducible refine (want_any r N G o _ _ h3 _ HP2.out).mono ?_); rintro e w7 ⟨v3, rfl, hr7, hp7, hk7⟩; obtain ⟨V3, rfl⟩ : ∃ W, W = w7 := ⟨_, rfl⟩; have HQ3 := Lib.hid hq3; have HP3 := Lib.hid hp7; have HK3 := Lib.hid (HK2.out.trans hk7); have HJ3 := Lib.hid (HJ2.out.trans hk7); cases hr7; cases HQ3.out; clear hq3 hp7 hk7 h3))
  go_ret; exact ⟨_, rfl, ⟨rfl, HR2.out.2⟩, HP3.out, HK3.out⟩
set_option maxHeartbeats 2000000 in
set_option maxRecDepth 100000 in
theorem enclosedS_any {g : FuncId} {P : Nat → List Tok → Pr (List Tx)} (eg : ∀ (args : Array Value) (W : World), (callFunc g args).run Tryz.prog W = .ok (.enter g args) W) (hg : PartOk g RStrs P) (l r : Tx) (N G o : Nat) (ts : List Tok) (q : Out (List Tx)) (hq : enclosedP l (P o) r ts = some q) (w : World) (h : PState w N G ts o) :
    Calls Tryz.prog 87 #[.pointer (some ⟨N, 0, none⟩), .string (str l), .func (.func g) #[.pointer (some ⟨N, 0, none⟩)] #[], .string (str r)] w (PPost RStrs N G o q w) := by
  have HQ0 := Lib.hid (show bindP (wantP l ts) (fun _ ts => bindP (P o ts) fun x ts => bindP (wantP r ts) fun _ ts => some (.ok x ts)) = some q from hq); have HP0 := Lib.hid h; have HK0 := Lib.hid (KeptN.refl N w); have HJ0 := Lib.hid (KeptN.refl N w); have HG := Lib.hid hg; have hN := h.lt; have hG := h.2.2.1; clear h hq hg; go_enter Tryz.func87, Tryz.ntmps87
  go_wp2_with (first
    | (go_at_call 82; rcases bindP_some HQ0.out with ⟨f, hf, rfl⟩ | ⟨x1, ts1, h1, hq1⟩
       · (with_reducible refine (want_any l N G o _ _ hf _ HP0.out).mono ?_); rintro e w7 ⟨rfl, hk7⟩; exact ⟨rfl, rfl, HK0.out.trans hk7⟩
       (with_reducible refine (want_any l N G o _ _ h1 _ HP0.out).mono ?_); rintro e w7 ⟨v1, rfl, hr7, hp7, hk7⟩; obtain ⟨V1, rfl⟩ : ∃ W, W = w7 := ⟨_, rfl⟩; have HQ1 := Lib.hid hq1; have HP1 := Lib.hid hp7; have HK1 := Lib.hid (HK0.out.trans hk7); have HJ1 := Lib.hid (HJ0.out.trans hk7); cases hr7; have HN1 := Lib.hid HP1.out.lt; clear hq1 hp7 hk7 h1)
    | (go_at_fn g
       rcases bindP_some HQ1.out with ⟨f, hf, rfl⟩ | ⟨x2, ts2, h2, hq2⟩
       · (with_reducible refine (HG.out N G o _ _ hf _ HP1.out).mono ?_); rintro e w7 ⟨rfl, hk7⟩; exact ⟨rfl, rfl, HK1.out.trans hk7⟩
       (with_reducible refine (HG.out N G o _ _ h2 _ HP1.out).mono ?_); rintro e w7 ⟨v2, rfl, hr7, hp7, hk7⟩; obtain ⟨V2, rfl⟩ : ∃ W, W = w7 := ⟨_, rfl⟩; have HQ2 := Lib.hid hq2; have HP2 := Lib.hid hp7; have HK2 := Lib.hid (HK1.out.trans hk7); have HJ2 := Lib.hid (HJ1.out.trans hk7); have HR2 := Lib.hid hr7; clear hq2 hp7 hk7 h2)
    | (go_at_call 82; rcases bindP_some HQ2.out with ⟨f, hf, rfl⟩ | ⟨x3, ts3, h3, hq3⟩
       · (with_reducible refine (want_any r N G o _ _ hf _ HP2.out).mono ?_); rintro e w7 ⟨rfl, hk7⟩; exact ⟨rfl, rfl, HK2.out.trans hk7⟩
       (with_reducible refine (want_any r N G o _ _ h3 _ HP2.out).mono ?_); rintro e w7 ⟨v3, rfl, hr7, hp7, hk7⟩; obtain ⟨V3, rfl⟩ : ∃ W, W = w7 := ⟨_, rfl⟩; have HQ3 := Lib.hid hq3; have HP3 := Lib.hid hp7; have HK3 := Lib.hid (HK2.out.trans hk7); have HJ3 := Lib.hid (HJ2.out.trans hk7); cases hr7; cases HQ3.out; have HS3 := Lib.hid (hk7.same HN1.out); clear hq3 hp7 hk7 h3))
  go_ret; exact ⟨_, rfl, HR2.out.lift HS3.out HK1.out.size, HP3.out, HK3.out⟩
theorem tokres_infoE : (Tryz.prog.info? 37).map (·.size) = some 5 := by kernel_rfl
set_option maxRecDepth 100000 in
theorem encE_results {tmps : Array Value} {w : World} {N : Nat} {x0 x1 x2 x3 x4 : Value} (hp : tmps.getD 8 undef = .pointer (some ⟨N, 0, none⟩)) (hg : w.heap[N]? = some (.cells #[x0, x1, x2, x3, x4] 37 (0, 0))) :
    (results Tryz.f207 tmps).run Tryz.prog w = .ok (.agg #[x0, x1, x2, x3, x4]) w :=
  results_cell_row Tryz.results207 tmps w N 37 _ (0, 0) _ hp hg Tryz.underlying37 rfl tokres_infoE
set_option maxHeartbeats 2000000 in
set_option maxRecDepth 100000 in
theorem enclosedE_any {g : FuncId} {P : Nat → List Tok → Pr Ex} (eg : ∀ (args : Array Value) (W : World), (callFunc g args).run Tryz.prog W = .ok (.enter g args) W) (hg : PartOk g REx P) (l r : Tx) (N G o : Nat) (ts : List Tok) (q : Out Ex) (hq : enclosedP l (P o) r ts = some q) (w : World) (h : PState w N G ts o) :
    Calls Tryz.prog 207 #[.pointer (some ⟨N, 0, none⟩), .string (str l), .func (.func g) #[.pointer (some ⟨N, 0, none⟩)] #[], .string (str r)] w (PPost REx N G o q w) := by
  have HQ0 := Lib.hid (show bindP (wantP l ts) (fun _ ts => bindP (P o ts) fun x ts => bindP (wantP r ts) fun _ ts => some (.ok x ts)) = some q from hq); have HP0 := Lib.hid h; have HK0 := Lib.hid (KeptN.refl N w); have HJ0 := Lib.hid (KeptN.refl N (w.alloc (.cells #[.int .i64 0, .string ⟨#[]⟩, .int .i64 0, .slice none 0 0, .slice none 0 0] 37))); have HG := Lib.hid hg; have hN := h.lt; have hG := h.2.2.1; clear h hq hg; go_enter Tryz.func207, Tryz.ntmps207
  go_wp2_with (first
    | (go_at_call 82; rcases bindP_some HQ0.out with ⟨f, hf, rfl⟩ | ⟨x1, ts1, h1, hq1⟩
       · (with_reducible refine (want_any l N G o _ _ hf _ (HP0.out.under ((Below.refl _ _).alloc (by simp) _))).mono ?_); rintro e w7 ⟨rfl, hk7⟩; exact ⟨rfl, rfl, (HK0.out.alloc _).trans hk7⟩
       (with_reducible refine (want_any l N G o _ _ h1 _ (HP0.out.under ((Below.refl _ _).alloc (by simp) _))).mono ?_); rintro e w7 ⟨v1, rfl, hr7, hp7, hk7⟩; obtain ⟨V1, rfl⟩ : ∃ W, W = w7 := ⟨_, rfl⟩; have HQ1 := Lib.hid hq1; have HP1 := Lib.hid hp7; have HK1 := Lib.hid ((HK0.out.alloc _).trans hk7); have HJ1 := Lib.hid (HJ0.out.trans hk7); cases hr7; have HN1 := Lib.hid HP1.out.lt; clear hq1 hp7 hk7 h1)
    | (go_at_fn g
       rcases bindP_some HQ1.out with ⟨f, hf, rfl⟩ | ⟨x2, ts2, h2, hq2⟩
       · (with_reducible refine (HG.out N G o _ _ hf _ HP1.out).mono ?_); rintro e w7 ⟨rfl, hk7⟩; exact ⟨rfl, rfl, HK1.out.trans hk7⟩
       (with_reducible refine (HG.out N G o _ _ h2 _ HP1.out).mono ?_); rintro e w7 ⟨v2, rfl, hr7, hp7, hk7⟩; obtain ⟨V2, rfl⟩ : ∃ W, W = w7 := ⟨_, rfl⟩; have HQ2 := Lib.hid hq2; have HP2 := Lib.hid hp7; have HK2 := Lib.hid (HK1.out.trans hk7); have HJ2 := Lib.hid (HJ1.out.trans hk7); obtain ⟨L, rfl, hx⟩ := hr7; have HX := Lib.hid hx; obtain ⟨o1, s1, n1, A1, m1, k1, A2, m2, k2, rfl⟩ := hx.shape; have HN2 := Lib.hid HP2.out.lt; clear hx; clear hq2 hp7 hk7 h2)
    | (go_at_call 82; rcases bindP_some HQ2.out with ⟨f, hf, rfl⟩ | ⟨x3, ts3, h3, hq3⟩
       · (with_reducible refine (want_any r N G o _ _ hf _ (HP2.out.under ((Below.refl _ _).alloc (by simp) _))).mono ?_); rintro e w7 ⟨rfl, hk7⟩; exact ⟨rfl, rfl, (HK2.out.alloc _).trans hk7⟩
       (with_reducible refine (want_any r N G o _ _ h3 _ (HP2.out.under ((Below.refl _ _).alloc (by simp) _))).mono ?_); rintro e w7 ⟨v3, rfl, hr7, hp7, hk7⟩; obtain ⟨V3, rfl⟩ : ∃ W, W = w7 := ⟨_, rfl⟩; have HQ3 := Lib.hid hq3; have HP3 := Lib.hid hp7; have HK3 := Lib.hid ((HK2.out.alloc _).trans hk7); have HJ3 := Lib.hid ((HJ2.out.alloc _).trans hk7); cases hr7; cases HQ3.out; have HS3 := Lib.hid (((Same.refl V1.heap.size V2).alloc _).trans (hk7.same HN1.out)); have BX := Lib.hid (hk7.cells (heap_alloc_new V2 (.cells #[.int .i64 o1, .string s1, .int .i64 n1, .slice A1 m1 k1, .slice A2 m2 k2] 37)) (by have := HN2.out; omega)); have BR := Lib.hid (HJ3.out.cells (heap_alloc_new w (.cells #[.int .i64 0, .string ⟨#[]⟩, .int .i64 0, .slice none 0 0, .slice none 0 0] 37)) (by omega)); obtain ⟨x0, x1, x2, x3, x4⟩ := row5 BX.out; obtain ⟨r0, r1, r2, r3, r4⟩ := row5 BR.out; have f0 := row_frozen BR.out 0; have f1 := row_frozen BR.out 1; have f2 := row_frozen BR.out 2; have f3 := row_frozen BR.out 3; have f4 := row_frozen BR.out 4; clear hq3 hp7 hk7 h3))
  have hs1 : w.heap.size < V1.heap.size := (by have := HJ1.out.size; simp at this; omega); exact bodyPost_ret (encE_results rfl (set_row5 _ _ _ _ _ BR.out)) rfl ⟨_, rfl, ⟨_, rfl, HX.out.lift (HS3.out.set5 (.inl hs1) _ _ _ _ _) HK1.out.size⟩, HP3.out.set5 (by omega) (by omega) _ _ _ _ _, HK3.out.set5 (Nat.le_refl _) _ _ _ _ _⟩
end Go.Proofs.YtlhmdjhfmhkllaaGreatDoor
