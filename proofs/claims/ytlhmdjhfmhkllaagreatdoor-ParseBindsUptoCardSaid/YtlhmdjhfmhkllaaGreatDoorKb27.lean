/-
  Texts joined.
-/
import Derived.Test.YtlhmdjhfmhkllaaGreatDoorKb25
import Derived.Test.YtlhmdjhfmhkllaaGreatDoorKb26
namespace Go.Proofs.YtlhmdjhfmhkllaaGreatDoor
open Go.RowKit
set_option maxHeartbeats 2000000 in
set_option maxRecDepth 100000 in
theorem enclosedL_any {g : FuncId} {P : Nat → List Tok → Pr (List Ex)} (eg : ∀ (args : Array Value) (W : World), (callFunc g args).run Tryz.prog W = .ok (.enter g args) W) (hg : PartOk g RExs P) (l r : Tx) (N G o : Nat) (ts : List Tok) (q : Out (List Ex)) (hq : enclosedP l (P o) r ts = some q) (w : World) (h : PState w N G ts o) :
    Calls Tryz.prog 222 #[.pointer (some ⟨N, 0, none⟩), .string (str l), .func (.func g) #[.pointer (some ⟨N, 0, none⟩)] #[], .string (str r)] w (PPost RExs N G o q w) := by
  have HQ0 := Lib.hid (show bindP (wantP l ts) (fun _ ts => bindP (P o ts) fun x ts => bindP (wantP r ts) fun _ ts => some (.ok x ts)) = some q from hq); have HP0 := Lib.hid h; have HK0 := Lib.hid (KeptN.refl N w); have HJ0 := Lib.hid (KeptN.refl N w); have HG := Lib.hid hg; have hN := h.lt; have hG := h.2.2.1; clear h hq hg; go_enter Tryz.func222, Tryz.ntmps222
  go_wp2_with (first
    | (go_at_call 82; rcases bindP_some HQ0.out with ⟨f, hf, rfl⟩ | ⟨x1, ts1, h1, hq1⟩
       · (with_reducible refine (want_any l N G o _ _ hf _ HP0.out).mono ?_); rintro e w7 ⟨rfl, hk7⟩; exact ⟨rfl, rfl, HK0.out.trans hk7⟩
       (with_reducible refine (want_any l N G o _ _ h1 _ HP0.out).mono ?_); rintro e w7 ⟨v1, rfl, hr7, hp7, hk7⟩; obtain ⟨V1, rfl⟩ : ∃ W, W = w7 := ⟨_, rfl⟩; have HQ1 := Lib.hid hq1; have HP1 := Lib.hid hp7; have HK1 := Lib.hid (HK0.out.trans hk7); have HJ1 := Lib.hid (HJ0.out.trans hk7); cases hr7; have HN1 := Lib.hid HP1.out.lt; clear hq1 hp7 hk7 h1)
    | (go_at_fn g
       rcases bindP_some HQ1.out with ⟨f, hf, rfl⟩ | ⟨x2, ts2, h2, hq2⟩
       · (with_reducible refine (HG.out N G o _ _ hf _ HP1.out).mono ?_); rintro e w7 ⟨rfl, hk7⟩; exact ⟨rfl, rfl, HK1.out.trans hk7⟩
       (with_reducible refine (HG.out N G o _ _ h2 _ HP1.out).mono ?_); rintro e w7 ⟨v2, rfl, hr7, hp7, hk7⟩; obtain ⟨V2, rfl⟩ : ∃ W, W = w7 := ⟨_, rfl⟩; have HQ2 := Lib.hid hq2; have HP2 := Lib.hid hp7; have HK2 := Lib.hid (HK1.out.trans hk7); have HJ2 := Lib.hid (HJ1.out.trans hk7); have HR2 := Lib.hid hr7; clear hq2 hp7 hk7 h2)
    | (go_at_call 82; rcases bindP_some HQ2.out with ⟨f, hf, rfl⟩ | ⟨x3, ts3, h3, hq3⟩
       · (with_reducible refine (want_any r N G o _ _ hf _ HP2.out).mono ?_); rintro e w7 ⟨rfl, hk7⟩; exact ⟨rfl, rfl, HK2.out.trans hk7⟩
       (with_reducible refine (want_any r N G o _ _ h3 _ HP2.out).mono ?_); rintro e w7 ⟨v3, rfl, hr7, hp7, hk7⟩; obtain ⟨V3, rfl⟩ : ∃ W, W = w7 := ⟨_, rfl⟩; have HQ3 := Lib.hid hq3; have HP3 := Lib.hid hp7; have HK3 := Lib.hid (HK2.out.trans hk7); have HJ3 := Lib.hid (HJ2.out.trans hk7); cases hr7; cases HQ3.out; have HS3 := Lib.hid (hk7.same HN1.out); clear hq3 hp7 hk7 h3))
  go_ret; exact ⟨_, rfl, HR2.out.lift HS3.out HK1.out.size, HP3.out, HK3.out⟩
set_option maxHeartbeats 2000000 in
set_option maxRecDepth 100000 in
theorem enclosedA_any {g : FuncId} {P : Nat → List Tok → Pr (List (Tx × Ex))} (eg : ∀ (args : Array Value) (W : World), (callFunc g args).run Tryz.prog W = .ok (.enter g args) W) (hg : PartOk g RArms P) (l r : Tx) (N G o : Nat) (ts : List Tok) (q : Out (List (Tx × Ex))) (hq : enclosedP l (P o) r ts = some q) (w : World) (h : PState w N G ts o) :
    Calls Tryz.prog 224 #[.pointer (some ⟨N, 0, none⟩), .string (str l), .func (.func g) #[.pointer (some ⟨N, 0, none⟩)] #[], .string (str r)] w (PPost RArms N G o q w) := by
  have HQ0 := Lib.hid (show bindP (wantP l ts) (fun _ ts => bindP (P o ts) fun x ts => bindP (wantP r ts) fun _ ts => some (.ok x ts)) = some q from hq); have HP0 := Lib.hid h; have HK0 := Lib.hid (KeptN.refl N w); have HJ0 := Lib.hid (KeptN.refl N w); have HG := Lib.hid hg; have hN := h.lt; have hG := h.2.2.1; clear h hq hg; go_enter Tryz.func224, Tryz.ntmps224
  go_wp2_with (first
    | (go_at_call 82; rcases bindP_some HQ0.out with ⟨f, hf, rfl⟩ | ⟨x1, ts1, h1, hq1⟩
       · (with_reducible refine (want_any l N G o _ _ hf _ HP0.out).mono ?_); rintro e w7 ⟨rfl, hk7⟩; exact ⟨rfl, rfl, HK0.out.trans hk7⟩
       (with_reducible refine (want_any l N G o _ _ h1 _ HP0.out).mono ?_); rintro e w7 ⟨v1, rfl, hr7, hp7, hk7⟩; obtain ⟨V1, rfl⟩ : ∃ W, W = w7 := ⟨_, rfl⟩; have HQ1 := Lib.hid hq1; have HP1 := Lib.hid hp7; have HK1 := Lib.hid (HK0.out.trans hk7); have HJ1 := Lib.hid (HJ0.out.trans hk7); cases hr7; have HN1 := Lib.hid HP1.out.lt; clear hq1 hp7 hk7 h1)
    | (go_at_fn g
       rcases bindP_some HQ1.out with ⟨f, hf, rfl⟩ | ⟨x2, ts2, h2, hq2⟩
       · (with_reducible refine (HG.out N G o _ _ hf _ HP1.out).mono ?_); rintro e w7 ⟨rfl, hk7⟩; exact ⟨rfl, rfl, HK1.out.trans hk7⟩
       (with_reducible refine (HG.out N G o _ _ h2 _ HP1.out).mono ?_); rintro e w7 ⟨v2, rfl, hr7, hp7, hk7⟩; obtain ⟨V2, rfl⟩ : ∃ W, W = w7 := ⟨_, rfl⟩; have HQ2 := Lib.hid hq2; have HP2 := Lib.hid hp7; have HK2 := Lib.hid (HK1.out.trans hk7); have HJ2 := Lib.hid (HJ1.out.trans hk7); have HR2 := Lib.hid hr7; clear hq2 hp7 hk7 h2)
    | (go_at_call 82; rcases bindP_some HQ2.out with ⟨f, hf, rfl⟩ | ⟨x3, ts3, h3, hq3⟩
       · (with_reducible refine (want_any r N G o _ _ hf _ HP2.out).mono ?_); rintro e w7 ⟨rfl, hk7⟩; exact ⟨rfl, rfl, HK2.out.trans hk7⟩
       (with_reducible refine (want_any r N G o _ _ h3 _ HP2.out).mono ?_); rintro e w7 ⟨v3, rfl, hr7, hp7, hk7⟩; obtain ⟨V3, rfl⟩ : ∃ W, W = w7 := ⟨_, rfl⟩; have HQ3 := Lib.hid hq3; have HP3 := Lib.hid hp7; have HK3 := Lib.hid (HK2.out.trans hk7); have HJ3 := Lib.hid (HJ2.out.trans hk7); cases hr7; cases HQ3.out; have HS3 := Lib.hid (hk7.same HN1.out); clear hq3 hp7 hk7 h3))
  go_ret; exact ⟨_, rfl, HR2.out.lift HS3.out HK1.out.size, HP3.out, HK3.out⟩
theorem enc_exprs {E : PrX} (HE : PartOk 31 REx (fun o ts => E ts o)) (N G o : Nat) (ts : List Tok) (q : Out (List Ex)) (hq : enclosedP openT (separatedP commaT fun ts => E ts o) shutT ts = some q) (w : World) (h : PState w N G ts o) : Calls Tryz.prog 222 #[.pointer (some ⟨N, 0, none⟩), .string ⟨#[40]⟩, .func (.func 223) #[.pointer (some ⟨N, 0, none⟩)] #[], .string ⟨#[41]⟩] w (PPost RExs N G o q w) :=
  enclosedL_any (P := fun o => separatedP commaT fun ts => E ts o) enter_exprs (exprs_any HE) openT shutT N G o ts q hq w h
theorem enc_arms {E : PrX} (HE : PartOk 31 REx (fun o ts => E ts o)) (N G o : Nat) (ts : List Tok) (q : Out (List (Tx × Ex))) (hq : enclosedP openT (separatedP barT (armP E o)) shutT ts = some q) (w : World) (h : PState w N G ts o) : Calls Tryz.prog 224 #[.pointer (some ⟨N, 0, none⟩), .string ⟨#[40]⟩, .func (.func 225) #[.pointer (some ⟨N, 0, none⟩)] #[], .string ⟨#[41]⟩] w (PPost RArms N G o q w) :=
  enclosedA_any (P := fun o => separatedP barT (armP E o)) enter_arms (parms_any HE) openT shutT N G o ts q hq w h
theorem enc_expr {E : PrX} (HE : PartOk 31 REx (fun o ts => E ts o)) (N G o : Nat) (ts : List Tok) (q : Out Ex) (hq : enclosedP openT (fun ts => E ts o) shutT ts = some q) (w : World) (h : PState w N G ts o) : Calls Tryz.prog 207 #[.pointer (some ⟨N, 0, none⟩), .string ⟨#[40]⟩, .func (.func 31) #[.pointer (some ⟨N, 0, none⟩)] #[], .string ⟨#[41]⟩] w (PPost REx N G o q w) :=
  enclosedE_any (P := fun o ts => E ts o) enter_expr HE openT shutT N G o ts q hq w h
theorem enc_name (N G o : Nat) (ts : List Tok) (q : Out Tx) (hq : enclosedP openT nameP shutT ts = some q) (w : World) (h : PState w N G ts o) : Calls Tryz.prog 194 #[.pointer (some ⟨N, 0, none⟩), .string ⟨#[40]⟩, .func (.func 83) #[.pointer (some ⟨N, 0, none⟩)] #[], .string ⟨#[41]⟩] w (PPost RStr N G o q w) :=
  enclosedT_any (P := fun _ => nameP) enter_name name_any openT shutT N G o ts q hq w h
set_option maxRecDepth 100000 in
theorem named_results {tmps : Array Value} {w : World} {N : Nat} {x0 x1 x2 x3 x4 : Value} (hp : tmps.getD 2 undef = .pointer (some ⟨N, 0, none⟩)) (hg : w.heap[N]? = some (.cells #[x0, x1, x2, x3, x4] 37 (0, 0))) :
    (results Tryz.f205 tmps).run Tryz.prog w = .ok (.agg #[x0, x1, x2, x3, x4]) w :=
  results_cell_row Tryz.results205 tmps w N 37 _ (0, 0) _ hp hg Tryz.underlying37 rfl tokres_infoE
set_option maxRecDepth 100000 in
set_option maxHeartbeats 2000000 in
theorem named_any {E : PrX} (HE : PartOk 31 REx (fun o ts => E ts o)) : PartOk 205 REx (fun o ts => namedP E o ts) := by
  intro N G o ts q hq w h; have HQ0 := Lib.hid (show bindP (nameP ts) (fun n ts => if ts = [] then none else if atP openB ts = false ∧ atP openT ts = false then some (.ok (.mk 4 n 0 [] []) ts) else bindP (staticsP ts) fun cs ts => bindP (enclosedP openT (separatedP commaT fun ts => E ts o) shutT ts) fun ks ts => some (.ok (.mk 14 n 0 cs ks) ts)) = some q from hq); have HP0 := Lib.hid h; have HK0 := Lib.hid (KeptN.refl N w); have HJ0 := Lib.hid (KeptN.refl N (w.alloc (.cells #[.int .i64 0, .string ⟨#[]⟩, .int .i64 0, .slice none 0 0, .slice none 0 0] 37))); have HEE := Lib.hid HE; have hmf := make_fn; have hN := h.lt; have hG := h.2.2.1; clear h hq HE; go_enter Tryz.func205, Tryz.ntmps205
  go_wp2_with (go_at_call 83
               rcases bindP_some HQ0.out with ⟨f, hf, rfl⟩ | ⟨x1, ts1, h1, hq1⟩
               · (with_reducible refine (name_any N G o _ _ hf _ (HP0.out.under (((Below.refl _ _).alloc (by simp) _)))).mono ?_); rintro e w7 ⟨rfl, hk7⟩; exact ⟨rfl, rfl, (HK0.out.alloc _).trans hk7⟩
               (with_reducible refine (name_any N G o _ _ h1 _ (HP0.out.under (((Below.refl _ _).alloc (by simp) _)))).mono ?_); rintro e w7 ⟨v1, rfl, hr7, hp7, hk7⟩; obtain ⟨V1, rfl⟩ : ∃ W, W = w7 := ⟨_, rfl⟩; have HQ1 := Lib.hid hq1; have HP1 := Lib.hid hp7; have HK1 := Lib.hid ((HK0.out.alloc _).trans hk7); have HJ1 := Lib.hid (HJ0.out.trans hk7); obtain ⟨rfl, hxl⟩ := hr7; have HX1 := Lib.hid hxl; clear hxl; have BR := Lib.hid (hk7.cells (heap_alloc_new w (.cells #[.int .i64 0, .string ⟨#[]⟩, .int .i64 0, .slice none 0 0, .slice none 0 0] 37)) (by omega)); obtain ⟨r0, r1, r2, r3, r4⟩ := row5 BR.out; have hs1 : w.heap.size < V1.heap.size := lt_of_heap BR.out; have f0 := row_frozen BR.out 0; have f1 := row_frozen BR.out 1; have f2 := row_frozen BR.out 2; have f3 := row_frozen BR.out 3; have f4 := row_frozen BR.out 4; clear hq1 hp7 hk7 h1)
  have BR1 := BR; have hq1 : (if ts1 = [] then none else if atP openB ts1 = false ∧ atP openT ts1 = false then some (.ok (.mk 4 x1 0 [] []) ts1) else bindP (staticsP ts1) fun cs ts => bindP (enclosedP openT (separatedP commaT fun ts => E ts o) shutT ts) fun ks ts => some (.ok (.mk 14 x1 0 cs ks) ts)) = some q := HQ1.out; clear HQ1 HQ0 BR; cases ts1 with
  | nil => rw [if_pos rfl] at hq1; cases hq1
  | cons t r =>
    rw [if_neg (List.cons_ne_nil _ _)] at hq1; by_cases hb : t.text = openB
    · rw [if_neg (by show ¬ (decide (t.text = openB) = false ∧ _); simp [hb])] at hq1; refine Calls.mono (by have := at_openB HP1.out; rwa [decide_eq_true hb] at this) ?_; rintro e w7 ⟨rfl, hb7⟩; obtain ⟨V2, rfl⟩ : ∃ W, W = w7 := ⟨_, rfl⟩; have HP2 := Lib.hid (HP1.out.under hb7); have HK2 := Lib.hid (HK1.out.trans (KeptN.of_below hb7)); have HJ2 := Lib.hid (HJ1.out.trans (KeptN.of_below hb7)); have BR2 := Lib.hid ((hb7.block _ (lt_of_heap BR1.out)).trans BR1.out); obtain ⟨r0, r1, r2, r3, r4⟩ := row5 BR2.out; have f0 := row_frozen BR2.out 0; have f1 := row_frozen BR2.out 1; have f2 := row_frozen BR2.out 2; have f3 := row_frozen BR2.out 3; have f4 := row_frozen BR2.out 4; clear hb7; clear hb; have HQ2 := Lib.hid hq1; clear hq1
      go_wp2_with (first
        | (go_at_call 86; rcases bindP_some HQ2.out with ⟨f, hf, rfl⟩ | ⟨x4, ts4, h4, hq4⟩
           · (with_reducible refine (pstatics_any N G o _ _ hf _ HP2.out).mono ?_); rintro e w7 ⟨rfl, hk7⟩; exact ⟨rfl, rfl, HK2.out.trans hk7⟩
           (with_reducible refine (pstatics_any N G o _ _ h4 _ HP2.out).mono ?_); rintro e w7 ⟨v4, rfl, hr7, hp7, hk7⟩; obtain ⟨V4, rfl⟩ : ∃ W, W = w7 := ⟨_, rfl⟩; have HQ4 := Lib.hid hq4; have HP4 := Lib.hid hp7; have HK4 := Lib.hid (HK2.out.trans hk7); have HJ4 := Lib.hid (HJ2.out.trans hk7); obtain ⟨A4, c4, rfl, hz4⟩ := hr7; have HS4 := Lib.hid (show RStrs (newW V2.heap.size V4) (.slice A4 x4.length c4) x4 from ⟨_, _, rfl, hz4⟩); clear hz4; have BR4 := Lib.hid (hk7.cells BR2.out (by omega)); clear hq4 hp7 hk7 h4)
        | (go_at_call 222; rcases bindP_some HQ4.out with ⟨f, hf, rfl⟩ | ⟨x5, ts5, h5, hq5⟩
           · (with_reducible refine (enc_exprs HEE.out N G o _ _ hf _ HP4.out).mono ?_); rintro e w7 ⟨rfl, hk7⟩; exact ⟨rfl, rfl, HK4.out.trans hk7⟩
           (with_reducible refine (enc_exprs HEE.out N G o _ _ h5 _ HP4.out).mono ?_); rintro e w7 ⟨v5, rfl, hr7, hp7, hk7⟩; obtain ⟨V5, rfl⟩ : ∃ W, W = w7 := ⟨_, rfl⟩; have HQ5 := Lib.hid hq5; have HP5 := Lib.hid hp7; have HK5 := Lib.hid (HK4.out.trans hk7); have HJ5 := Lib.hid (HJ4.out.trans hk7); cases HQ5.out; obtain ⟨A5, c5, rfl, hz5⟩ := hr7; have HS5 := Lib.hid (show RExs (newW V4.heap.size V5) (.slice A5 x5.length c5) x5 from ⟨_, _, rfl, hz5⟩); clear hz5; have HM5 := Lib.hid hk7; have hs4 : w.heap.size < V4.heap.size := lt_of_heap BR4.out; have BR5 := Lib.hid (hk7.cells BR4.out (by omega)); obtain ⟨r0, r1, r2, r3, r4⟩ := row5 BR5.out; have f0 := row_frozen BR5.out 0; have f1 := row_frozen BR5.out 1; have f2 := row_frozen BR5.out 2; have f3 := row_frozen BR5.out 3; have f4 := row_frozen BR5.out 4; clear hq5 hp7 hk7 h5))
      have hsp : w.heap.size < V2.heap.size := lt_of_heap BR2.out; have hNp : N < V2.heap.size := (by omega); exact bodyPost_ret (named_results rfl (set_row5 _ _ _ _ _ BR5.out)) rfl ⟨_, rfl, ⟨[.int .i64 14, .string (str x1), .int .i64 0, .slice A4 x4.length c4, .slice A5 x5.length c5], rfl, ex_node (by constructor <;> omega) (by constructor <;> omega) HX1.out (HS4.out.lift ((HM5.out.same hNp).set5 (.inl hsp) _ _ _ _ _) (Nat.le_of_lt hsp)) (HS5.out.lift ((Same.refl V4.heap.size V5).set5 (.inl hs4) _ _ _ _ _) (Nat.le_of_lt hs4))⟩, HP5.out.set5 (by omega) (by omega) _ _ _ _ _, HK5.out.set5 (Nat.le_refl _) _ _ _ _ _⟩
    · by_cases hc : t.text = openT
      · rw [if_neg (by show ¬ (_ ∧ decide (t.text = openT) = false); simp [hc])] at hq1; refine Calls.mono (by have := at_openB HP1.out; rwa [decide_eq_false hb] at this) ?_; rintro e w7 ⟨rfl, hb7⟩; obtain ⟨V2, rfl⟩ : ∃ W, W = w7 := ⟨_, rfl⟩; have HP2 := Lib.hid (HP1.out.under hb7); have HK2 := Lib.hid (HK1.out.trans (KeptN.of_below hb7)); have HJ2 := Lib.hid (HJ1.out.trans (KeptN.of_below hb7)); have BR2 := Lib.hid ((hb7.block _ (lt_of_heap BR1.out)).trans BR1.out); obtain ⟨r0, r1, r2, r3, r4⟩ := row5 BR2.out; have f0 := row_frozen BR2.out 0; have f1 := row_frozen BR2.out 1; have f2 := row_frozen BR2.out 2; have f3 := row_frozen BR2.out 3; have f4 := row_frozen BR2.out 4; clear hb7; go_wp2_with fail
        refine Calls.mono (by have := at_open HP2.out; rwa [decide_eq_true hc] at this) ?_; rintro e w7 ⟨rfl, hb7⟩; obtain ⟨V3, rfl⟩ : ∃ W, W = w7 := ⟨_, rfl⟩; have HP3 := Lib.hid (HP2.out.under hb7); have HK3 := Lib.hid (HK2.out.trans (KeptN.of_below hb7)); have HJ3 := Lib.hid (HJ2.out.trans (KeptN.of_below hb7)); have BR3 := Lib.hid ((hb7.block _ (lt_of_heap BR2.out)).trans BR2.out); obtain ⟨r0, r1, r2, r3, r4⟩ := row5 BR3.out; have f0 := row_frozen BR3.out 0; have f1 := row_frozen BR3.out 1; have f2 := row_frozen BR3.out 2; have f3 := row_frozen BR3.out 3; have f4 := row_frozen BR3.out 4; clear hb7; clear hb hc; have HQ3 := Lib.hid hq1; clear hq1
        go_wp2_with (first
          | (go_at_call 86; rcases bindP_some HQ3.out with ⟨f, hf, rfl⟩ | ⟨x4, ts4, h4, hq4⟩
             · (with_reducible refine (pstatics_any N G o _ _ hf _ HP3.out).mono ?_); rintro e w7 ⟨rfl, hk7⟩; exact ⟨rfl, rfl, HK3.out.trans hk7⟩
             (with_reducible refine (pstatics_any N G o _ _ h4 _ HP3.out).mono ?_); rintro e w7 ⟨v4, rfl, hr7, hp7, hk7⟩; obtain ⟨V4, rfl⟩ : ∃ W, W = w7 := ⟨_, rfl⟩; have HQ4 := Lib.hid hq4; have HP4 := Lib.hid hp7; have HK4 := Lib.hid (HK3.out.trans hk7); have HJ4 := Lib.hid (HJ3.out.trans hk7); obtain ⟨A4, c4, rfl, hz4⟩ := hr7; have HS4 := Lib.hid (show RStrs (newW V3.heap.size V4) (.slice A4 x4.length c4) x4 from ⟨_, _, rfl, hz4⟩); clear hz4; have BR4 := Lib.hid (hk7.cells BR3.out (by omega)); clear hq4 hp7 hk7 h4)
          | (go_at_call 222; rcases bindP_some HQ4.out with ⟨f, hf, rfl⟩ | ⟨x5, ts5, h5, hq5⟩
             · (with_reducible refine (enc_exprs HEE.out N G o _ _ hf _ HP4.out).mono ?_); rintro e w7 ⟨rfl, hk7⟩; exact ⟨rfl, rfl, HK4.out.trans hk7⟩
             (with_reducible refine (enc_exprs HEE.out N G o _ _ h5 _ HP4.out).mono ?_); rintro e w7 ⟨v5, rfl, hr7, hp7, hk7⟩; obtain ⟨V5, rfl⟩ : ∃ W, W = w7 := ⟨_, rfl⟩; have HQ5 := Lib.hid hq5; have HP5 := Lib.hid hp7; have HK5 := Lib.hid (HK4.out.trans hk7); have HJ5 := Lib.hid (HJ4.out.trans hk7); cases HQ5.out; obtain ⟨A5, c5, rfl, hz5⟩ := hr7; have HS5 := Lib.hid (show RExs (newW V4.heap.size V5) (.slice A5 x5.length c5) x5 from ⟨_, _, rfl, hz5⟩); clear hz5; have HM5 := Lib.hid hk7; have hs4 : w.heap.size < V4.heap.size := lt_of_heap BR4.out; have BR5 := Lib.hid (hk7.cells BR4.out (by omega)); obtain ⟨r0, r1, r2, r3, r4⟩ := row5 BR5.out; have f0 := row_frozen BR5.out 0; have f1 := row_frozen BR5.out 1; have f2 := row_frozen BR5.out 2; have f3 := row_frozen BR5.out 3; have f4 := row_frozen BR5.out 4; clear hq5 hp7 hk7 h5))
        have hsp : w.heap.size < V3.heap.size := lt_of_heap BR3.out; have hNp : N < V3.heap.size := (by omega); exact bodyPost_ret (named_results rfl (set_row5 _ _ _ _ _ BR5.out)) rfl ⟨_, rfl, ⟨[.int .i64 14, .string (str x1), .int .i64 0, .slice A4 x4.length c4, .slice A5 x5.length c5], rfl, ex_node (by constructor <;> omega) (by constructor <;> omega) HX1.out (HS4.out.lift ((HM5.out.same hNp).set5 (.inl hsp) _ _ _ _ _) (Nat.le_of_lt hsp)) (HS5.out.lift ((Same.refl V4.heap.size V5).set5 (.inl hs4) _ _ _ _ _) (Nat.le_of_lt hs4))⟩, HP5.out.set5 (by omega) (by omega) _ _ _ _ _, HK5.out.set5 (Nat.le_refl _) _ _ _ _ _⟩
      · rw [if_pos ⟨decide_eq_false hb, decide_eq_false hc⟩] at hq1; cases hq1; refine Calls.mono (by have := at_openB HP1.out; rwa [decide_eq_false hb] at this) ?_; rintro e w7 ⟨rfl, hb7⟩; obtain ⟨V2, rfl⟩ : ∃ W, W = w7 := ⟨_, rfl⟩; have HP2 := Lib.hid (HP1.out.under hb7); have HK2 := Lib.hid (HK1.out.trans (KeptN.of_below hb7)); have HJ2 := Lib.hid (HJ1.out.trans (KeptN.of_below hb7)); have BR2 := Lib.hid ((hb7.block _ (lt_of_heap BR1.out)).trans BR1.out); obtain ⟨r0, r1, r2, r3, r4⟩ := row5 BR2.out; have f0 := row_frozen BR2.out 0; have f1 := row_frozen BR2.out 1; have f2 := row_frozen BR2.out 2; have f3 := row_frozen BR2.out 3; have f4 := row_frozen BR2.out 4; clear hb7; go_wp2_with fail
        refine Calls.mono (by have := at_open HP2.out; rwa [decide_eq_false hc] at this) ?_; rintro e w7 ⟨rfl, hb7⟩; obtain ⟨V3, rfl⟩ : ∃ W, W = w7 := ⟨_, rfl⟩; have HP3 := Lib.hid (HP2.out.under hb7); have HK3 := Lib.hid (HK2.out.trans (KeptN.of_below hb7)); have HJ3 := Lib.hid (HJ2.out.trans (KeptN.of_below hb7)); have BR3 := Lib.hid ((hb7.block _ (lt_of_heap BR2.out)).trans BR2.out); obtain ⟨r0, r1, r2, r3, r4⟩ := row5 BR3.out; have f0 := row_frozen BR3.out 0; have f1 := row_frozen BR3.out 1; have f2 := row_frozen BR3.out 2; have f3 := row_frozen BR3.out 3; have f4 := row_frozen BR3.out 4; clear hb7; clear hb hc; go_wp2_with fail
        exact bodyPost_ret (named_results rfl (set_row5 _ _ _ _ _ BR3.out)) rfl ⟨_, rfl, ⟨_, rfl, ex_leaf _ (by constructor <;> omega) (by constructor <;> omega) HX1.out⟩, HP3.out.set5 (by omega) (by omega) _ _ _ _ _, HK3.out.set5 (Nat.le_refl _) _ _ _ _ _⟩
end Go.Proofs.YtlhmdjhfmhkllaaGreatDoor

namespace Go.Proofs.YtlhmdjhfmhkllaaGreatDoor
open Go.RowKit
theorem i64_12 : i64B 12 := by constructor <;> omega
theorem i64_13 : i64B 13 := by constructor <;> omega
set_option maxRecDepth 100000 in
theorem atom_results {tmps : Array Value} {w : World} {N : Nat} {x0 x1 x2 x3 x4 : Value} (hp : tmps.getD 2 undef = .pointer (some ⟨N, 0, none⟩)) (hg : w.heap[N]? = some (.cells #[x0, x1, x2, x3, x4] 37 (0, 0))) :
    (results Tryz.f193 tmps).run Tryz.prog w = .ok (.agg #[x0, x1, x2, x3, x4]) w :=
  results_cell_row Tryz.results193 tmps w N 37 _ (0, 0) _ hp hg Tryz.underlying37 rfl tokres_infoE
set_option maxRecDepth 100000 in
set_option maxHeartbeats 4000000 in
theorem atom_any {E : PrX} (HE : PartOk 31 REx (fun o ts => E ts o)) (HC : ∀ (k : Int), i64B k → ∀ (N G o : Nat) (ts : List Tok) (q : Out Ex), choicesP E k o ts = some q → ∀ w, PState w N G ts o → Calls Tryz.prog 206 #[.pointer (some ⟨N, 0, none⟩), .int .i64 k] w (PPost REx N G o q w)) : PartOk 193 REx (fun o ts => atomP E o ts) := by
  intro N G o ts q hq w h; have hq : atomP E o ts = some q := hq; have HP0 := Lib.hid h; have HEE := Lib.hid HE; have HCC := Lib.hid HC; have hN := h.lt; have hG := h.2.2.1; have j0 := tok_f0; have j1 := tok_f1; have j2 := tok_f2; have hmf := make_fn; clear HE HC; cases ts with
  | nil => cases hq
  | cons t r =>
    have HTN := Lib.hid (by obtain ⟨_, _, _, _, _, _, _, _, _, _, _, _, _, h⟩ := h.head; exact h : i64B t.num); clear h; rw [atomP] at hq; by_cases h0 : t.sort = 3
    · rw [if_pos h0] at hq; have hr : r ≠ [] := fun e => by rw [if_pos e] at hq; cases hq
      rw [if_neg hr] at hq; cases hq; have b0 : (t.sort == 3) = true := (by simp [h0]); clear h0; go_enter Tryz.func193, Tryz.ntmps193
      go_wp2_with (first
        | (go_at_call 40; (with_reducible refine (next_any (HP0.out.under ((Below.refl _ _).alloc (Nat.le_refl _) _))).mono ?_); rintro e w7 ⟨rfl, hb7⟩; obtain ⟨V1, rfl⟩ : ∃ W, W = w7 := ⟨_, rfl⟩; have HK1 := Lib.hid (KeptN.of_below (N := N) ((Below.refl w.heap.size w).alloc (Nat.le_refl _) (.cells #[.int .i64 0, .string ⟨#[]⟩, .int .i64 0, .slice none 0 0, .slice none 0 0] 37) |>.trans (hb7.mono (by simp)))); have HJ1 := Lib.hid (KeptN.of_below (N := N) hb7); have HP1 := Lib.hid ((HP0.out.under ((Below.refl _ _).alloc (Nat.le_refl _) _)).under hb7); simp only [Tok.cells]; clear hb7)
        | (go_at_call 113; (with_reducible refine (take_any HP1.out hr).mono ?_); rintro e w7 ⟨rfl, hp7, hk7⟩; obtain ⟨V2, rfl⟩ : ∃ W, W = w7 := ⟨_, rfl⟩; have HK2 := Lib.hid (HK1.out.trans hk7); have HJ2 := Lib.hid (HJ1.out.trans hk7); have HP2 := Lib.hid hp7; have BR := Lib.hid (HJ2.out.cells (heap_alloc_new w (.cells #[.int .i64 0, .string ⟨#[]⟩, .int .i64 0, .slice none 0 0, .slice none 0 0] 37)) (by omega)); obtain ⟨r0, r1, r2, r3, r4⟩ := row5 BR.out; have f0 := row_frozen BR.out 0; have f1 := row_frozen BR.out 1; have f2 := row_frozen BR.out 2; have f3 := row_frozen BR.out 3; have f4 := row_frozen BR.out 4; simp only [Tok.cells]; clear hp7 hk7))
      exact bodyPost_ret (atom_results rfl (set_row5 _ _ _ _ _ BR.out)) rfl ⟨_, rfl, ⟨_, rfl, ex_leaf (nm := []) _ (by constructor <;> omega) HTN.out (by simp [maxLen])⟩, HP2.out.set5 (by omega) (by omega) _ _ _ _ _, HK2.out.set5 (Nat.le_refl _) _ _ _ _ _⟩
    rw [if_neg h0] at hq; by_cases h1 : t.sort = 2
    · rw [if_pos h1] at hq; have HQ1 := Lib.hid hq; have b0 : (t.sort == 3) = false := (by simp [h0]); have b1 : (t.sort == 2) = true := (by simp [h1]); clear h0 h1; clear hq; go_enter Tryz.func193, Tryz.ntmps193
      go_wp2_with (first
        | (go_at_call 40; (with_reducible refine (next_any (HP0.out.under ((Below.refl _ _).alloc (Nat.le_refl _) _))).mono ?_); rintro e w7 ⟨rfl, hb7⟩; obtain ⟨V1, rfl⟩ : ∃ W, W = w7 := ⟨_, rfl⟩; have HK1 := Lib.hid (KeptN.of_below (N := N) ((Below.refl w.heap.size w).alloc (Nat.le_refl _) (.cells #[.int .i64 0, .string ⟨#[]⟩, .int .i64 0, .slice none 0 0, .slice none 0 0] 37) |>.trans (hb7.mono (by simp)))); have HJ1 := Lib.hid (KeptN.of_below (N := N) hb7); have HP1 := Lib.hid ((HP0.out.under ((Below.refl _ _).alloc (Nat.le_refl _) _)).under hb7); simp only [Tok.cells]; clear hb7)
        | (go_at_call 85; rcases bindP_some HQ1.out with ⟨f, hf, rfl⟩ | ⟨x2, ts2, h2, hq2⟩
           · (with_reducible refine (con_any N G o _ _ hf _ HP1.out).mono ?_); rintro e w7 ⟨rfl, hk7⟩; exact ⟨rfl, rfl, HK1.out.trans hk7⟩
           (with_reducible refine (con_any N G o _ _ h2 _ HP1.out).mono ?_); rintro e w7 ⟨v2, rfl, hr7, hp7, hk7⟩; obtain ⟨V2, rfl⟩ : ∃ W, W = w7 := ⟨_, rfl⟩; have HQ2 := Lib.hid hq2; have HP2 := Lib.hid hp7; have HK2 := Lib.hid (HK1.out.trans hk7); have HJ2 := Lib.hid (HJ1.out.trans hk7); obtain ⟨rfl, hxl⟩ := hr7; have HX2 := Lib.hid hxl; clear hxl; cases HQ2.out; have BR := Lib.hid (HJ2.out.cells (heap_alloc_new w (.cells #[.int .i64 0, .string ⟨#[]⟩, .int .i64 0, .slice none 0 0, .slice none 0 0] 37)) (by omega)); obtain ⟨r0, r1, r2, r3, r4⟩ := row5 BR.out; have f0 := row_frozen BR.out 0; have f1 := row_frozen BR.out 1; have f2 := row_frozen BR.out 2; have f3 := row_frozen BR.out 3; have f4 := row_frozen BR.out 4; clear hq2 hp7 hk7 h2))
      exact bodyPost_ret (atom_results rfl (set_row5 _ _ _ _ _ BR.out)) rfl ⟨_, rfl, ⟨_, rfl, ex_leaf (nm := x2) _ (by constructor <;> omega) (by constructor <;> omega) HX2.out⟩, HP2.out.set5 (by omega) (by omega) _ _ _ _ _, HK2.out.set5 (Nat.le_refl _) _ _ _ _ _⟩
    rw [if_neg h1] at hq; by_cases h2 : t.sort = 1
    · rw [if_pos h2] at hq; replace hq : bindP _ _ = some q := (bindP_id _).trans hq; have HQ1 := Lib.hid hq; have b0 : (t.sort == 3) = false := (by simp [h0]); have b1 : (t.sort == 2) = false := (by simp [h1]); have b2 : (t.sort == 1) = true := (by simp [h2]); clear h0 h1 h2; clear hq; go_enter Tryz.func193, Tryz.ntmps193
      go_wp2_with (first
        | (go_at_call 40; (with_reducible refine (next_any (HP0.out.under ((Below.refl _ _).alloc (Nat.le_refl _) _))).mono ?_); rintro e w7 ⟨rfl, hb7⟩; obtain ⟨V1, rfl⟩ : ∃ W, W = w7 := ⟨_, rfl⟩; have HK1 := Lib.hid (KeptN.of_below (N := N) ((Below.refl w.heap.size w).alloc (Nat.le_refl _) (.cells #[.int .i64 0, .string ⟨#[]⟩, .int .i64 0, .slice none 0 0, .slice none 0 0] 37) |>.trans (hb7.mono (by simp)))); have HJ1 := Lib.hid (KeptN.of_below (N := N) hb7); have HP1 := Lib.hid ((HP0.out.under ((Below.refl _ _).alloc (Nat.le_refl _) _)).under hb7); simp only [Tok.cells]; clear hb7)
        | (go_at_call 205; rcases bindP_some HQ1.out with ⟨f, hf, rfl⟩ | ⟨x2, ts2, h2, hq2⟩
           · (with_reducible refine (named_any HEE.out N G o _ _ hf _ HP1.out).mono ?_); rintro e w7 ⟨rfl, hk7⟩; exact ⟨rfl, rfl, HK1.out.trans hk7⟩
           (with_reducible refine (named_any HEE.out N G o _ _ h2 _ HP1.out).mono ?_); rintro e w7 ⟨v2, rfl, hr7, hp7, hk7⟩; obtain ⟨V2, rfl⟩ : ∃ W, W = w7 := ⟨_, rfl⟩; have HQ2 := Lib.hid hq2; have HP2 := Lib.hid hp7; have HK2 := Lib.hid (HK1.out.trans hk7); have HJ2 := Lib.hid (HJ1.out.trans hk7); obtain ⟨L2, rfl, hx⟩ := hr7; have HX2 := Lib.hid hx; obtain ⟨o2, s2, n2, A2, m2, k2, B2, j2, l2, rfl⟩ := hx.shape; clear hx; cases HQ2.out
           have g1 : w.heap.size < V1.heap.size := by have := HJ1.out.size; simp at this; omega
           have BR := Lib.hid (HJ2.out.cells (heap_alloc_new w (.cells #[.int .i64 0, .string ⟨#[]⟩, .int .i64 0, .slice none 0 0, .slice none 0 0] 37)) (by omega))
           obtain ⟨r0, r1, r2, r3, r4⟩ := row5 BR.out
           have f0 := row_frozen BR.out 0
           have f1 := row_frozen BR.out 1
           have f2 := row_frozen BR.out 2
           have f3 := row_frozen BR.out 3
           have f4 := row_frozen BR.out 4
           clear hq2 hp7 hk7 h2))
      exact bodyPost_ret (atom_results rfl (set_row5 _ _ _ _ _ BR.out)) rfl ⟨_, rfl, ⟨_, rfl, HX2.out.lift ((Same.refl V1.heap.size V2).set5 (.inl g1) _ _ _ _ _) (Nat.le_of_lt g1)⟩, (HP2.out.set5 (by omega) (by omega) _ _ _ _ _), HK2.out.set5 (Nat.le_refl _) _ _ _ _ _⟩
    rw [if_neg h2] at hq
    by_cases h3 : t.text = trueT
    · rw [if_pos h3] at hq
      have hr : r ≠ [] := fun e => by rw [if_pos e] at hq; cases hq
      rw [if_neg hr] at hq
      cases hq
      have b0 : (t.sort == 3) = false := by simp [h0]
      have b1 : (t.sort == 2) = false := by simp [h1]
      have b2 : (t.sort == 1) = false := by simp [h2]
      have b3 : ((str t.text).toList == [116, 114, 117, 101]) = true := text_is h3
      clear h0 h1 h2 h3
      go_enter Tryz.func193, Tryz.ntmps193
      go_wp2_with (first
        | (go_at_call 40
           (with_reducible refine (next_any (HP0.out.under ((Below.refl _ _).alloc (Nat.le_refl _) _))).mono ?_)
           rintro e w7 ⟨rfl, hb7⟩
           obtain ⟨V1, rfl⟩ : ∃ W, W = w7 := ⟨_, rfl⟩
           have HK1 := Lib.hid (KeptN.of_below (N := N) ((Below.refl w.heap.size w).alloc (Nat.le_refl _) (.cells #[.int .i64 0, .string ⟨#[]⟩, .int .i64 0, .slice none 0 0, .slice none 0 0] 37) |>.trans (hb7.mono (by simp))))
           have HJ1 := Lib.hid (KeptN.of_below (N := N) hb7)
           have HP1 := Lib.hid ((HP0.out.under ((Below.refl _ _).alloc (Nat.le_refl _) _)).under hb7)
           simp only [Tok.cells]
           clear hb7)
        | (go_at_call 40
           (with_reducible refine (next_any HP1.out).mono ?_)
           rintro e w7 ⟨rfl, hb7⟩
           obtain ⟨V2, rfl⟩ : ∃ W, W = w7 := ⟨_, rfl⟩
           have HK2 := Lib.hid (HK1.out.trans (KeptN.of_below hb7))
           have HJ2 := Lib.hid (HJ1.out.trans (KeptN.of_below hb7))
           have HP2 := Lib.hid (HP1.out.under hb7)
           simp only [Tok.cells]
           clear hb7)
        | (go_at_call 113
           (with_reducible refine (take_any HP2.out hr).mono ?_)
           rintro e w7 ⟨rfl, hp7, hk7⟩
           obtain ⟨V3, rfl⟩ : ∃ W, W = w7 := ⟨_, rfl⟩
           have HK3 := Lib.hid (HK2.out.trans hk7)
           have HJ3 := Lib.hid (HJ2.out.trans hk7)
           have HP3 := Lib.hid hp7
           have BR := Lib.hid (HJ3.out.cells (heap_alloc_new w (.cells #[.int .i64 0, .string ⟨#[]⟩, .int .i64 0, .slice none 0 0, .slice none 0 0] 37)) (by omega))
           obtain ⟨r0, r1, r2, r3, r4⟩ := row5 BR.out
           have f0 := row_frozen BR.out 0
           have f1 := row_frozen BR.out 1
           have f2 := row_frozen BR.out 2
           have f3 := row_frozen BR.out 3
           have f4 := row_frozen BR.out 4
           simp only [Tok.cells]
           clear hp7 hk7))
      exact bodyPost_ret (atom_results rfl (set_row5 _ _ _ _ _ BR.out)) rfl ⟨_, rfl, ⟨_, rfl, ex_leaf (nm := []) _ (by constructor <;> omega) (by constructor <;> omega) (by simp [maxLen])⟩, HP3.out.set5 (by omega) (by omega) _ _ _ _ _, HK3.out.set5 (Nat.le_refl _) _ _ _ _ _⟩
    rw [if_neg h3] at hq
    by_cases h4 : t.text = falseT
    · rw [if_pos h4] at hq
      have hr : r ≠ [] := fun e => by rw [if_pos e] at hq; cases hq
      rw [if_neg hr] at hq
      cases hq
      have b0 : (t.sort == 3) = false := by simp [h0]
      have b1 : (t.sort == 2) = false := by simp [h1]
      have b2 : (t.sort == 1) = false := by simp [h2]
      have b3 : ((str t.text).toList == [116, 114, 117, 101]) = false := text_not h3
      have b4 : ((str t.text).toList == [102, 97, 108, 115, 101]) = true := text_is h4
      clear h0 h1 h2 h3 h4
      go_enter Tryz.func193, Tryz.ntmps193
      go_wp2_with (first
        | (go_at_call 40
           (with_reducible refine (next_any (HP0.out.under ((Below.refl _ _).alloc (Nat.le_refl _) _))).mono ?_)
           rintro e w7 ⟨rfl, hb7⟩
           obtain ⟨V1, rfl⟩ : ∃ W, W = w7 := ⟨_, rfl⟩
           have HK1 := Lib.hid (KeptN.of_below (N := N) ((Below.refl w.heap.size w).alloc (Nat.le_refl _) (.cells #[.int .i64 0, .string ⟨#[]⟩, .int .i64 0, .slice none 0 0, .slice none 0 0] 37) |>.trans (hb7.mono (by simp))))
           have HJ1 := Lib.hid (KeptN.of_below (N := N) hb7)
           have HP1 := Lib.hid ((HP0.out.under ((Below.refl _ _).alloc (Nat.le_refl _) _)).under hb7)
           simp only [Tok.cells]
           clear hb7)
        | (go_at_call 40
           (with_reducible refine (next_any HP1.out).mono ?_)
           rintro e w7 ⟨rfl, hb7⟩
           obtain ⟨V2, rfl⟩ : ∃ W, W = w7 := ⟨_, rfl⟩
           have HK2 := Lib.hid (HK1.out.trans (KeptN.of_below hb7))
           have HJ2 := Lib.hid (HJ1.out.trans (KeptN.of_below hb7))
           have HP2 := Lib.hid (HP1.out.under hb7)
           simp only [Tok.cells]
           clear hb7)
        | (go_at_call 113
           (with_reducible refine (take_any HP2.out hr).mono ?_)
           rintro e w7 ⟨rfl, hp7, hk7⟩
           obtain ⟨V3, rfl⟩ : ∃ W, W = w7 := ⟨_, rfl⟩
           have HK3 := Lib.hid (HK2.out.trans hk7)
           have HJ3 := Lib.hid (HJ2.out.trans hk7)
           have HP3 := Lib.hid hp7
           have BR := Lib.hid (HJ3.out.cells (heap_alloc_new w (.cells #[.int .i64 0, .string ⟨#[]⟩, .int .i64 0, .slice none 0 0, .slice none 0 0] 37)) (by omega))
           obtain ⟨r0, r1, r2, r3, r4⟩ := row5 BR.out
           have f0 := row_frozen BR.out 0
           have f1 := row_frozen BR.out 1
           have f2 := row_frozen BR.out 2
           have f3 := row_frozen BR.out 3
           have f4 := row_frozen BR.out 4
           simp only [Tok.cells]
           clear hp7 hk7))
      exact bodyPost_ret (atom_results rfl (set_row5 _ _ _ _ _ BR.out)) rfl ⟨_, rfl, ⟨_, rfl, ex_leaf (nm := []) _ (by constructor <;> omega) (by constructor <;> omega) (by simp [maxLen])⟩, HP3.out.set5 (by omega) (by omega) _ _ _ _ _, HK3.out.set5 (Nat.le_refl _) _ _ _ _ _⟩
    rw [if_neg h4] at hq
    by_cases h5 : t.text = mergeT
    · rw [if_pos h5] at hq
      have hr : r ≠ [] := fun e => by rw [if_pos e] at hq; cases hq
      rw [if_neg hr] at hq
      replace hq : bindP _ _ = some q := (bindP_id _).trans hq
      have HQ3 := Lib.hid hq
      have b0 : (t.sort == 3) = false := by simp [h0]
      have b1 : (t.sort == 2) = false := by simp [h1]
      have b2 : (t.sort == 1) = false := by simp [h2]
      have b3 : ((str t.text).toList == [116, 114, 117, 101]) = false := text_not h3
      have b4 : ((str t.text).toList == [102, 97, 108, 115, 101]) = false := text_not h4
      have b5 : ((str t.text).toList == [109, 101, 114, 103, 101]) = true := text_is h5
      clear h0 h1 h2 h3 h4 h5
      clear hq
      go_enter Tryz.func193, Tryz.ntmps193
      go_wp2_with (first
        | (go_at_call 40
           (with_reducible refine (next_any (HP0.out.under ((Below.refl _ _).alloc (Nat.le_refl _) _))).mono ?_)
           rintro e w7 ⟨rfl, hb7⟩
           obtain ⟨V1, rfl⟩ : ∃ W, W = w7 := ⟨_, rfl⟩
           have HK1 := Lib.hid (KeptN.of_below (N := N) ((Below.refl w.heap.size w).alloc (Nat.le_refl _) (.cells #[.int .i64 0, .string ⟨#[]⟩, .int .i64 0, .slice none 0 0, .slice none 0 0] 37) |>.trans (hb7.mono (by simp))))
           have HJ1 := Lib.hid (KeptN.of_below (N := N) hb7)
           have HP1 := Lib.hid ((HP0.out.under ((Below.refl _ _).alloc (Nat.le_refl _) _)).under hb7)
           simp only [Tok.cells]
           clear hb7)
        | (go_at_call 40
           (with_reducible refine (next_any HP1.out).mono ?_)
           rintro e w7 ⟨rfl, hb7⟩
           obtain ⟨V2, rfl⟩ : ∃ W, W = w7 := ⟨_, rfl⟩
           have HK2 := Lib.hid (HK1.out.trans (KeptN.of_below hb7))
           have HJ2 := Lib.hid (HJ1.out.trans (KeptN.of_below hb7))
           have HP2 := Lib.hid (HP1.out.under hb7)
           simp only [Tok.cells]
           clear hb7)
        | (go_at_call 113
           (with_reducible refine (take_any HP2.out hr).mono ?_)
           rintro e w7 ⟨rfl, hp7, hk7⟩
           obtain ⟨V3, rfl⟩ : ∃ W, W = w7 := ⟨_, rfl⟩
           have HK3 := Lib.hid (HK2.out.trans hk7)
           have HJ3 := Lib.hid (HJ2.out.trans hk7)
           have HP3 := Lib.hid hp7
           simp only [Tok.cells]
           clear hp7 hk7)
        | (go_at_call 206
           rcases bindP_some HQ3.out with ⟨f, hf, rfl⟩ | ⟨x4, ts4, h4, hq4⟩
           · (with_reducible refine (HCC.out 12 i64_12 N G o _ _ hf _ HP3.out).mono ?_)
             rintro e w7 ⟨rfl, hk7⟩
             exact ⟨rfl, rfl, HK3.out.trans hk7⟩
           (with_reducible refine (HCC.out 12 i64_12 N G o _ _ h4 _ HP3.out).mono ?_)
           rintro e w7 ⟨v4, rfl, hr7, hp7, hk7⟩
           obtain ⟨V4, rfl⟩ : ∃ W, W = w7 := ⟨_, rfl⟩
           have HQ4 := Lib.hid hq4
           have HP4 := Lib.hid hp7
           have HK4 := Lib.hid (HK3.out.trans hk7)
           have HJ4 := Lib.hid (HJ3.out.trans hk7)
           obtain ⟨L4, rfl, hx⟩ := hr7
           have HX4 := Lib.hid hx
           obtain ⟨o4, s4, n4, A4, m4, k4, B4, j4, l4, rfl⟩ := hx.shape
           clear hx
           cases HQ4.out
           have g1 : w.heap.size < V3.heap.size := by have := HJ3.out.size; simp at this; omega
           have BR := Lib.hid (HJ4.out.cells (heap_alloc_new w (.cells #[.int .i64 0, .string ⟨#[]⟩, .int .i64 0, .slice none 0 0, .slice none 0 0] 37)) (by omega))
           obtain ⟨r0, r1, r2, r3, r4⟩ := row5 BR.out
           have f0 := row_frozen BR.out 0
           have f1 := row_frozen BR.out 1
           have f2 := row_frozen BR.out 2
           have f3 := row_frozen BR.out 3
           have f4 := row_frozen BR.out 4
           clear hq4 hp7 hk7 h4))
      exact bodyPost_ret (atom_results rfl (set_row5 _ _ _ _ _ BR.out)) rfl ⟨_, rfl, ⟨_, rfl, HX4.out.lift ((Same.refl V3.heap.size V4).set5 (.inl g1) _ _ _ _ _) (Nat.le_of_lt g1)⟩, (HP4.out.set5 (by omega) (by omega) _ _ _ _ _), HK4.out.set5 (Nat.le_refl _) _ _ _ _ _⟩
    rw [if_neg h5] at hq
    by_cases h6 : t.text = matchT
    · rw [if_pos h6] at hq
      have hr : r ≠ [] := fun e => by rw [if_pos e] at hq; cases hq
      rw [if_neg hr] at hq
      replace hq : bindP _ _ = some q := (bindP_id _).trans hq
      have HQ3 := Lib.hid hq
      have b0 : (t.sort == 3) = false := by simp [h0]
      have b1 : (t.sort == 2) = false := by simp [h1]
      have b2 : (t.sort == 1) = false := by simp [h2]
      have b3 : ((str t.text).toList == [116, 114, 117, 101]) = false := text_not h3
      have b4 : ((str t.text).toList == [102, 97, 108, 115, 101]) = false := text_not h4
      have b5 : ((str t.text).toList == [109, 101, 114, 103, 101]) = false := text_not h5
      have b6 : ((str t.text).toList == [109, 97, 116, 99, 104]) = true := text_is h6
      clear h0 h1 h2 h3 h4 h5 h6
      clear hq
      go_enter Tryz.func193, Tryz.ntmps193
      go_wp2_with (first
        | (go_at_call 40
           (with_reducible refine (next_any (HP0.out.under ((Below.refl _ _).alloc (Nat.le_refl _) _))).mono ?_)
           rintro e w7 ⟨rfl, hb7⟩
           obtain ⟨V1, rfl⟩ : ∃ W, W = w7 := ⟨_, rfl⟩
           have HK1 := Lib.hid (KeptN.of_below (N := N) ((Below.refl w.heap.size w).alloc (Nat.le_refl _) (.cells #[.int .i64 0, .string ⟨#[]⟩, .int .i64 0, .slice none 0 0, .slice none 0 0] 37) |>.trans (hb7.mono (by simp))))
           have HJ1 := Lib.hid (KeptN.of_below (N := N) hb7)
           have HP1 := Lib.hid ((HP0.out.under ((Below.refl _ _).alloc (Nat.le_refl _) _)).under hb7)
           simp only [Tok.cells]
           clear hb7)
        | (go_at_call 40
           (with_reducible refine (next_any HP1.out).mono ?_)
           rintro e w7 ⟨rfl, hb7⟩
           obtain ⟨V2, rfl⟩ : ∃ W, W = w7 := ⟨_, rfl⟩
           have HK2 := Lib.hid (HK1.out.trans (KeptN.of_below hb7))
           have HJ2 := Lib.hid (HJ1.out.trans (KeptN.of_below hb7))
           have HP2 := Lib.hid (HP1.out.under hb7)
           simp only [Tok.cells]
           clear hb7)
        | (go_at_call 113
           (with_reducible refine (take_any HP2.out hr).mono ?_)
           rintro e w7 ⟨rfl, hp7, hk7⟩
           obtain ⟨V3, rfl⟩ : ∃ W, W = w7 := ⟨_, rfl⟩
           have HK3 := Lib.hid (HK2.out.trans hk7)
           have HJ3 := Lib.hid (HJ2.out.trans hk7)
           have HP3 := Lib.hid hp7
           simp only [Tok.cells]
           clear hp7 hk7)
        | (go_at_call 206
           rcases bindP_some HQ3.out with ⟨f, hf, rfl⟩ | ⟨x4, ts4, h4, hq4⟩
           · (with_reducible refine (HCC.out 13 i64_13 N G o _ _ hf _ HP3.out).mono ?_)
             rintro e w7 ⟨rfl, hk7⟩
             exact ⟨rfl, rfl, HK3.out.trans hk7⟩
           (with_reducible refine (HCC.out 13 i64_13 N G o _ _ h4 _ HP3.out).mono ?_)
           rintro e w7 ⟨v4, rfl, hr7, hp7, hk7⟩
           obtain ⟨V4, rfl⟩ : ∃ W, W = w7 := ⟨_, rfl⟩
           have HQ4 := Lib.hid hq4
           have HP4 := Lib.hid hp7
           have HK4 := Lib.hid (HK3.out.trans hk7)
           have HJ4 := Lib.hid (HJ3.out.trans hk7)
           obtain ⟨L4, rfl, hx⟩ := hr7
           have HX4 := Lib.hid hx
           obtain ⟨o4, s4, n4, A4, m4, k4, B4, j4, l4, rfl⟩ := hx.shape
           clear hx
           cases HQ4.out
           have g1 : w.heap.size < V3.heap.size := by have := HJ3.out.size; simp at this; omega
           have BR := Lib.hid (HJ4.out.cells (heap_alloc_new w (.cells #[.int .i64 0, .string ⟨#[]⟩, .int .i64 0, .slice none 0 0, .slice none 0 0] 37)) (by omega))
           obtain ⟨r0, r1, r2, r3, r4⟩ := row5 BR.out
           have f0 := row_frozen BR.out 0
           have f1 := row_frozen BR.out 1
           have f2 := row_frozen BR.out 2
           have f3 := row_frozen BR.out 3
           have f4 := row_frozen BR.out 4
           clear hq4 hp7 hk7 h4))
      exact bodyPost_ret (atom_results rfl (set_row5 _ _ _ _ _ BR.out)) rfl ⟨_, rfl, ⟨_, rfl, HX4.out.lift ((Same.refl V3.heap.size V4).set5 (.inl g1) _ _ _ _ _) (Nat.le_of_lt g1)⟩, (HP4.out.set5 (by omega) (by omega) _ _ _ _ _), HK4.out.set5 (Nat.le_refl _) _ _ _ _ _⟩
    rw [if_neg h6] at hq
    by_cases h7 : t.text = openT
    · rw [if_pos h7] at hq
      replace hq : bindP _ _ = some q := (bindP_id _).trans hq
      have HQ2 := Lib.hid hq
      have b0 : (t.sort == 3) = false := by simp [h0]
      have b1 : (t.sort == 2) = false := by simp [h1]
      have b2 : (t.sort == 1) = false := by simp [h2]
      have b3 : ((str t.text).toList == [116, 114, 117, 101]) = false := text_not h3
      have b4 : ((str t.text).toList == [102, 97, 108, 115, 101]) = false := text_not h4
      have b5 : ((str t.text).toList == [109, 101, 114, 103, 101]) = false := text_not h5
      have b6 : ((str t.text).toList == [109, 97, 116, 99, 104]) = false := text_not h6
      have b7 : ((str t.text).toList == [40]) = true := text_is h7
      clear h0 h1 h2 h3 h4 h5 h6 h7
      clear hq
      go_enter Tryz.func193, Tryz.ntmps193
      go_wp2_with (first
        | (go_at_call 40
           (with_reducible refine (next_any (HP0.out.under ((Below.refl _ _).alloc (Nat.le_refl _) _))).mono ?_)
           rintro e w7 ⟨rfl, hb7⟩
           obtain ⟨V1, rfl⟩ : ∃ W, W = w7 := ⟨_, rfl⟩
           have HK1 := Lib.hid (KeptN.of_below (N := N) ((Below.refl w.heap.size w).alloc (Nat.le_refl _) (.cells #[.int .i64 0, .string ⟨#[]⟩, .int .i64 0, .slice none 0 0, .slice none 0 0] 37) |>.trans (hb7.mono (by simp))))
           have HJ1 := Lib.hid (KeptN.of_below (N := N) hb7)
           have HP1 := Lib.hid ((HP0.out.under ((Below.refl _ _).alloc (Nat.le_refl _) _)).under hb7)
           simp only [Tok.cells]
           clear hb7)
        | (go_at_call 40
           (with_reducible refine (next_any HP1.out).mono ?_)
           rintro e w7 ⟨rfl, hb7⟩
           obtain ⟨V2, rfl⟩ : ∃ W, W = w7 := ⟨_, rfl⟩
           have HK2 := Lib.hid (HK1.out.trans (KeptN.of_below hb7))
           have HJ2 := Lib.hid (HJ1.out.trans (KeptN.of_below hb7))
           have HP2 := Lib.hid (HP1.out.under hb7)
           simp only [Tok.cells]
           clear hb7)
        | (go_at_call 207
           rcases bindP_some HQ2.out with ⟨f, hf, rfl⟩ | ⟨x3, ts3, h3, hq3⟩
           · (with_reducible refine (enc_expr HEE.out N G o _ _ hf _ HP2.out).mono ?_)
             rintro e w7 ⟨rfl, hk7⟩
             exact ⟨rfl, rfl, HK2.out.trans hk7⟩
           (with_reducible refine (enc_expr HEE.out N G o _ _ h3 _ HP2.out).mono ?_)
           rintro e w7 ⟨v3, rfl, hr7, hp7, hk7⟩
           obtain ⟨V3, rfl⟩ : ∃ W, W = w7 := ⟨_, rfl⟩
           have HQ3 := Lib.hid hq3
           have HP3 := Lib.hid hp7
           have HK3 := Lib.hid (HK2.out.trans hk7)
           have HJ3 := Lib.hid (HJ2.out.trans hk7)
           obtain ⟨L3, rfl, hx⟩ := hr7
           have HX3 := Lib.hid hx
           obtain ⟨o3, s3, n3, A3, m3, k3, B3, j3, l3, rfl⟩ := hx.shape
           clear hx
           cases HQ3.out
           have g1 : w.heap.size < V2.heap.size := by have := HJ2.out.size; simp at this; omega
           have BR := Lib.hid (HJ3.out.cells (heap_alloc_new w (.cells #[.int .i64 0, .string ⟨#[]⟩, .int .i64 0, .slice none 0 0, .slice none 0 0] 37)) (by omega))
           obtain ⟨r0, r1, r2, r3, r4⟩ := row5 BR.out
           have f0 := row_frozen BR.out 0
           have f1 := row_frozen BR.out 1
           have f2 := row_frozen BR.out 2
           have f3 := row_frozen BR.out 3
           have f4 := row_frozen BR.out 4
           clear hq3 hp7 hk7 h3))
      exact bodyPost_ret (atom_results rfl (set_row5 _ _ _ _ _ BR.out)) rfl ⟨_, rfl, ⟨_, rfl, HX3.out.lift ((Same.refl V2.heap.size V3).set5 (.inl g1) _ _ _ _ _) (Nat.le_of_lt g1)⟩, (HP3.out.set5 (by omega) (by omega) _ _ _ _ _), HK3.out.set5 (Nat.le_refl _) _ _ _ _ _⟩
    rw [if_neg h7] at hq
    cases hq
    have b0 : (t.sort == 3) = false := by simp [h0]
    have b1 : (t.sort == 2) = false := by simp [h1]
    have b2 : (t.sort == 1) = false := by simp [h2]
    have b3 : ((str t.text).toList == [116, 114, 117, 101]) = false := text_not h3
    have b4 : ((str t.text).toList == [102, 97, 108, 115, 101]) = false := text_not h4
    have b5 : ((str t.text).toList == [109, 101, 114, 103, 101]) = false := text_not h5
    have b6 : ((str t.text).toList == [109, 97, 116, 99, 104]) = false := text_not h6
    have b7 : ((str t.text).toList == [40]) = false := text_not h7
    clear h0 h1 h2 h3 h4 h5 h6 h7
    go_enter Tryz.func193, Tryz.ntmps193
    go_wp2_with (first
      | (go_at_call 40
         (with_reducible refine (next_any (HP0.out.under ((Below.refl _ _).alloc (Nat.le_refl _) _))).mono ?_)
         rintro e w7 ⟨rfl, hb7⟩
         obtain ⟨V1, rfl⟩ : ∃ W, W = w7 := ⟨_, rfl⟩
         have HK1 := Lib.hid (KeptN.of_below (N := N) ((Below.refl w.heap.size w).alloc (Nat.le_refl _) (.cells #[.int .i64 0, .string ⟨#[]⟩, .int .i64 0, .slice none 0 0, .slice none 0 0] 37) |>.trans (hb7.mono (by simp))))
         have HJ1 := Lib.hid (KeptN.of_below (N := N) hb7)
         have HP1 := Lib.hid ((HP0.out.under ((Below.refl _ _).alloc (Nat.le_refl _) _)).under hb7)
         simp only [Tok.cells]
         clear hb7)
      | (go_at_call 40
         (with_reducible refine (next_any HP1.out).mono ?_)
         rintro e w7 ⟨rfl, hb7⟩
         obtain ⟨V2, rfl⟩ : ∃ W, W = w7 := ⟨_, rfl⟩
         have HK2 := Lib.hid (HK1.out.trans (KeptN.of_below hb7))
         have HJ2 := Lib.hid (HJ1.out.trans (KeptN.of_below hb7))
         have HP2 := Lib.hid (HP1.out.under hb7)
         simp only [Tok.cells]
         clear hb7)
      | (go_at_call 41
         (with_reducible refine (pfault_any HP2.out 3).mono ?_)
         rintro e w8 ⟨rfl, hb8⟩
         have HB := Lib.hid (HK2.out.trans (KeptN.of_below hb8))
         clear hb8))
    exact ⟨rfl, rfl, HB.out⟩
end Go.Proofs.YtlhmdjhfmhkllaaGreatDoor
