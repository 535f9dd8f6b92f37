/-
  Texts joined.
-/
import Derived.Test.YtoajfnfhphoaeaaGreatDoorKj20
namespace Go.Proofs.YtoajfnfhphoaeaaGreatDoor
open Go.RowKit
theorem want_if : ∀ (N G o : Nat) (ts : List Tok) (q : Out Unit), wantP ifT ts = some q → ∀ w, PState w N G ts o → Calls Tryz.prog 80 #[.pointer (some ⟨N, 0, none⟩), .string ⟨#[105, 102]⟩] w (PPost RUnit N G o q w) := fun N G o ts q h w hp => want_any ifT N G o ts q h w hp
theorem want_then : ∀ (N G o : Nat) (ts : List Tok) (q : Out Unit), wantP thenT ts = some q → ∀ w, PState w N G ts o → Calls Tryz.prog 80 #[.pointer (some ⟨N, 0, none⟩), .string ⟨#[116, 104, 101, 110]⟩] w (PPost RUnit N G o q w) := fun N G o ts q h w hp => want_any thenT N G o ts q h w hp
theorem want_else : ∀ (N G o : Nat) (ts : List Tok) (q : Out Unit), wantP elseT ts = some q → ∀ w, PState w N G ts o → Calls Tryz.prog 80 #[.pointer (some ⟨N, 0, none⟩), .string ⟨#[101, 108, 115, 101]⟩] w (PPost RUnit N G o q w) := fun N G o ts q h w hp => want_any elseT N G o ts q h w hp
theorem want_arrow : ∀ (N G o : Nat) (ts : List Tok) (q : Out Unit), wantP arrowT ts = some q → ∀ w, PState w N G ts o → Calls Tryz.prog 80 #[.pointer (some ⟨N, 0, none⟩), .string ⟨#[45, 62]⟩] w (PPost RUnit N G o q w) := fun N G o ts q h w hp => want_any arrowT N G o ts q h w hp
theorem at_openB {w : World} {N G : Nat} {t : Tok} {r : List Tok} {o : Nat} (h : PState w N G (t :: r) o) : Calls Tryz.prog 117 #[.pointer (some ⟨N, 0, none⟩), .string ⟨#[91]⟩] w (BoolPost (decide (t.text = openB)) w) := at_any h openB
theorem at_open {w : World} {N G : Nat} {t : Tok} {r : List Tok} {o : Nat} (h : PState w N G (t :: r) o) : Calls Tryz.prog 117 #[.pointer (some ⟨N, 0, none⟩), .string ⟨#[40]⟩] w (BoolPost (decide (t.text = openT)) w) := at_any h openT
theorem skipno_every {w : World} {N G : Nat} {t : Tok} {r : List Tok} {o : Nat} (h : PState w N G (t :: r) o) (hs : t.text ≠ everyT) : Calls Tryz.prog 115 #[.pointer (some ⟨N, 0, none⟩), .string ⟨#[101, 118, 101, 114, 121]⟩] w (BoolPost false w) := skip_no h hs
theorem skipyes_every {w : World} {N G : Nat} {t : Tok} {r : List Tok} {o : Nat} (h : PState w N G (t :: r) o) (hs : t.text = everyT) (hr : r ≠ []) : Calls Tryz.prog 115 #[.pointer (some ⟨N, 0, none⟩), .string ⟨#[101, 118, 101, 114, 121]⟩] w (SkipPost N G r o w) := skip_yes h hs hr
theorem skipno_when {w : World} {N G : Nat} {t : Tok} {r : List Tok} {o : Nat} (h : PState w N G (t :: r) o) (hs : t.text ≠ whenT') : Calls Tryz.prog 115 #[.pointer (some ⟨N, 0, none⟩), .string ⟨#[119, 104, 101, 110]⟩] w (BoolPost false w) := skip_no h hs
theorem skipyes_when {w : World} {N G : Nat} {t : Tok} {r : List Tok} {o : Nat} (h : PState w N G (t :: r) o) (hs : t.text = whenT') (hr : r ≠ []) : Calls Tryz.prog 115 #[.pointer (some ⟨N, 0, none⟩), .string ⟨#[119, 104, 101, 110]⟩] w (SkipPost N G r o w) := skip_yes h hs hr
theorem enter_name : ∀ (args : Array Value) (W : World), (callFunc 81 args).run Tryz.prog W = .ok (.enter 81 args) W := enters_of Tryz.func81 (by kernel_rfl) rfl
theorem enter_names : ∀ (args : Array Value) (W : World), (callFunc 86 args).run Tryz.prog W = .ok (.enter 86 args) W := enters_of Tryz.func86 (by kernel_rfl) rfl
theorem enter_expr : ∀ (args : Array Value) (W : World), (callFunc 28 args).run Tryz.prog W = .ok (.enter 28 args) W := enters_of Tryz.func28 (by kernel_rfl) rfl
theorem enter_exprs : ∀ (args : Array Value) (W : World), (callFunc 193 args).run Tryz.prog W = .ok (.enter 193 args) W := enters_of Tryz.func193 (by kernel_rfl) rfl
theorem enter_arm : ∀ (args : Array Value) (W : World), (callFunc 210 args).run Tryz.prog W = .ok (.enter 210 args) W := enters_of Tryz.func210 (by kernel_rfl) rfl
theorem enter_arms : ∀ (args : Array Value) (W : World), (callFunc 195 args).run Tryz.prog W = .ok (.enter 195 args) W := enters_of Tryz.func195 (by kernel_rfl) rfl
theorem make_fn : ∀ (fn : Fn) (first cap : Array Value) (w : World), (Instr.makeFunc fn first cap).run Tryz.prog w = .ok (.func fn first cap) w := fun _ _ _ _ => rfl
set_option maxHeartbeats 1000000 in
theorem pnames_any : PartOk 86 RStrs (fun _ => namesP) := by
  intro N G o ts q hq w h; have H := Lib.hid (show Calls Tryz.prog 82 #[.pointer (some ⟨N, 0, none⟩), .string ⟨#[44]⟩, .func (.func 81) #[.pointer (some ⟨N, 0, none⟩)] #[]] w (PPost RStrs N G o q w) from separatedT_any enter_name name_any commaT N G o ts q hq w h); have hmf := make_fn; clear h hq; cases q with
  | bad f =>
    go_enter Tryz.func86, Tryz.ntmps86
    go_wp2_with (go_at_call 82
                 (with_reducible refine H.out.mono ?_); rintro e w7 ⟨rfl, hk7⟩; have HK := Lib.hid hk7; clear hk7)
    exact ⟨rfl, rfl, HK.out⟩
  | ok x r =>
    go_enter Tryz.func86, Tryz.ntmps86
    go_wp2_with (go_at_call 82
                 (with_reducible refine H.out.mono ?_); rintro e w7 ⟨v, rfl, hr, hp, hk⟩; have HR := Lib.hid hr; have HP := Lib.hid hp; have HK := Lib.hid hk; clear hr hp hk)
    go_ret; exact ⟨_, rfl, HR.out, HP.out, HK.out⟩
set_option maxHeartbeats 1000000 in
theorem exprs_any {E : PrX} (HE : PartOk 28 REx (fun o ts => E ts o)) : PartOk 193 RExs (fun o => separatedP commaT fun ts => E ts o) := by
  intro N G o ts q hq w h; have H := Lib.hid (show Calls Tryz.prog 208 #[.pointer (some ⟨N, 0, none⟩), .string ⟨#[44]⟩, .func (.func 28) #[.pointer (some ⟨N, 0, none⟩)] #[]] w (PPost RExs N G o q w) from separatedE_any (P := fun o ts => E ts o) enter_expr HE commaT N G o ts q hq w h); have hmf := make_fn; clear h hq; cases q with
  | bad f =>
    go_enter Tryz.func193, Tryz.ntmps193
    go_wp2_with (go_at_call 208
                 (with_reducible refine H.out.mono ?_); rintro e w7 ⟨rfl, hk7⟩; have HK := Lib.hid hk7; clear hk7)
    exact ⟨rfl, rfl, HK.out⟩
  | ok x r =>
    go_enter Tryz.func193, Tryz.ntmps193
    go_wp2_with (go_at_call 208
                 (with_reducible refine H.out.mono ?_); rintro e w7 ⟨v, rfl, hr, hp, hk⟩; have HR := Lib.hid hr; have HP := Lib.hid hp; have HK := Lib.hid hk; clear hr hp hk)
    go_ret; exact ⟨_, rfl, HR.out, HP.out, HK.out⟩
set_option maxHeartbeats 2000000 in
theorem pstatics_any : PartOk 84 RStrs (fun _ => staticsP) := by
  intro N G o ts q hq w h; have hmf := make_fn; replace hq : staticsP ts = some q := hq; cases ts with
  | nil =>
    cases hq
  | cons t r =>
    have HA := Lib.hid (at_openB h); have HP := Lib.hid h; by_cases ht : t.text = openB
    · rw [decide_eq_true ht] at HA; have hq : enclosedP openB namesP shutB (t :: r) = some q := (by have h2 : atP openB (t :: r) = true := decide_eq_true ht; unfold staticsP at hq; rw [if_neg (List.cons_ne_nil _ _)] at hq; rwa [if_pos h2] at hq); have H := Lib.hid (fun (w : World) (h : PState w N G (t :: r) o) => show Calls Tryz.prog 85 #[.pointer (some ⟨N, 0, none⟩), .string ⟨#[91]⟩, .func (.func 86) #[.pointer (some ⟨N, 0, none⟩)] #[], .string ⟨#[93]⟩] w (PPost RStrs N G o q w) from enclosedS_any enter_names pnames_any openB shutB N G o (t :: r) q hq w h); clear h hq ht; cases q with
      | bad f =>
        go_enter Tryz.func84, Tryz.ntmps84
        go_wp2_with (first
          | (go_at_call 117; (with_reducible refine HA.out.mono ?_); rintro e w7 ⟨rfl, hb7⟩; obtain ⟨V, rfl⟩ : ∃ W, W = w7 := ⟨_, rfl⟩; have HV := Lib.hid hb7; clear hb7)
          | (go_at_call 85; (with_reducible refine (H.out _ (HP.out.under HV.out)).mono ?_); rintro e w7 ⟨rfl, hk7⟩; have HK := Lib.hid ((KeptN.of_below HV.out).trans hk7); clear hk7))
        exact ⟨rfl, rfl, HK.out⟩
      | ok x r =>
        go_enter Tryz.func84, Tryz.ntmps84
        go_wp2_with (first
          | (go_at_call 117; (with_reducible refine HA.out.mono ?_); rintro e w7 ⟨rfl, hb7⟩; obtain ⟨V, rfl⟩ : ∃ W, W = w7 := ⟨_, rfl⟩; have HV := Lib.hid hb7; clear hb7)
          | (go_at_call 85; (with_reducible refine (H.out _ (HP.out.under HV.out)).mono ?_); rintro e w7 ⟨v, rfl, hr, hp, hk⟩; have HR := Lib.hid hr; have HP7 := Lib.hid hp; have HK := Lib.hid ((KeptN.of_below HV.out).trans hk); clear hr hp hk))
        go_ret; exact ⟨_, rfl, HR.out.lift (Same.refl _ _) HV.out.size, HP7.out, HK.out⟩
    · rw [decide_eq_false ht] at HA; have hq : some (.ok [] (t :: r)) = some q := (by have h2 : atP openB (t :: r) = false := decide_eq_false ht; unfold staticsP at hq; rw [if_neg (List.cons_ne_nil _ _)] at hq; rwa [if_neg (by rw [h2]; simp)] at hq); cases hq; clear h ht; go_enter Tryz.func84, Tryz.ntmps84
      go_wp2_with (go_at_call 117
                   (with_reducible refine HA.out.mono ?_); rintro e w7 ⟨rfl, hb7⟩; have HV := Lib.hid hb7; clear hb7)
      go_ret; exact ⟨_, rfl, ⟨none, 0, rfl, Nat.le_refl _, by unfold maxLen; omega, fun i x h => by simp at h⟩, HP.out.under HV.out, KeptN.of_below HV.out⟩
/- a row of six is set -/
section
variable {w w' : World} {N G o K : Nat} {ts : List Tok}
theorem set_row6 {T0 : TypeId} {a b c d e f : Value} (x y z u v s : Value) (h : w.heap[K]? = some (.cells #[a, b, c, d, e, f] T0 (0, 0))) : ((((((w.setCell ⟨K, 0, none⟩ x).setCell ⟨K, 1, none⟩ y).setCell ⟨K, 2, none⟩ z).setCell ⟨K, 3, none⟩ u).setCell ⟨K, 4, none⟩ v).setCell ⟨K, 5, none⟩ s).heap[K]? = some (.cells #[x, y, z, u, v, s] T0 (0, 0)) := by
  have h1 := heap_setCell_same w K 0 _ _ x h; have h2 := heap_setCell_same _ K 1 _ _ y h1; have h3 := heap_setCell_same _ K 2 _ _ z h2; have h4 := heap_setCell_same _ K 3 _ _ u h3; have h5 := heap_setCell_same _ K 4 _ _ v h4; have h6 := heap_setCell_same _ K 5 _ _ s h5; simpa using h6
end
theorem arm_info : (Tryz.prog.info? 221).map (·.size) = some 6 := by kernel_rfl
set_option maxRecDepth 100000 in
theorem arm_results {tmps : Array Value} {w : World} {N : Nat} {x0 x1 x2 x3 x4 x5 : Value} (hp : tmps.getD 2 undef = .pointer (some ⟨N, 0, none⟩)) (hg : w.heap[N]? = some (.cells #[x0, x1, x2, x3, x4, x5] 221 (0, 0))) :
    (results Tryz.f210 tmps).run Tryz.prog w = .ok (.agg #[x0, x1, x2, x3, x4, x5]) w :=
  results_cell_row Tryz.results210 tmps w N 221 _ (0, 0) _ hp hg Tryz.underlying221 rfl arm_info
set_option maxHeartbeats 2000000 in
theorem arm_any {E : PrX} (HE : PartOk 28 REx (fun o ts => E ts o)) : PartOk 210 RArmV (fun o => armP E o) := by
  intro N G o ts q hq w h; have HQ0 := Lib.hid (show bindP (conP ts) (fun c ts => bindP (wantP arrowT ts) fun _ ts => bindP (E ts o) fun e ts => some (.ok (c, e) ts)) = some q from hq); have HP0 := Lib.hid h; have HK0 := Lib.hid (KeptN.refl N w); have HJ0 := Lib.hid (KeptN.refl N (w.alloc (.cells #[.string ⟨#[]⟩, .int .i64 0, .string ⟨#[]⟩, .int .i64 0, .slice none 0 0, .slice none 0 0] 221))); have HEE := Lib.hid HE; have hN := h.lt; have hG := h.2.2.1; clear h hq HE; go_enter Tryz.func210, Tryz.ntmps210
  go_wp2_with (first
    | (go_at_call 83; rcases bindP_some HQ0.out with ⟨f, hf, rfl⟩ | ⟨x1, ts1, h1, hq1⟩
       · (with_reducible refine (con_any N G o _ _ hf _ (HP0.out.under ((Below.refl _ _).alloc (by simp) _))).mono ?_); rintro e w7 ⟨rfl, hk7⟩; exact ⟨rfl, rfl, (HK0.out.alloc _).trans hk7⟩
       (with_reducible refine (con_any N G o _ _ h1 _ (HP0.out.under ((Below.refl _ _).alloc (by simp) _))).mono ?_); rintro e w7 ⟨v1, rfl, hr7, hp7, hk7⟩; obtain ⟨V1, rfl⟩ : ∃ W, W = w7 := ⟨_, rfl⟩; have HQ1 := Lib.hid hq1; have HP1 := Lib.hid hp7; have HK1 := Lib.hid ((HK0.out.alloc _).trans hk7); have HJ1 := Lib.hid (HJ0.out.trans hk7); obtain ⟨rfl, hxl⟩ := hr7; have HX1 := Lib.hid hxl; clear hxl; clear hq1 hp7 hk7 h1)
    | (go_at_call 80; rcases bindP_some HQ1.out with ⟨f, hf, rfl⟩ | ⟨x2, ts2, h2, hq2⟩
       · (with_reducible refine (want_arrow N G o _ _ hf _ HP1.out).mono ?_); rintro e w7 ⟨rfl, hk7⟩; exact ⟨rfl, rfl, HK1.out.trans hk7⟩
       (with_reducible refine (want_arrow N G o _ _ h2 _ HP1.out).mono ?_); rintro e w7 ⟨v2, rfl, hr7, hp7, hk7⟩; obtain ⟨V2, rfl⟩ : ∃ W, W = w7 := ⟨_, rfl⟩; have HQ2 := Lib.hid hq2; have HP2 := Lib.hid hp7; have HK2 := Lib.hid (HK1.out.trans hk7); have HJ2 := Lib.hid (HJ1.out.trans hk7); cases hr7; clear hq2 hp7 hk7 h2)
    | (go_at_call 28; rcases bindP_some HQ2.out with ⟨f, hf, rfl⟩ | ⟨x3, ts3, h3, hq3⟩
       · (with_reducible refine (HEE.out N G o _ _ hf _ HP2.out).mono ?_); rintro e w7 ⟨rfl, hk7⟩; exact ⟨rfl, rfl, HK2.out.trans hk7⟩
       (with_reducible refine (HEE.out N G o _ _ h3 _ HP2.out).mono ?_); rintro e w7 ⟨v3, rfl, hr7, hp7, hk7⟩; obtain ⟨V3, rfl⟩ : ∃ W, W = w7 := ⟨_, rfl⟩; have HQ3 := Lib.hid hq3; have HP3 := Lib.hid hp7; have HK3 := Lib.hid (HK2.out.trans hk7); have HJ3 := Lib.hid (HJ2.out.trans hk7); obtain ⟨L, rfl, hx⟩ := hr7; have HX3 := Lib.hid hx; obtain ⟨o1, s1, n1, A1, m1, k1, A2, m2, k2, rfl⟩ := hx.shape; clear hx; cases HQ3.out; have BR := Lib.hid (HJ3.out.cells (heap_alloc_new w (.cells #[.string ⟨#[]⟩, .int .i64 0, .string ⟨#[]⟩, .int .i64 0, .slice none 0 0, .slice none 0 0] 221)) (by omega)); obtain ⟨r0, r1, r2, r3, r4, r5⟩ := row6 BR.out; have f0 := row_frozen BR.out 0; have f1 := row_frozen BR.out 1; have f2 := row_frozen BR.out 2; have f3 := row_frozen BR.out 3; have f4 := row_frozen BR.out 4; have f5 := row_frozen BR.out 5; clear hq3 hp7 hk7 h3))
  have hs2 : w.heap.size < V2.heap.size := (by have := HJ2.out.size; simp at this; omega); have hK6 : ∀ j : Nat, (⟨w.heap.size, j, none⟩ : Addr).block < V2.heap.size ∨ V3.heap.size ≤ (⟨w.heap.size, j, none⟩ : Addr).block := fun j => .inl hs2; refine bodyPost_ret (arm_results rfl (set_row6 _ _ _ _ _ _ BR.out)) rfl ⟨_, rfl, ⟨_, rfl, ⟨_, rfl, HX1.out, HX3.out.lift (((Same.refl V2.heap.size V3).set5 (.inl hs2) _ _ _ _ _).set (hK6 5) _) HK2.out.size⟩⟩, (HP3.out.set5 (by omega) (by omega) _ _ _ _ _).set (a := ⟨w.heap.size, 5, none⟩) (by simp; omega) (by simp; omega) _, (HK3.out.set5 (Nat.le_refl _) _ _ _ _ _).setNew (a := ⟨w.heap.size, 5, none⟩) (Nat.le_refl _) _⟩
set_option maxHeartbeats 1000000 in
theorem parms_any {E : PrX} (HE : PartOk 28 REx (fun o ts => E ts o)) : PartOk 195 RArms (fun o => separatedP barT (armP E o)) := by
  intro N G o ts q hq w h; have H := Lib.hid (show Calls Tryz.prog 209 #[.pointer (some ⟨N, 0, none⟩), .string ⟨#[124]⟩, .func (.func 210) #[.pointer (some ⟨N, 0, none⟩)] #[]] w (PPost RArms N G o q w) from separatedA_any (P := fun o => armP E o) enter_arm (arm_any HE) barT N G o ts q hq w h); have hmf := make_fn; clear h hq; cases q with
  | bad f =>
    go_enter Tryz.func195, Tryz.ntmps195
    go_wp2_with (go_at_call 209
                 (with_reducible refine H.out.mono ?_); rintro e w7 ⟨rfl, hk7⟩; have HK := Lib.hid hk7; clear hk7)
    exact ⟨rfl, rfl, HK.out⟩
  | ok x r =>
    go_enter Tryz.func195, Tryz.ntmps195
    go_wp2_with (go_at_call 209
                 (with_reducible refine H.out.mono ?_); rintro e w7 ⟨v, rfl, hr, hp, hk⟩; have HR := Lib.hid hr; have HP := Lib.hid hp; have HK := Lib.hid hk; clear hr hp hk)
    go_ret; exact ⟨_, rfl, HR.out, HP.out, HK.out⟩
end Go.Proofs.YtoajfnfhphoaeaaGreatDoor
