/-
  Texts joined.
-/
import Derived.Test.YtoajfnfhphoaeaaGreatDoorKj15
import Derived.Test.YtoajfnfhphoaeaaGreatDoorKj29
namespace Go.Proofs.YtoajfnfhphoaeaaGreatDoor
open Go.RowKit
set_option maxRecDepth 100000 in
set_option maxHeartbeats 1000000 in
/-- the elements of another slice more -/
theorem append_ownLs {X : Type} {R : World → List Value → X → Prop} {B : Nat} {T TS : TypeId} {n bytes : Nat} {z : Value} (hsub : ∀ w w' L x, Sub w w' → R w L x → R w' L x)
    {ops : Array Oper} {rest : List Oper} {o : Oper} {a : Act} {Q : Exit → Act → World → Prop} {W : World} {v : Value} {xs ys : List X} {A : Option Addr} {m c B2 : Nat} (hgd : o.guard = none) (s y : Operand)
    (hop : o.op = .call { callee := .builtin .append, args := #[s, y], argTypes := #[TS, TS] }) (hT : Tryz.prog.underlying TS = some (.slice T)) (hI : (Tryz.prog.info? T).map (fun i => (i.zero, i.size, i.bytes)) = some (some z, n, bytes))
    (hz : z.cells.size = n) (hn : 0 < n) (hby : bytes ≤ 4096) (hR : ∀ w L x, R w L x → L.length = n) (hone : ∀ w L x, R w L x → ∀ u ∈ L, u.oneCell' = true) (hs : a.eval s = v) (hy : a.eval y = .slice A m c)
    (hO : OwnL R B T n W v xs) (hS : SliceAt (newW B2 W) (R (newW B2 W)) (.slice A m c) ys) (hB2 : ∀ g, v.ownBlock = some g → g < B2) (hBB : B ≤ B2) (hl : xs.length + ys.length ≤ 4194304) (hB : B ≤ W.heap.size)
    (h : ∀ v' w', OwnL R B T n w' v' (xs ++ ys) → Below B W w' → wpList Tryz.prog ops Q rest (a.put o.dst v') w') : wpList Tryz.prog ops Q (o :: rest) a W := by
  obtain ⟨i0, hi, hz0, hz1, hz2⟩ := info_parts hI; obtain ⟨Ls, hown, hll, hln, hlr⟩ := hO; cases A with
  | none =>
    have hy0 : ys = [] := by
      obtain ⟨A', c', e, _, _, h3⟩ := hS; injection e with e1 e2 e3; subst e1; cases ys with
      | nil => rfl
      | cons y r =>
        obtain ⟨L, ⟨a', e, _⟩, _⟩ := h3 0 y rfl; cases e
    have hm : m = 0 := by
      obtain ⟨A', c', e, _⟩ := hS; injection e with _ e2 _; rw [e2, hy0]; rfl
    subst hy0 hm; have hrun := run_append_nilS (w := W) B TS o.type T i0 n hT hi _ _ _ hown c; refine wpList_plain hgd fun K hK => ?_; unfold Oper.wp; simp only [execOp, hop, resolve, invoke, builtin, Sem.run_bind, Sem.run_pure, Result.andThen_ok, List.map_toArray, List.map_cons, List.map_nil, hs, hy, hrun]; exact hK _ _ (h v W ⟨Ls, by simpa using hown, by simpa using hll, hln, by simpa using hlr⟩ (Below.refl _ _))
  | some ad =>
    have hm : m = ys.length := by
      obtain ⟨A', c', e, _⟩ := hS; injection e
    subst hm; obtain ⟨Ms, hml, hmn, hmr, hcl⟩ := slice_cellsG hn (hR _) hS; have hb2 : (xs.length + ys.length) * bytes ≤ 140737488355328 := by
      have : (xs.length + ys.length) * bytes ≤ 4194304 * 4096 := Nat.mul_le_mul hl hby
      omega
    have hfl : Ms.flatten.length = ys.length * n := by
      rw [← hml]; clear hml hmr hcl; induction Ms with
      | nil => simp
      | cons M r ih =>
        rw [List.flatten_cons, List.length_append, hmn M (by simp), ih (fun L hL => hmn L (by simp [hL])), List.length_cons, Nat.add_mul, Nat.one_mul, Nat.add_comm]
    refine wpList_append_own_at W hgd s y TS hop B T i0 z n bytes hT hi hz0 hz1 hz2 hz hn v xs.length _ hs hown ad ys.length c Ms.flatten hy hfl (fun j u hj => new_sub _ _ _ _ (hcl j u hj)) ?_ (by unfold maxLen; omega) hb2 hB fun v' w' h1 h2 _ h5 => h v' w' ⟨Ls ++ Ms, by simpa using h1, by simp [hll, hml], ?_, ?_⟩ ?_
    · intro u hu; obtain ⟨M, hM, huM⟩ := List.mem_flatten.1 hu; obtain ⟨i, hi'⟩ := List.getElem?_of_mem hM; have hil : i < ys.length := (by rw [← hml]; exact (List.getElem?_eq_some_iff.1 hi').1); exact hone _ M _ (hmr i M _ hi' (List.getElem?_eq_getElem hil)) u huM
    · intro L hL; rcases List.mem_append.1 hL with hL | hL
      · exact hln L hL
      · exact hmn L hL
    · have key : Sub (offW B v.ownBlock W) (offW B v'.ownBlock w') := fun ad u hu => by
        obtain ⟨g1, g2, g3⟩ := off_cell hu; have g4 := World.block_lt_of_cell? W _ g3; have g5 : v'.ownBlock ≠ some ad.block := by
          rcases h5 with e | e
          · rw [e]; exact g2
          · rw [e]; intro e2; injection e2 with e2; omega
        rw [off_mk g1 g5, World.cell?_of_block (h2.block _ g4 (fun e => g2 e.symm))]; exact g3
      have key2 : Sub (newW B2 W) (offW B v.ownBlock W) := fun ad u hu => by
        obtain ⟨g1, g2⟩ := new_cell hu; rw [off_mk (by omega) (fun e => by have := hB2 _ e; omega)]; exact g2
      intro i M y hM hy; by_cases hi : i < Ls.length
      · rw [List.getElem?_append_left hi] at hM; rw [List.getElem?_append_left (by omega)] at hy; exact hsub _ _ _ _ key (hlr i M y hM hy)
      · rw [List.getElem?_append_right (by omega)] at hM hy; rw [hll] at hM; exact hsub _ _ _ _ (key2.trans key) (hmr _ M y hM hy)
    · exact (Below.refl B W).grown h2 hB (fun j hj => (hown.lt j hj).1)
theorem state_len : ∀ (w : World) (L : List Value) (x : QState), StateAt w L x → L.length = 3 := by
  intro w L x h; obtain ⟨_, _, _, _, _, _, _, rfl⟩ := h.shape; rfl
theorem repeat_len {X : Type} {Bg : List Tok → Bool} {E : List Tok → Pr X} : ∀ (g : Nat) (acc : List X) (ts : List Tok) (l : List X) (ts' : List Tok), repeatP Bg E g acc ts = some (.ok l ts') → l.length ≤ acc.length + g
  | 0, _, _, _, _, h => by rw [repeatP] at h; cases h
  | g + 1, acc, ts, l, ts', h => by
    rw [repeatP] at h
    split at h
    · cases h
    · split at h
      · rcases bindP_some h with ⟨f, _, e⟩ | ⟨x, ts1, _, h2⟩
        · cases e
        · have := repeat_len g _ ts1 l ts' h2
          simp only [List.length_append, List.length_cons, List.length_nil] at this
          omega
      · cases h
        omega
set_option maxRecDepth 100000 in
set_option maxHeartbeats 2000000 in
theorem automaton_any {E : PrX} (HE : PartOk 28 REx (fun o ts => E ts o)) : PartOk 119 RSs (fun o => automatonP fun ts => E ts o) := by
  intro N G o ts q hq w h; have HQ0 := Lib.hid (show bindP (wantP autoT ts) (fun _ ts => bindP (stateP (fun ts => E ts o) ts) fun s ts => bindP (repeatedP (atP stateW) (stateP fun ts => E ts o) ts) fun l ts => bindP (wantP endW ts) fun _ ts => bindP (wantP semiT ts) fun _ ts => some (.ok (s :: l) ts)) = some q from hq); have HP0 := Lib.hid h; have HK0 := Lib.hid (KeptN.refl N w); have HST := Lib.hid (pstate_any HE); have hmf := make_fn; have hN := h.lt; have hG := h.2.2.1; have HSN := Lib.hid (fun (a b : World) (k : KeptN N a b) => k.same (B := w.heap.size) hN); clear h hq HE; go_enter Tryz.func119, Tryz.ntmps119
  go_wp2_with (first
    | (go_at_call 80; rcases bindP_some HQ0.out with ⟨f, hf, rfl⟩ | ⟨x1, ts1, h1, hq1⟩
       · (with_reducible refine (want_auto N G o _ _ hf _ HP0.out).mono ?_); rintro e w7 ⟨rfl, hk7⟩; exact ⟨rfl, rfl, HK0.out.trans hk7⟩
       (with_reducible refine (want_auto N G o _ _ h1 _ HP0.out).mono ?_); rintro e w7 ⟨v1, rfl, hr7, hp7, hk7⟩; obtain ⟨V1, rfl⟩ : ∃ W, W = w7 := ⟨_, rfl⟩; have HQ1 := Lib.hid hq1; have HP1 := Lib.hid hp7; have HK1 := Lib.hid (HK0.out.trans hk7); have HJ1 := Lib.hid hk7; have q1 : w.heap.size ≤ V1.heap.size := hk7.size; cases hr7; clear hq1 hp7 hk7 h1)
    | (go_at_call 141; rcases bindP_some HQ1.out with ⟨f, hf, rfl⟩ | ⟨x2, ts2, h2, hq2⟩
       · (with_reducible refine (HST.out N G o _ _ hf _ HP1.out).mono ?_); rintro e w7 ⟨rfl, hk7⟩; exact ⟨rfl, rfl, HK1.out.trans hk7⟩
       (with_reducible refine (HST.out N G o _ _ h2 _ HP1.out).mono ?_); rintro e w7 ⟨v2, rfl, hr7, hp7, hk7⟩; obtain ⟨V2, rfl⟩ : ∃ W, W = w7 := ⟨_, rfl⟩; have HQ2 := Lib.hid hq2; have HP2 := Lib.hid hp7; have HK2 := Lib.hid (HK1.out.trans hk7); have HJ2 := Lib.hid hk7; have q2 : V1.heap.size ≤ V2.heap.size := hk7.size; obtain ⟨L, rfl, hx⟩ := hr7; have HX2 := Lib.hid (StateAt.lift (B' := w.heap.size) hx (Same.refl _ _) q1); obtain ⟨s2, A2, m2, k2, B2, j2, l2, rfl⟩ := hx.shape; clear hx; have PW2 := Lib.hid (HP2.out.under ((Below.refl _ _).alloc (Nat.le_refl _) (.cells #[.string s2, .slice A2 m2 k2, .slice B2 j2 l2] 112))); have KK2 := Lib.hid (HK2.out.alloc (.cells #[.string s2, .slice A2 m2 k2, .slice B2 j2 l2] 112)); clear hq2 hp7 hk7 h2)
    | (go_at_call 142; rcases bindP_some HQ2.out with ⟨f, hf, rfl⟩ | ⟨x3, ts3, h3, hq3⟩
       · (with_reducible refine (repeatedS_any enter_atState enter_state atState_any HST.out N G o _ _ hf _ PW2.out).mono ?_); rintro e w7 ⟨rfl, hk7⟩; exact ⟨rfl, rfl, KK2.out.trans hk7⟩
       (with_reducible refine (repeatedS_any enter_atState enter_state atState_any HST.out N G o _ _ h3 _ PW2.out).mono ?_); rintro e w7 ⟨v3, rfl, hr7, hp7, hk7⟩; obtain ⟨V3, rfl⟩ : ∃ W, W = w7 := ⟨_, rfl⟩; have HQ3 := Lib.hid hq3; have HP3 := Lib.hid hp7; have HK3 := Lib.hid (KK2.out.trans hk7); have HJ3 := Lib.hid hk7; have q3 : V2.heap.size + 1 ≤ V3.heap.size := (by have := hk7.size; simpa using this); obtain ⟨A3, m3, l3, rfl⟩ := SliceAt.shape hr7; have HX3 := Lib.hid (RSs.lift (B' := V2.heap.size + 1) hr7 (Same.refl _ _) (Nat.le_of_eq (by simp))); have HO3 := Lib.hid (OwnL.same (B := w.heap.size) subS (OwnL.one (R := (fun w L x => StateAt w L x)) (B := w.heap.size) (T := 112) (n := 3) (w := V2) (L := [.string s2, .slice A2 m2 k2, .slice B2 j2 l2]) (x := x2) subS rfl HX2.out HK2.out.size) (HSN.out _ _ hk7)); have hlen3 : [x2].length + x3.length ≤ 4194304 := by
         have h4 := repeat_len _ _ _ _ _ h3; have h5 := PW2.out.1.1; simp only [List.length_cons, List.length_nil] at h4 ⊢; omega
       have hB3 : w.heap.size ≤ V3.heap.size := (by omega); have hB4 : w.heap.size ≤ V2.heap.size + 1 := (by omega); have hB5 : ∀ g, (Value.slice (some ⟨V2.heap.size, 0, none⟩) 1 1).ownBlock = some g → g < V2.heap.size + 1 := fun g hg => by simp [Value.ownBlock] at hg; omega
       have HLEN3 := Lib.hid hlen3; have HB5 := Lib.hid hB5; clear hlen3 hB5; clear hq3 hp7 hk7 h3)
    | (at_builtin; refine append_ownLs (R := (fun w L x => StateAt w L x)) (B := w.heap.size) (B2 := V2.heap.size + 1) (v := .slice (some ⟨V2.heap.size, 0, none⟩) 1 1) (xs := [x2]) (ys := x3) (A := A3) (m := m3) (c := l3) subS rfl _ _ rfl Tryz.underlying77 infoS rfl (by decide) (by decide) state_len (fun _ _ _ h => cell1S h) rfl rfl HO3.out HX3.out HB5.out hB4 HLEN3.out hB3 ?_; (intro v5 w5 ho5 hb5; have HO5 := Lib.hid ho5; have HP5 := Lib.hid (HP3.out.onB hb5 hN hG); have HK5 := Lib.hid (HK3.out.onB hb5 (Nat.le_refl _)); clear ho5 hb5))
    | (go_at_call 80; rcases bindP_some HQ3.out with ⟨f, hf, rfl⟩ | ⟨x4, ts4, h4, hq4⟩
       · (with_reducible refine (want_end N G o _ _ hf _ HP5.out).mono ?_); rintro e w7 ⟨rfl, hk7⟩; exact ⟨rfl, rfl, HK5.out.trans hk7⟩
       (with_reducible refine (want_end N G o _ _ h4 _ HP5.out).mono ?_); rintro e w7 ⟨v4, rfl, hr7, hp7, hk7⟩; obtain ⟨V4, rfl⟩ : ∃ W, W = w7 := ⟨_, rfl⟩; have HQ4 := Lib.hid hq4; have HP4 := Lib.hid hp7; have HK4 := Lib.hid (HK5.out.trans hk7); have HJ4 := Lib.hid hk7; cases hr7; have HO4 := Lib.hid (OwnL.same (B := w.heap.size) subS HO5.out (HSN.out _ _ hk7)); clear hq4 hp7 hk7 h4)
    | (go_at_call 80; rcases bindP_some HQ4.out with ⟨f, hf, rfl⟩ | ⟨x5, ts5, h5, hq5⟩
       · (with_reducible refine (want_semi N G o _ _ hf _ HP4.out).mono ?_); rintro e w7 ⟨rfl, hk7⟩; exact ⟨rfl, rfl, HK4.out.trans hk7⟩
       (with_reducible refine (want_semi N G o _ _ h5 _ HP4.out).mono ?_); rintro e w7 ⟨v5, rfl, hr7, hp7, hk7⟩; obtain ⟨V5, rfl⟩ : ∃ W, W = w7 := ⟨_, rfl⟩; have HQ5 := Lib.hid hq5; have HP5 := Lib.hid hp7; have HK5 := Lib.hid (HK4.out.trans hk7); have HJ5 := Lib.hid hk7; cases hr7; have HO6 := Lib.hid (OwnL.same (B := w.heap.size) subS HO4.out (HSN.out _ _ hk7)); cases HQ5.out; clear hq5 hp7 hk7 h5))
  go_ret; exact ⟨_, rfl, OwnL.at_ subS HO6.out, HP5.out, HK5.out⟩
theorem item_info : (Tryz.prog.info? 79).map (·.size) = some 7 := by kernel_rfl
set_option maxRecDepth 100000 in
theorem item_results {tmps : Array Value} {w : World} {N : Nat} {x0 x1 x2 x3 x4 x5 x6 : Value} (hp : tmps.getD 2 undef = .pointer (some ⟨N, 0, none⟩)) (hg : w.heap[N]? = some (.cells #[x0, x1, x2, x3, x4, x5, x6] 79 (0, 0))) :
    (results Tryz.f89 tmps).run Tryz.prog w = .ok (.agg #[x0, x1, x2, x3, x4, x5, x6]) w :=
  results_cell_row Tryz.results89 tmps w N 79 _ (0, 0) _ hp hg Tryz.underlying79 rfl item_info
set_option maxRecDepth 100000 in
set_option maxHeartbeats 2000000 in
theorem pitem_any {E : PrX} (HE : PartOk 28 REx (fun o ts => E ts o)) : PartOk 89 RIV (fun o => itemP fun ts => E ts o) := by
  intro N G o ts q hq w h; replace hq : itemP (fun ts => E ts o) ts = some q := hq; have HAU := Lib.hid (automaton_any HE); have HEQ := Lib.hid (pequation_any HE); cases ts with
  | nil => simp [itemP, atP, equationP, definedP, nameP, textP, bindP] at hq
  | cons t r =>
    have HAL := Lib.hid ((Below.refl w.heap.size w).alloc (Nat.le_refl _) (.cells #[.slice none 0 0, .int .i64 0, .string ⟨#[]⟩, .int .i64 0, .slice none 0 0, .slice none 0 0, .slice none 0 0] 79)); have HA := Lib.hid (at_auto (h.under HAL.out)); have HP0 := Lib.hid h; have hN := h.lt; have hG := h.2.2.1; by_cases ht : t.text = autoT
    · rw [decide_eq_true ht] at HA; have HQ := Lib.hid (show bindP (automatonP (fun ts => E ts o) (t :: r)) (fun l ts => some (.ok ⟨⟨[], .mk 0 [] 0 [] []⟩, l⟩ ts)) = some q by have h2 : atP autoT (t :: r) = true := decide_eq_true ht; unfold itemP at hq; rwa [if_pos h2] at hq); clear h hq HE ht; go_enter Tryz.func89, Tryz.ntmps89
      go_wp2_with (first
        | (go_at_call 117; (with_reducible refine HA.out.mono ?_); rintro e w7 ⟨rfl, hb7⟩; obtain ⟨V0, rfl⟩ : ∃ W, W = w7 := ⟨_, rfl⟩; have HB0 := Lib.hid (HAL.out.trans (hb7.mono HAL.out.size)); have HPV := Lib.hid (HP0.out.under HB0.out); have HKV := Lib.hid (KeptN.of_below (N := N) HB0.out); have HZV := Lib.hid (box_next hb7 (heap_alloc_new w (.cells #[.slice none 0 0, .int .i64 0, .string ⟨#[]⟩, .int .i64 0, .slice none 0 0, .slice none 0 0, .slice none 0 0] 79))); have q0 : w.heap.size + 1 ≤ V0.heap.size := (by have := hb7.size; simpa using this); clear hb7)
        | (go_at_call 119; rcases bindP_some HQ.out with ⟨f, hf, rfl⟩ | ⟨x1, ts1, h1, hq1⟩
           · (with_reducible refine (HAU.out N G o _ _ hf _ HPV.out).mono ?_); rintro e w7 ⟨rfl, hk7⟩; exact ⟨rfl, rfl, HKV.out.trans hk7⟩
           (with_reducible refine (HAU.out N G o _ _ h1 _ HPV.out).mono ?_); rintro e w7 ⟨v1, rfl, hr7, hp7, hk7⟩; obtain ⟨V1, rfl⟩ : ∃ W, W = w7 := ⟨_, rfl⟩; have HP1 := Lib.hid hp7; have HK1 := Lib.hid (HKV.out.trans hk7); have q1 : V0.heap.size ≤ V1.heap.size := hk7.size; have HZ1 := Lib.hid (hk7.cells HZV.out (by omega)); obtain ⟨A1, m1, l1, rfl⟩ := SliceAt.shape hr7; have HX1 := Lib.hid hr7; cases hq1; obtain ⟨r0, r1, r2, r3, r4, r5, r6⟩ := row7 HZ1.out; have f0 := row_frozen HZ1.out 0; have f1 := row_frozen HZ1.out 1; have f2 := row_frozen HZ1.out 2; have f3 := row_frozen HZ1.out 3; have f4 := row_frozen HZ1.out 4; have f5 := row_frozen HZ1.out 5; have f6 := row_frozen HZ1.out 6; clear hp7 hk7 h1))
      have KF := ((((((((KeptN.refl w.heap.size V1).setCell (a := ⟨w.heap.size, 0, none⟩) rfl (.slice none 0 0)).setCell (a := ⟨w.heap.size, 1, none⟩) rfl (.int .i64 0)).setCell (a := ⟨w.heap.size, 2, none⟩) rfl (.string ⟨#[]⟩)).setCell (a := ⟨w.heap.size, 3, none⟩) rfl (.int .i64 0)).setCell (a := ⟨w.heap.size, 4, none⟩) rfl (.slice none 0 0)).setCell (a := ⟨w.heap.size, 5, none⟩) rfl (.slice none 0 0)).setCell (a := ⟨w.heap.size, 6, none⟩) rfl (.slice A1 m1 l1)); exact bodyPost_ret (item_results rfl (set_row7 _ _ _ _ _ _ _ HZ1.out)) rfl ⟨_, rfl, ⟨_, rfl, ⟨[.slice none 0 0, .int .i64 0, .string ⟨#[]⟩, .int .i64 0, .slice none 0 0, .slice none 0 0], _, rfl, ⟨_, _, rfl, strs_none _, ex_leaf _ (by constructor <;> omega) (by constructor <;> omega) (by simp [maxLen])⟩, RSs.lift HX1.out ((Same.refl _ _).kk KF (by omega)) (by omega)⟩⟩, HP1.out.keptM KF (by omega) (by omega), HK1.out.thenM KF (Nat.le_refl _)⟩
    · rw [decide_eq_false ht] at HA; have HQ := Lib.hid (show bindP (equationP (fun ts => E ts o) (t :: r)) (fun q ts => some (.ok ⟨q, []⟩ ts)) = some q by have h2 : atP autoT (t :: r) = false := decide_eq_false ht; unfold itemP at hq; rwa [if_neg (by rw [h2]; simp)] at hq); clear h hq HE ht; go_enter Tryz.func89, Tryz.ntmps89
      go_wp2_with (first
        | (go_at_call 117; (with_reducible refine HA.out.mono ?_); rintro e w7 ⟨rfl, hb7⟩; obtain ⟨V0, rfl⟩ : ∃ W, W = w7 := ⟨_, rfl⟩; have HB0 := Lib.hid (HAL.out.trans (hb7.mono HAL.out.size)); have HPV := Lib.hid (HP0.out.under HB0.out); have HKV := Lib.hid (KeptN.of_below (N := N) HB0.out); have HZV := Lib.hid (box_next hb7 (heap_alloc_new w (.cells #[.slice none 0 0, .int .i64 0, .string ⟨#[]⟩, .int .i64 0, .slice none 0 0, .slice none 0 0, .slice none 0 0] 79))); have q0 : w.heap.size + 1 ≤ V0.heap.size := (by have := hb7.size; simpa using this); clear hb7)
        | (go_at_call 120; rcases bindP_some HQ.out with ⟨f, hf, rfl⟩ | ⟨x1, ts1, h1, hq1⟩
           · (with_reducible refine (HEQ.out N G o _ _ hf _ HPV.out).mono ?_); rintro e w7 ⟨rfl, hk7⟩; exact ⟨rfl, rfl, HKV.out.trans hk7⟩
           (with_reducible refine (HEQ.out N G o _ _ h1 _ HPV.out).mono ?_); rintro e w7 ⟨v1, rfl, hr7, hp7, hk7⟩; obtain ⟨V1, rfl⟩ : ∃ W, W = w7 := ⟨_, rfl⟩; have HP1 := Lib.hid hp7; have HK1 := Lib.hid (HKV.out.trans hk7); have q1 : V0.heap.size ≤ V1.heap.size := hk7.size; have HZ1 := Lib.hid (hk7.cells HZV.out (by omega)); obtain ⟨L, rfl, hx⟩ := hr7; have HX1 := Lib.hid hx; obtain ⟨A3, m3, k3, o1, s1, n1, A1, m1, k1, A2, m2, k2, rfl⟩ := hx.shape; clear hx; cases hq1; obtain ⟨r0, r1, r2, r3, r4, r5, r6⟩ := row7 HZ1.out; have f0 := row_frozen HZ1.out 0; have f1 := row_frozen HZ1.out 1; have f2 := row_frozen HZ1.out 2; have f3 := row_frozen HZ1.out 3; have f4 := row_frozen HZ1.out 4; have f5 := row_frozen HZ1.out 5; have f6 := row_frozen HZ1.out 6; clear hp7 hk7 h1))
      have KF := ((((((((KeptN.refl w.heap.size V1).setCell (a := ⟨w.heap.size, 0, none⟩) rfl (.slice A3 m3 k3)).setCell (a := ⟨w.heap.size, 1, none⟩) rfl (.int .i64 o1)).setCell (a := ⟨w.heap.size, 2, none⟩) rfl (.string s1)).setCell (a := ⟨w.heap.size, 3, none⟩) rfl (.int .i64 n1)).setCell (a := ⟨w.heap.size, 4, none⟩) rfl (.slice A1 m1 k1)).setCell (a := ⟨w.heap.size, 5, none⟩) rfl (.slice A2 m2 k2)).setCell (a := ⟨w.heap.size, 6, none⟩) rfl (.slice none 0 0)); exact bodyPost_ret (item_results rfl (set_row7 _ _ _ _ _ _ _ HZ1.out)) rfl ⟨_, rfl, ⟨_, rfl, ⟨[.slice A3 m3 k3, .int .i64 o1, .string s1, .int .i64 n1, .slice A1 m1 k1, .slice A2 m2 k2], _, rfl, EqAt.lift HX1.out ((Same.refl _ _).kk KF (by omega)) (by omega), ⟨none, 0, rfl, Nat.le_refl _, by unfold maxLen; omega, fun i x h => by simp at h⟩⟩⟩, HP1.out.keptM KF (by omega) (by omega), HK1.out.thenM KF (Nat.le_refl _)⟩
end Go.Proofs.YtoajfnfhphoaeaaGreatDoor

namespace Go.Proofs.YtoajfnfhphoaeaaGreatDoor
open Go.RowKit
theorem node_info : (Tryz.prog.info? 56).map (·.size) = some 5 := by kernel_rfl
set_option maxRecDepth 100000 in
theorem node_results {tmps : Array Value} {w : World} {N : Nat} {x0 x1 x2 x3 x4 : Value} (hp : tmps.getD 2 undef = .pointer (some ⟨N, 0, none⟩)) (hg : w.heap[N]? = some (.cells #[x0, x1, x2, x3, x4] 56 (0, 0))) :
    (results Tryz.f46 tmps).run Tryz.prog w = .ok (.agg #[x0, x1, x2, x3, x4]) w :=
  results_cell_row Tryz.results46 tmps w N 56 _ (0, 0) _ hp hg Tryz.underlying56 rfl node_info
set_option maxRecDepth 100000 in
set_option maxHeartbeats 2000000 in
theorem node_any {E : PrX} (HE : PartOk 28 REx (fun o ts => E ts o)) : PartOk 46 RNodeV (fun o => nodeP fun ts => E ts o) := by
  intro N G o ts q hq w h; have HQ0 := Lib.hid (show bindP (wantP nodeW ts) (fun _ ts => bindP (nameP ts) fun n ts => bindP (staticsP ts) fun fs ts => bindP (enclosedP openT namesP shutT ts) fun is ts => bindP (wantP eqSign ts) fun _ ts => bindP (enclosedP openT namesP shutT ts) fun os ts => bindP (wantP whereT ts) fun _ ts => bindP (repeatedP atItemP (itemP fun ts => E ts o) ts) fun l ts => bindP (wantP endW ts) fun _ ts => some (.ok ⟨n, fs, is, os, l⟩ ts)) = some q from hq); have HP0 := Lib.hid h; have HK0 := Lib.hid (KeptN.refl N w); have HEE := Lib.hid HE; have HIT := Lib.hid (pitem_any HE); have hmf := make_fn; have hN := h.lt; have hG := h.2.2.1; clear h hq HE; go_enter Tryz.func46, Tryz.ntmps46
  go_wp2_with (first
    | (go_at_call 80; rcases bindP_some HQ0.out with ⟨f, hf, rfl⟩ | ⟨x1, ts1, h1, hq1⟩
       · (with_reducible refine (want_node N G o _ _ hf _ (HP0.out.under ((Below.refl _ _).alloc (Nat.le_refl _) (.cells #[.string ⟨#[]⟩, .slice none 0 0, .slice none 0 0, .slice none 0 0, .slice none 0 0] 56)))).mono ?_); rintro e w7 ⟨rfl, hk7⟩; exact ⟨rfl, rfl, (HK0.out.alloc (.cells #[.string ⟨#[]⟩, .slice none 0 0, .slice none 0 0, .slice none 0 0, .slice none 0 0] 56)).trans hk7⟩
       (with_reducible refine (want_node N G o _ _ h1 _ (HP0.out.under ((Below.refl _ _).alloc (Nat.le_refl _) (.cells #[.string ⟨#[]⟩, .slice none 0 0, .slice none 0 0, .slice none 0 0, .slice none 0 0] 56)))).mono ?_); rintro e w7 ⟨v1, rfl, hr7, hp7, hk7⟩; obtain ⟨V1, rfl⟩ : ∃ W, W = w7 := ⟨_, rfl⟩; have HQ1 := Lib.hid hq1; have HP1 := Lib.hid hp7; have HK1 := Lib.hid ((HK0.out.alloc (.cells #[.string ⟨#[]⟩, .slice none 0 0, .slice none 0 0, .slice none 0 0, .slice none 0 0] 56)).trans hk7); have HJ1 := Lib.hid hk7; have q1 : w.heap.size + 1 ≤ V1.heap.size := (by have := hk7.size; simpa using this); have HZ1 := Lib.hid (hk7.cells (heap_alloc_new w (.cells #[.string ⟨#[]⟩, .slice none 0 0, .slice none 0 0, .slice none 0 0, .slice none 0 0] 56)) (by omega)); cases hr7; clear hq1 hp7 hk7 h1)
    | (go_at_call 81; rcases bindP_some HQ1.out with ⟨f, hf, rfl⟩ | ⟨x2, ts2, h2, hq2⟩
       · (with_reducible refine (name_any N G o _ _ hf _ HP1.out).mono ?_); rintro e w7 ⟨rfl, hk7⟩; exact ⟨rfl, rfl, HK1.out.trans hk7⟩
       (with_reducible refine (name_any N G o _ _ h2 _ HP1.out).mono ?_); rintro e w7 ⟨v2, rfl, hr7, hp7, hk7⟩; obtain ⟨V2, rfl⟩ : ∃ W, W = w7 := ⟨_, rfl⟩; have HQ2 := Lib.hid hq2; have HP2 := Lib.hid hp7; have HK2 := Lib.hid (HK1.out.trans hk7); have HJ2 := Lib.hid hk7; have q2 : V1.heap.size ≤ V2.heap.size := hk7.size; have HZ2 := Lib.hid (hk7.cells HZ1.out (by omega)); obtain ⟨rfl, hx⟩ := hr7; have HX2 := Lib.hid hx; clear hx; have PW2 := Lib.hid (HP2.out.under ((Below.refl _ _).alloc (Nat.le_refl _) (.cells #[.string (str x2), .slice none 0 0, .slice none 0 0, .slice none 0 0, .slice none 0 0] 56))); have KK2 := Lib.hid (HK2.out.alloc (.cells #[.string (str x2), .slice none 0 0, .slice none 0 0, .slice none 0 0, .slice none 0 0] 56)); have ZW2 := Lib.hid (alloc_below (o := (.cells #[.string (str x2), .slice none 0 0, .slice none 0 0, .slice none 0 0, .slice none 0 0] 56)) HZ2.out); have CW2 := Lib.hid (heap_alloc_new V2 (.cells #[.string (str x2), .slice none 0 0, .slice none 0 0, .slice none 0 0, .slice none 0 0] 56)); clear hq2 hp7 hk7 h2)
    | (go_at_call 84; rcases bindP_some HQ2.out with ⟨f, hf, rfl⟩ | ⟨x3, ts3, h3, hq3⟩
       · (with_reducible refine (pstatics_any N G o _ _ hf _ PW2.out).mono ?_); rintro e w7 ⟨rfl, hk7⟩; exact ⟨rfl, rfl, KK2.out.trans hk7⟩
       (with_reducible refine (pstatics_any N G o _ _ h3 _ PW2.out).mono ?_); rintro e w7 ⟨v3, rfl, hr7, hp7, hk7⟩; obtain ⟨V3, rfl⟩ : ∃ W, W = w7 := ⟨_, rfl⟩; have HQ3 := Lib.hid hq3; have HP3 := Lib.hid hp7; have HK3 := Lib.hid (KK2.out.trans hk7); have HJ3 := Lib.hid hk7; have q3 : V2.heap.size + 1 ≤ V3.heap.size := (by have := hk7.size; simpa using this); have HZ3 := Lib.hid (hk7.cells ZW2.out (by omega)); have HC3 := Lib.hid (hk7.cells CW2.out (by omega)); obtain ⟨A3, m3, l3, rfl⟩ := SliceAt.shape hr7; have HX3 := Lib.hid (RStrs.lift (B' := V2.heap.size + 1) hr7 (Same.refl _ _) (Nat.le_of_eq (by simp))); have KW3 := Lib.hid ((KeptN.refl V2.heap.size V3).setCell (a := ⟨V2.heap.size, 1, none⟩) rfl (.slice A3 m3 l3)); have PW3 := Lib.hid (HP3.out.keptM KW3.out (by omega) (by omega)); have ZW3 := Lib.hid (KW3.out.cells HZ3.out (by omega)); have KK3 := Lib.hid (HK3.out.thenM KW3.out (by omega)); have CW3 := Lib.hid ((heap_setCell_same _ _ 1 _ _ (.slice A3 m3 l3) HC3.out)); obtain ⟨c3_0, c3_1, c3_2, c3_3, c3_4⟩ := row5 HC3.out; have g3_1 := row_frozen HC3.out 1; clear hq3 hp7 hk7 h3)
    | (go_at_call 85; rcases bindP_some HQ3.out with ⟨f, hf, rfl⟩ | ⟨x4, ts4, h4, hq4⟩
       · (with_reducible refine (enc_names N G o _ _ hf _ PW3.out).mono ?_); rintro e w7 ⟨rfl, hk7⟩; exact ⟨rfl, rfl, KK3.out.trans hk7⟩
       (with_reducible refine (enc_names N G o _ _ h4 _ PW3.out).mono ?_); rintro e w7 ⟨v4, rfl, hr7, hp7, hk7⟩; obtain ⟨V4, rfl⟩ : ∃ W, W = w7 := ⟨_, rfl⟩; have HQ4 := Lib.hid hq4; have HP4 := Lib.hid hp7; have HK4 := Lib.hid (KK3.out.trans hk7); have HJ4 := Lib.hid hk7; have q4 : V3.heap.size ≤ V4.heap.size := Nat.le_trans KW3.out.size hk7.size; have HZ4 := Lib.hid (hk7.cells ZW3.out (by omega)); have HC4 := Lib.hid (hk7.cells CW3.out (by omega)); obtain ⟨A4, m4, l4, rfl⟩ := SliceAt.shape hr7; have HX4 := Lib.hid (RStrs.lift (B' := V3.heap.size) hr7 (Same.refl _ _) KW3.out.size); have KW4 := Lib.hid ((KeptN.refl V2.heap.size V4).setCell (a := ⟨V2.heap.size, 2, none⟩) rfl (.slice A4 m4 l4)); have PW4 := Lib.hid (HP4.out.keptM KW4.out (by omega) (by omega)); have ZW4 := Lib.hid (KW4.out.cells HZ4.out (by omega)); have KK4 := Lib.hid (HK4.out.thenM KW4.out (by omega)); have CW4 := Lib.hid ((heap_setCell_same _ _ 2 _ _ (.slice A4 m4 l4) HC4.out)); obtain ⟨c4_0, c4_1, c4_2, c4_3, c4_4⟩ := row5 HC4.out; have g4_2 := row_frozen HC4.out 2; clear hq4 hp7 hk7 h4)
    | (go_at_call 80; rcases bindP_some HQ4.out with ⟨f, hf, rfl⟩ | ⟨x5, ts5, h5, hq5⟩
       · (with_reducible refine (want_eqsign N G o _ _ hf _ PW4.out).mono ?_); rintro e w7 ⟨rfl, hk7⟩; exact ⟨rfl, rfl, KK4.out.trans hk7⟩
       (with_reducible refine (want_eqsign N G o _ _ h5 _ PW4.out).mono ?_); rintro e w7 ⟨v5, rfl, hr7, hp7, hk7⟩; obtain ⟨V5, rfl⟩ : ∃ W, W = w7 := ⟨_, rfl⟩; have HQ5 := Lib.hid hq5; have HP5 := Lib.hid hp7; have HK5 := Lib.hid (KK4.out.trans hk7); have HJ5 := Lib.hid hk7; have q5 : V4.heap.size ≤ V5.heap.size := Nat.le_trans KW4.out.size hk7.size; have HZ5 := Lib.hid (hk7.cells ZW4.out (by omega)); have HC5 := Lib.hid (hk7.cells CW4.out (by omega)); cases hr7; clear hq5 hp7 hk7 h5)
    | (go_at_call 85; rcases bindP_some HQ5.out with ⟨f, hf, rfl⟩ | ⟨x6, ts6, h6, hq6⟩
       · (with_reducible refine (enc_names N G o _ _ hf _ HP5.out).mono ?_); rintro e w7 ⟨rfl, hk7⟩; exact ⟨rfl, rfl, HK5.out.trans hk7⟩
       (with_reducible refine (enc_names N G o _ _ h6 _ HP5.out).mono ?_); rintro e w7 ⟨v6, rfl, hr7, hp7, hk7⟩; obtain ⟨V6, rfl⟩ : ∃ W, W = w7 := ⟨_, rfl⟩; have HQ6 := Lib.hid hq6; have HP6 := Lib.hid hp7; have HK6 := Lib.hid (HK5.out.trans hk7); have HJ6 := Lib.hid hk7; have q6 : V5.heap.size ≤ V6.heap.size := hk7.size; have HZ6 := Lib.hid (hk7.cells HZ5.out (by omega)); have HC6 := Lib.hid (hk7.cells HC5.out (by omega)); obtain ⟨A6, m6, l6, rfl⟩ := SliceAt.shape hr7; have HX6 := Lib.hid (RStrs.lift (B' := V5.heap.size) hr7 (Same.refl _ _) (Nat.le_refl _)); have KW6 := Lib.hid ((KeptN.refl V2.heap.size V6).setCell (a := ⟨V2.heap.size, 3, none⟩) rfl (.slice A6 m6 l6)); have PW6 := Lib.hid (HP6.out.keptM KW6.out (by omega) (by omega)); have ZW6 := Lib.hid (KW6.out.cells HZ6.out (by omega)); have KK6 := Lib.hid (HK6.out.thenM KW6.out (by omega)); have CW6 := Lib.hid ((heap_setCell_same _ _ 3 _ _ (.slice A6 m6 l6) HC6.out)); obtain ⟨c6_0, c6_1, c6_2, c6_3, c6_4⟩ := row5 HC6.out; have g6_3 := row_frozen HC6.out 3; clear hq6 hp7 hk7 h6)
    | (go_at_call 80; rcases bindP_some HQ6.out with ⟨f, hf, rfl⟩ | ⟨x7, ts7, h7, hq7⟩
       · (with_reducible refine (want_where N G o _ _ hf _ PW6.out).mono ?_); rintro e w7 ⟨rfl, hk7⟩; exact ⟨rfl, rfl, KK6.out.trans hk7⟩
       (with_reducible refine (want_where N G o _ _ h7 _ PW6.out).mono ?_); rintro e w7 ⟨v7, rfl, hr7, hp7, hk7⟩; obtain ⟨V7, rfl⟩ : ∃ W, W = w7 := ⟨_, rfl⟩; have HQ7 := Lib.hid hq7; have HP7 := Lib.hid hp7; have HK7 := Lib.hid (KK6.out.trans hk7); have HJ7 := Lib.hid hk7; have q7 : V6.heap.size ≤ V7.heap.size := Nat.le_trans KW6.out.size hk7.size; have HZ7 := Lib.hid (hk7.cells ZW6.out (by omega)); have HC7 := Lib.hid (hk7.cells CW6.out (by omega)); cases hr7; clear hq7 hp7 hk7 h7)
    | (go_at_call 87; rcases bindP_some HQ7.out with ⟨f, hf, rfl⟩ | ⟨x8, ts8, h8, hq8⟩
       · (with_reducible refine (repeatedI_any enter_atItem enter_item atItem_any HIT.out N G o _ _ hf _ HP7.out).mono ?_); rintro e w7 ⟨rfl, hk7⟩; exact ⟨rfl, rfl, HK7.out.trans hk7⟩
       (with_reducible refine (repeatedI_any enter_atItem enter_item atItem_any HIT.out N G o _ _ h8 _ HP7.out).mono ?_); rintro e w7 ⟨v8, rfl, hr7, hp7, hk7⟩; obtain ⟨V8, rfl⟩ : ∃ W, W = w7 := ⟨_, rfl⟩; have HQ8 := Lib.hid hq8; have HP8 := Lib.hid hp7; have HK8 := Lib.hid (HK7.out.trans hk7); have HJ8 := Lib.hid hk7; have q8 : V7.heap.size ≤ V8.heap.size := hk7.size; have HZ8 := Lib.hid (hk7.cells HZ7.out (by omega)); have HC8 := Lib.hid (hk7.cells HC7.out (by omega)); obtain ⟨A8, m8, l8, rfl⟩ := SliceAt.shape hr7; have HX8 := Lib.hid (RIs.lift (B' := V7.heap.size) hr7 (Same.refl _ _) (Nat.le_refl _)); have KW8 := Lib.hid ((KeptN.refl V2.heap.size V8).setCell (a := ⟨V2.heap.size, 4, none⟩) rfl (.slice A8 m8 l8)); have PW8 := Lib.hid (HP8.out.keptM KW8.out (by omega) (by omega)); have ZW8 := Lib.hid (KW8.out.cells HZ8.out (by omega)); have KK8 := Lib.hid (HK8.out.thenM KW8.out (by omega)); have CW8 := Lib.hid ((heap_setCell_same _ _ 4 _ _ (.slice A8 m8 l8) HC8.out)); obtain ⟨c8_0, c8_1, c8_2, c8_3, c8_4⟩ := row5 HC8.out; have g8_4 := row_frozen HC8.out 4; clear hq8 hp7 hk7 h8)
    | (go_at_call 80; rcases bindP_some HQ8.out with ⟨f, hf, rfl⟩ | ⟨x9, ts9, h9, hq9⟩
       · (with_reducible refine (want_end N G o _ _ hf _ PW8.out).mono ?_); rintro e w7 ⟨rfl, hk7⟩; exact ⟨rfl, rfl, KK8.out.trans hk7⟩
       (with_reducible refine (want_end N G o _ _ h9 _ PW8.out).mono ?_); rintro e w7 ⟨v9, rfl, hr7, hp7, hk7⟩; obtain ⟨V9, rfl⟩ : ∃ W, W = w7 := ⟨_, rfl⟩; have HQ9 := Lib.hid hq9; have HP9 := Lib.hid hp7; have HK9 := Lib.hid (KK8.out.trans hk7); have HJ9 := Lib.hid hk7; have q9 : V8.heap.size ≤ V9.heap.size := Nat.le_trans KW8.out.size hk7.size; have HZ9 := Lib.hid (hk7.cells ZW8.out (by omega)); have HC9 := Lib.hid (hk7.cells CW8.out (by omega)); cases hr7; cases HQ9.out; obtain ⟨r0, r1, r2, r3, r4⟩ := row5 HZ9.out; have f0 := row_frozen HZ9.out 0; have f1 := row_frozen HZ9.out 1; have f2 := row_frozen HZ9.out 2; have f3 := row_frozen HZ9.out 3; have f4 := row_frozen HZ9.out 4; obtain ⟨d0, d1, d2, d3, d4⟩ := row5 HC9.out; clear hq9 hp7 hk7 h9))
  have KF := ((((((KeptN.refl w.heap.size V9).setCell (a := ⟨w.heap.size, 0, none⟩) rfl (.string (str x2))).setCell (a := ⟨w.heap.size, 1, none⟩) rfl (.slice A3 m3 l3)).setCell (a := ⟨w.heap.size, 2, none⟩) rfl (.slice A4 m4 l4)).setCell (a := ⟨w.heap.size, 3, none⟩) rfl (.slice A6 m6 l6)).setCell (a := ⟨w.heap.size, 4, none⟩) rfl (.slice A8 m8 l8)); exact bodyPost_ret (node_results rfl (set_row5 _ _ _ _ _ HZ9.out)) rfl ⟨_, rfl, ⟨_, rfl, ⟨_, _, _, _, rfl, HX2.out, (RStrs.lift HX3.out ((((((((((((Same.refl (V2.heap.size + 1) V3).kk KW3.out (by omega)).kk HJ4.out (by omega)).kk KW4.out (by omega)).kk HJ5.out (by omega)).kk HJ6.out (by omega)).kk KW6.out (by omega)).kk HJ7.out (by omega)).kk HJ8.out (by omega)).kk KW8.out (by omega)).kk HJ9.out (by omega)).kk KF (by omega)) (by omega)), (RStrs.lift HX4.out ((((((((((Same.refl (V3.heap.size) V4).kk KW4.out (by omega)).kk HJ5.out (by omega)).kk HJ6.out (by omega)).kk KW6.out (by omega)).kk HJ7.out (by omega)).kk HJ8.out (by omega)).kk KW8.out (by omega)).kk HJ9.out (by omega)).kk KF (by omega)) (by omega)), (RStrs.lift HX6.out (((((((Same.refl (V5.heap.size) V6).kk KW6.out (by omega)).kk HJ7.out (by omega)).kk HJ8.out (by omega)).kk KW8.out (by omega)).kk HJ9.out (by omega)).kk KF (by omega)) (by omega)), (RIs.lift HX8.out ((((Same.refl (V7.heap.size) V8).kk KW8.out (by omega)).kk HJ9.out (by omega)).kk KF (by omega)) (by omega))⟩⟩, HP9.out.keptM KF (by omega) (by omega), HK9.out.thenM KF (Nat.le_refl _)⟩
end Go.Proofs.YtoajfnfhphoaeaaGreatDoor

namespace Go.Proofs.YtoajfnfhphoaeaaGreatDoor
open Go.RowKit
section
variable {X : Type} {R : World → List Value → X → Prop} {B : Nat} {T TS : TypeId} {n bytes : Nat} {z : Value} (hsub : ∀ w w' L x, Sub w w' → R w L x → R w' L x)
set_option maxRecDepth 100000 in
set_option maxHeartbeats 1000000 in
include hsub in
/-- one element more -/
theorem step_ownL1 {ops : Array Oper} {o : Oper} {a : Act} {K' : Act → World → Prop} {Q : Exit → Act → World → Prop} {E : Prop} {W : World} {v : Value} {xs : List X} {x : X} {L : List Value} {K : Nat} (hgd : o.guard = none) (s y : Operand)
    (hop : o.op = .call { callee := .builtin .append, args := #[s, y], argTypes := #[TS, TS] }) (hT : Tryz.prog.underlying TS = some (.slice T)) (hI : (Tryz.prog.info? T).map (fun i => (i.zero, i.size, i.bytes)) = some (some z, n, bytes))
    (hz : z.cells.size = n) (hn : 0 < n) (hby : bytes ≤ 4096) (hs : a.eval s = v) (hy : a.eval y = .slice (some ⟨K, 0, none⟩) 1 1) (hK : W.heap[K]? = some (.cells L.toArray T (0, 0))) (hL : L.length = n) (hone : ∀ u ∈ L, u.oneCell' = true)
    (hO : OwnL R B T n W v xs) (hR : R (offW B v.ownBlock W) L x) (hl : xs.length ≤ 2097152) (hB : B ≤ W.heap.size)
    (h : ∀ v' w', OwnL R B T n w' v' (xs ++ [x]) → W.grownBy w' v.ownBlock → (v'.ownBlock = v.ownBlock ∨ v'.ownBlock = some W.heap.size) → K' (a.put o.dst v') w') : if Region.wanted o (yielded ops a.tmps) = true then Oper.wp Tryz.prog o a W K' Q else E := by
  have hw : Region.wanted o (yielded ops a.tmps) = true := (by simp [Region.wanted, hgd]); rw [if_pos hw]; obtain ⟨i0, hi, hz0, hz1, hz2⟩ := info_parts hI; obtain ⟨Ls, hown, hll, hln, hlr⟩ := hO; have hb2 : (xs.length + 1) * bytes ≤ 140737488355328 := by
    have : (xs.length + 1) * bytes ≤ 4194304 * 4096 := Nat.mul_le_mul (by omega) hby
    omega
  obtain ⟨v', w', hr, h1, h2, _, h5⟩ := run_append_own_at (P := Tryz.prog) W B TS o.type T i0 z n bytes hT hi hz0 hz1 hz2 hz hn v xs.length _ hown ⟨K, 0, none⟩ 1 1 L (by simp [hL]) (fun j u hj => by
    have hadd : (⟨K, 0, none⟩ : Addr).add j = ⟨K, j, none⟩ := (by unfold Addr.add; split <;> simp_all)
    rw [hadd, cell_of_row _ _ _ _ _ _ hK]; simpa using hj) hone (by unfold maxLen; omega) hb2 hB
  unfold Oper.wp; simp only [execOp, hop, resolve, invoke, builtin, Sem.run_bind, Sem.run_pure, Result.andThen_ok, List.map_toArray, List.map_cons, List.map_nil, hs, hy, hr]; refine h v' w' ⟨Ls ++ [L], by simpa using h1, by simp [hll], ?_, ?_⟩ h2 h5
  · intro M hM; rcases List.mem_append.1 hM with hM | hM
    · exact hln M hM
    · simp at hM; subst hM; exact hL
  · have key : Sub (offW B v.ownBlock W) (offW B v'.ownBlock w') := fun ad u hu => by
      obtain ⟨g1, g2, g3⟩ := off_cell hu; have g4 := World.block_lt_of_cell? W _ g3; have g5 : v'.ownBlock ≠ some ad.block := by
        rcases h5 with e | e
        · rw [e]; exact g2
        · rw [e]; intro e2; injection e2 with e2; omega
      rw [off_mk g1 g5, World.cell?_of_block (h2.block _ g4 (fun e => g2 e.symm))]; exact g3
    intro i M y hM hy; by_cases hi : i < Ls.length
    · rw [List.getElem?_append_left hi] at hM; rw [List.getElem?_append_left (by omega)] at hy; exact hsub _ _ _ _ key (hlr i M y hM hy)
    · rw [List.getElem?_append_right (by omega)] at hM; rw [List.getElem?_append_right (by omega)] at hy; have e1 : i - Ls.length = 0 := by
        by_cases h0 : i - Ls.length = 0
        · exact h0
        · rw [List.getElem?_eq_none (by simp; omega)] at hM; cases hM
      have e2 : i - xs.length = 0 := (by omega); rw [e1] at hM; rw [e2] at hy; simp at hM hy; subst hM hy; exact hsub _ _ _ _ key hR
end
/-- a world without a block -/
abbrev hideW (ob : Option Nat) (w : World) : World := offW 0 ob w
theorem hide_sub {ob : Option Nat} {w w' : World} (h : Sub w w') : Sub (hideW ob w) (hideW ob w') := fun a u hu => by
  obtain ⟨_, g2, g3⟩ := off_cell hu
  rw [off_mk (Nat.zero_le _) g2]
  exact h _ _ g3
theorem hide_out (ob : Option Nat) (w : World) : Sub (hideW ob w) w := fun _ _ hu => (off_cell hu).2.2
/-- a list of the call's own whose elements' trees lie beside another block too -/
abbrev OwnH {X : Type} (R : World → List Value → X → Prop) (e : Option Nat) (B : Nat) (T : TypeId) (n : Nat) (w : World) (v : Value) (xs : List X) : Prop := OwnL (fun w L x => R (hideW e w) L x) B T n w v xs
section
variable {X : Type} {R : World → List Value → X → Prop} {B : Nat} {T : TypeId} {n : Nat} {e e' : Option Nat} (hsub : ∀ w w' L x, Sub w w' → R w L x → R w' L x)
include hsub in
theorem hideSub : ∀ w w' (L : List Value) (x : X), Sub w w' → R (hideW e w) L x → R (hideW e w') L x := fun _ _ _ _ hs h => hsub _ _ _ _ (hide_sub hs) h
include hsub in
/-- that other block grows -/
theorem OwnL.beside {w w' : World} {v : Value} {xs : List X} (h : OwnH R e B T n w v xs) (hg : w.grownBy w' e) (he : e' = e ∨ e' = some w.heap.size) (hne : ∀ g, v.ownBlock = some g → e ≠ some g) : OwnH R e' B T n w' v xs := by
  obtain ⟨Ls, h1, h2, h3, h4⟩ := h; refine ⟨Ls, ⟨h1.1, ?_⟩, h2, h3, fun i L x hL hx => hsub _ _ _ _ (fun a u hu => ?_) (h4 i L x hL hx)⟩
  · rcases h1.2 with h5 | ⟨g, cap, cur, rfl, hb, hh, hr⟩
    · exact .inl h5
    · exact .inr ⟨g, cap, cur, rfl, hb, (hg.block g (lt_of_heap hh) (fun k => hne g rfl k.symm)).trans hh, hr⟩
  · obtain ⟨_, g2, g3⟩ := off_cell hu; obtain ⟨g4, g5, g6⟩ := off_cell g3; have g7 := World.block_lt_of_cell? w _ g6; have g8 : e' ≠ some a.block := by
      rcases he with k | k
      · rw [k]; exact g2
      · rw [k]; intro k2; injection k2 with k2; omega
    rw [off_mk (Nat.zero_le _) g8, off_mk g4 g5, World.cell?_of_block (hg.block _ g7 (fun k => g2 k.symm))]; exact g6
include hsub in
/-- what is newer than both blocks lies beside them -/
theorem hide_new {w : World} {v : Value} {B2 : Nat} {L : List Value} {x : X} (h : R (newW B2 w) L x) (hB : B ≤ B2) (h1 : ∀ g, v.ownBlock = some g → g < B2) (h2 : ∀ g, e = some g → g < B2) : R (hideW e (offW B v.ownBlock w)) L x := by
  refine hsub _ _ _ _ (fun a u hu => ?_) h; obtain ⟨g1, g2⟩ := new_cell hu; rw [off_mk (Nat.zero_le _) (fun k => by have := h2 _ k; omega), off_mk (by omega) (fun k => by have := h1 _ k; omega)]; exact g2
include hsub in
theorem OwnL.bare {w : World} {v : Value} {xs : List X} (h : OwnH R e B T n w v xs) : SliceAt (newW B w) (R (newW B w)) v xs := by
  obtain ⟨A, c, h1, h2, h3, h4⟩ := OwnL.at_ (hideSub hsub) h; refine ⟨A, c, h1, h2, h3, fun i x hx => ?_⟩; obtain ⟨L, h5, h6⟩ := h4 i x hx; exact ⟨L, h5, hsub _ _ _ _ (hide_out _ _) h6⟩
end
def zeroEn : Value := .agg #[.string ⟨#[]⟩, .slice none 0 0]
theorem infoEn : (Tryz.prog.info? 65).map (fun i => (i.zero, i.size, i.bytes)) = some (some zeroEn, 2, 40) := by kernel_rfl
def zeroNo : Value := .agg #[.string ⟨#[]⟩, .slice none 0 0, .slice none 0 0, .slice none 0 0, .slice none 0 0]
theorem infoNo : (Tryz.prog.info? 56).map (fun i => (i.zero, i.size, i.bytes)) = some (some zeroNo, 5, 112) := by kernel_rfl
theorem subEn : ∀ (w w' : World) (L : List Value) (x : QEnum), Sub w w' → EnumAt w L x → EnumAt w' L x := fun _ _ _ _ hs h => h.sub hs
theorem subNo : ∀ (w w' : World) (L : List Value) (x : QNode), Sub w w' → NodeAt w L x → NodeAt w' L x := fun _ _ _ _ hs h => h.sub hs
theorem cellEn {w : World} {L : List Value} {x : QEnum} (h : EnumAt w L x) : ∀ u ∈ L, u.oneCell' = true := by
  obtain ⟨_, _, _, _, rfl⟩ := h.shape; intro u hu; simp only [List.mem_cons, List.not_mem_nil, or_false] at hu; rcases hu with rfl | rfl <;> rfl
theorem cellNo {w : World} {L : List Value} {x : QNode} (h : NodeAt w L x) : ∀ u ∈ L, u.oneCell' = true := by
  obtain ⟨_, _, _, _, _, _, _, _, _, _, _, _, _, rfl⟩ := h.shape; intro u hu; simp only [List.mem_cons, List.not_mem_nil, or_false] at hu; rcases hu with rfl | rfl | rfl | rfl | rfl <;> rfl
end Go.Proofs.YtoajfnfhphoaeaaGreatDoor
