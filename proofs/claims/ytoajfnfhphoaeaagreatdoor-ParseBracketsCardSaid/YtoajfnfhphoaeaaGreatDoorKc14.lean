/-
  Texts joined, what is not needed here left out: ParseBrk.
-/
import Derived.Test.YtoajfnfhphoaeaaGreatDoorKc13
namespace Go.Proofs.YtoajfnfhphoaeaaGreatDoor
theorem lex_of_toks_tail {r : Tx} {qs : List Key} (hr : Lex (32 :: r) qs) : ∀ (ts : List Tx), ts ≠ [] → (∀ t ∈ ts, tokOk t) → Lex (spellL ts ++ 32 :: r) (ts.map keyAt ++ qs)
  | [], h, _ => absurd rfl h
  | [t], _, h => by
    have ht := h t (by simp)
    obtain ⟨h6, h0, hx⟩ := ht
    obtain ⟨_, h2⟩ := key_self h6 h0
    rw [hx] at h2
    have hk' := key_sep (.inr rfl) h6 r (c := 32)
    have hso : tokSort (t ++ 32 :: r) = tokSort t := congrArg Key.sort hk'
    have htx : tokText (t ++ 32 :: r) = t := (congrArg Key.text hk').trans hx
    have := Lex.tok (l := t ++ 32 :: r) (m := t ++ 32 :: r) (ks := qs) (by rw [h2]; rfl) (by simp) (by rw [hso]; exact h0) (by rw [htx, List.drop_left]; exact hr)
    rw [hk'] at this
    simpa [spellL] using this
  | t :: u :: s, _, h => by
    have ht := h t (by simp)
    have ih := lex_of_toks_tail hr (u :: s) (by simp) (fun x hx => h x (by simp at hx ⊢; exact .inr hx))
    obtain ⟨h6, h0, hx⟩ := ht
    obtain ⟨_, h2⟩ := key_self h6 h0
    rw [hx] at h2
    have hk' := key_sep (.inr rfl) h6 (spellL (u :: s) ++ 32 :: r) (c := 32)
    have hso : tokSort (t ++ 32 :: (spellL (u :: s) ++ 32 :: r)) = tokSort t := congrArg Key.sort hk'
    have htx : tokText (t ++ 32 :: (spellL (u :: s) ++ 32 :: r)) = t := (congrArg Key.text hk').trans hx
    have e : spellL (t :: u :: s) ++ 32 :: r = t ++ 32 :: (spellL (u :: s) ++ 32 :: r) := (by rw [spellL, if_neg (by simp)]; simp)
    rw [e]
    have := Lex.tok (l := t ++ 32 :: (spellL (u :: s) ++ 32 :: r)) (m := t ++ 32 :: (spellL (u :: s) ++ 32 :: r)) (by rw [h2]; rfl) (by simp) (by rw [hso]; exact h0) (ks := (u :: s).map keyAt ++ qs) (by rw [htx, List.drop_left]; exact lex_skip rfl ih)
    rw [hk'] at this
    simpa using this
theorem open_parts (r : Tx) : gapL (40 :: r) = 0 ∧ tokText (40 :: r) = [40] ∧ tokSort (40 :: r) = 4 ∧ tokNum (40 :: r) = 0 := by
  have h0 : runL (40 :: r) = 0 := runL_cons_no (by decide); have hs : signL (40 :: r) = [40] := (by simp [signL, signOf, signsL, List.isPrefixOf]); refine ⟨gapL_none (by decide) (by simp [List.isPrefixOf]), ?_, ?_, ?_⟩
  · simp [tokText, h0, hs]
  · simp [tokSort, h0, hs]
  · simp [tokNum, h0]
theorem lex_open {r : Tx} {ks : List Key} (h : Lex r ks) : Lex (40 :: r) (keyAt [40] :: ks) := by
  obtain ⟨h1, h2, h3, h4⟩ := open_parts r; obtain ⟨_, g2, g3, g4⟩ := open_parts []; have hk : keyAt (40 :: r) = keyAt [40] := (by simp only [keyAt, h2, h3, h4, g2, g3, g4]); have := Lex.tok (l := 40 :: r) (m := 40 :: r) (ks := ks) (by rw [h1]; rfl) (by simp) (by rw [h3]; decide) (by rw [h2]; exact h); rwa [hk] at this
/-- what stands behind, without its line's end -/
def tailB : Tx := [32, 41, 32, 45, 45, 32, 110, 111, 116, 101]
theorem tailB_lex : Lex tailB [keyAt [41], endKey] := by
  have h := lex_of_scan (l := tailB) (by decide +kernel); have e : (scanAll tailB).1.map Tok.key = [keyAt [41], endKey] := (by kernel_rfl); rwa [e] at h
/-- a text in brackets, so often -/
def brk (T : Tx) : Nat → Tx
  | 0 => T
  | k + 1 => 40 :: (brk T k ++ (tailB ++ [10]))
def brkT (ts : List Tx) : Nat → List Tx
  | 0 => ts
  | k + 1 => [40] :: (brkT ts k ++ [[41]])
theorem brkT_ok {ts : List Tx} (h : AllOk ts) : ∀ k, AllOk (brkT ts k)
  | 0 => h
  | k + 1 => .cons (ok_lit (by decide)) (.app (brkT_ok h k) (.cons (ok_lit (by decide)) .nil))
theorem nl_lex : Lex [10] [endKey] := .fin (by decide)
theorem brk_lex {ts : List Tx} (hne : ts ≠ []) (h : AllOk ts) : ∀ k, Lex (40 :: (brk (spellL ts) k ++ tailB)) ((brkT ts (k + 1)).map keyAt ++ [endKey])
  | 0 => by
    have h1 := lex_open (lex_of_toks_tail (r := tailB.tail) tailB_lex ts hne h)
    simpa [brk, brkT, tailB] using h1
  | k + 1 => by
    have h1 := brk_lex hne h k
    have h2 := lex_open (lex_append h1 (c := 10) rfl (r := tailB) (lex_skip rfl tailB_lex))
    rw [List.dropLast_concat] at h2
    have e1 : 40 :: (brk (spellL ts) (k + 1) ++ tailB) = 40 :: (40 :: (brk (spellL ts) k ++ tailB) ++ 10 :: tailB) := (by simp [brk])
    rw [e1]
    simpa [brkT] using h2
theorem brk_lex' {ts : List Tx} (hne : ts ≠ []) (h : AllOk ts) : ∀ k, Lex (brk (spellL ts) k) ((brkT ts k).map keyAt ++ [endKey])
  | 0 => lex_of_toks ts hne h
  | k + 1 => by
    have h1 := lex_append (brk_lex hne h k) (c := 10) rfl (r := []) nl_lex
    rw [List.dropLast_concat] at h1
    have e1 : brk (spellL ts) (k + 1) = 40 :: (brk (spellL ts) k ++ tailB) ++ [10] := (by simp [brk])
    rw [e1]; exact h1
/-- brackets are passed -/
theorem brk_op {x : Ex} {f : Nat} (hx : OpG f x) : ∀ (k : Nat) (o : Nat) (ps : List Tok) (t : Tok) (r : List Tok), o + k + 2 * dN x ≤ 100 → Stop t → Begs (brkT (toksX x) k) ps (t :: r) → opX (f + 9 * k) 1 ps o = some (.ok x (t :: r))
  | 0, o, ps, t, r, ho, ht, hb => hx 1 o ps t r (Nat.le_refl _) (by omega) (by omega) ht.calm (ht.weak (Nat.le_refl _)) hb
  | k + 1, o, ps, t, r, ho, ht, hb => by
    have hb' : Begs (openT :: (brkT (toksX x) k ++ [shutT])) ps (t :: r) := hb
    have ha := paren_ok (f := f + 9 * k) (o := o + 1) (x := x) (fun q c hc hq => brk_op hx k (o + 1) q c (t :: r) (by omega) (stop_shut hc.1) hq) hb'
    obtain ⟨v, q, rfl, hv, _⟩ := hb
    have hv40 : v.text = [40] := hv.1
    have hu : unX (f + 9 * k + 1) (v :: q) o = some (.ok x (t :: r)) := by
      rw [unX_bare (by omega) (by rw [hv40]; unfold BareT; decide), sampledP, ha, bindP_ok]; have he : ¬ (x.op = 14 ∧ atP everyT (t :: r) = true) := fun h => ht.calm.2.1 (by simpa [atP] using h.2); rw [if_neg he, List.length_cons, when_stop ht.calm.1]
    exact up_ok hu ht
theorem bins_lit : ∀ o ∈ binsL, litsL.contains o = true := by decide +kernel
theorem good_ok {x : Ex} (h : Good x) : AllOk (toksX x) := by
  induction h with
  | int n h0 h1 => simpa [toksX, toksOf] using AllOk.cons (ok_int h0 h1) .nil
  | bool n h =>
    rcases h with rfl | rfl
    · simpa [toksX, toksOf] using AllOk.cons (ok_lit (t := falseT) (by decide)) .nil
    · simpa [toksX, toksOf] using AllOk.cons (ok_lit (t := trueT) (by decide)) .nil
  | con c h => simpa [toksX, toksOf] using AllOk.cons (conM_false h) .nil
  | var c h => simpa [toksX, toksOf] using AllOk.cons (nameM_false h) .nil
  | un o h k hk ih =>
    have ho : tokOk o := (by rcases h with rfl | rfl <;> exact ok_lit (by decide))
    simpa [toksX, toksXs, toksOf, prefixT, kidT] using AllOk.cons (ok_lit (t := [40]) (by decide)) (.cons ho (.app ih (.cons (ok_lit (t := [41]) (by decide)) .nil)))
  | bin o h a b ha hb i1 i2 =>
    simpa [toksX, toksXs, toksOf, infixT, kidT] using AllOk.cons (ok_lit (t := [40]) (by decide)) (.app i1 (.cons (ok_lit (bins_lit o h)) (.app i2 (.cons (ok_lit (t := [41]) (by decide)) .nil))))
  | choice a b c ha hb hc i1 i2 i3 =>
    simpa [toksX, toksXs, toksOf, choiceT, kidT, ifT, thenT, elseT] using AllOk.cons (ok_lit (t := [40]) (by decide)) (.cons (ok_lit (t := ifT) (by decide)) (.app i1 (.cons (ok_lit (t := thenT) (by decide)) (.app i2 (.cons (ok_lit (t := elseT) (by decide)) (.app i3 (.cons (ok_lit (t := [41]) (by decide)) .nil)))))))
  | fby a b ha hb i1 i2 =>
    simpa [toksX, toksXs, toksOf, infixT, kidT] using AllOk.cons (ok_lit (t := [40]) (by decide)) (.app i1 (.cons (ok_lit (t := fbyT) (by decide)) (.app i2 (.cons (ok_lit (t := [41]) (by decide)) .nil))))
  | pre k hk ih =>
    simpa [toksX, toksXs, toksOf, prefixT, kidT] using AllOk.cons (ok_lit (t := [40]) (by decide)) (.cons (ok_lit (t := preT) (by decide)) (.app ih (.cons (ok_lit (t := [41]) (by decide)) .nil)))
  | arrow a b ha hb i1 i2 =>
    simpa [toksX, toksXs, toksOf, infixT, kidT] using AllOk.cons (ok_lit (t := [40]) (by decide)) (.app i1 (.cons (ok_lit (t := arrowT) (by decide)) (.app i2 (.cons (ok_lit (t := [41]) (by decide)) .nil))))
  | sample x c hx hc k hk ih =>
    rw [when_len]; exact .cons (ok_lit (by decide)) (.app ih (.cons (ok_lit (by decide)) (.cons (conM_false hc) (.cons (ok_lit (by decide)) (.cons (nameM_false hx) (.cons (ok_lit (by decide)) (.cons (ok_lit (by decide)) .nil)))))))
  | merge x cs ks hx h0 hc hl hk ih =>
    rw [toksX_mk, show toksOf 12 x 0 cs (ks.map toksX) = armT mergeT x cs (ks.map toksX) by simp [toksOf], armT]
    exact .cons (ok_lit (by decide)) (.cons (nameM_false hx) (.cons (ok_lit (by decide)) (.app (.sep (ok_lit (by decide)) (AllOk.arms (fun c h => conM_false (hc c h)) fun y hy => by
      obtain ⟨k, hk, rfl⟩ := List.mem_map.1 hy; exact ih k hk)) (.cons (ok_lit (by decide)) .nil))))
  | mtch x cs ks hx h0 hc hl hk ih =>
    rw [toksX_mk, show toksOf 13 x 0 cs (ks.map toksX) = armT matchT x cs (ks.map toksX) by simp [toksOf], armT]
    exact .cons (ok_lit (by decide)) (.cons (nameM_false hx) (.cons (ok_lit (by decide)) (.app (.sep (ok_lit (by decide)) (AllOk.arms (fun c h => conM_false (hc c h)) fun y hy => by
      obtain ⟨k, hk, rfl⟩ := List.mem_map.1 hy; exact ih k hk)) (.cons (ok_lit (by decide)) .nil))))
  | call x cs ks hx h0 hc hk ih =>
    rw [toksX_mk, show toksOf 14 x 0 cs (ks.map toksX) = callT x cs (ks.map toksX) by simp [toksOf], callT]
    exact .cons (nameM_false hx) (.app (AllOk.statics fun c h => nameM_false (hc c h)) (.cons (ok_lit (by decide)) (.app (.sep (ok_lit (by decide)) fun y hy => by
      obtain ⟨k, hk, rfl⟩ := List.mem_map.1 hy; exact ih k hk) (.cons (ok_lit (by decide)) .nil))))
  | every x cs ks b ha hb i1 i2 =>
    rw [every_len]; exact .cons (ok_lit (by decide)) (.app i1 (.cons (ok_lit (by decide)) (.app i2 (.cons (ok_lit (by decide)) .nil))))
/-- an expression's text in brackets is read as it -/
theorem brk_back {x : Ex} (hx : GX x) (hd : dN x ≤ 40) {k : Nat} (hk : k ≤ 4) (hl : (brk (spellL (toksX x)) k).length ≤ 65536) : ∃ toks e, scanL (brk (spellL (toksX x)) k) = .inl toks ∧ exprO toks = .ok x [e] := by
  have hok := good_ok hx.1; obtain ⟨u, us, hne, _⟩ := good_bare hx.1; obtain ⟨toks, h1, h2⟩ := scan_lex (brk_lex' (ts := toksX x) (by rw [hne]; simp) hok k) hl; obtain ⟨e, h3, h4⟩ := begs_keys (brkT_ok hok k) h2; obtain ⟨F, hF⟩ := op_ev hx.1; refine ⟨toks, e, h1, exprO_eq (f := F + 9 * k) ?_⟩; rw [exprF, wholeP, brk_op (hF F (Nat.le_refl _)) k 0 toks e [] (by omega) (stop_of (by decide) h4.1) h3, bindP_ok]; simp only [h4.2, if_true]
end Go.Proofs.YtoajfnfhphoaeaaGreatDoor
