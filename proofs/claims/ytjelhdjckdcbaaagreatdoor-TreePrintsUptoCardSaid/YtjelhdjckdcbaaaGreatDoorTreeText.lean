/-
  Plain mathematics: what the text of a tree that may be consists of: tokens, each of which is read again; so the text scans.
-/
import Derived.Test.YtjelhdjckdcbaaaGreatDoorTreeSpec
import Derived.Test.YtjelhdjckdcbaaaGreatDoorSpec
namespace Go.Proofs.YtjelhdjckdcbaaaGreatDoor

/-- a text that is just one token -/
def tokOk (t : Tx) : Prop := t ≠ [] ∧ tokSort t ≠ 0 ∧ tokText t = t
theorem gap_self {t : Tx} (h : tokOk t) : gapL t = 0 := by
  obtain ⟨h6, h0, ht⟩ := h
  by_cases hr : runL t = 0
  · have ht' : signL t = t := by have := ht; rw [tokText, if_pos hr] at this; exact this
    have hne : signL t ≠ [] := by rw [ht']; exact h6
    obtain ⟨_, _, _, s4, s5⟩ := signs_self _ (signL_mem hne)
    rw [ht'] at s4 s5
    cases t with
    | nil => exact absurd rfl h6
    | cons x p => exact gapL_none s4 s5
  · have ht' : t.take (runL t) = t := by have := ht; rw [tokText, if_neg hr] at this; exact this
    have hall := run_take t
    rw [ht'] at hall
    cases t with
    | nil => exact absurd rfl h6
    | cons x p =>
      obtain ⟨g1, g2⟩ := more_space (hall x (by simp))
      refine gapL_none g1 ?_
      have : (45 == x) = false := by simp; rintro rfl; exact g2 rfl
      simp [List.isPrefixOf, this]
theorem lex_of_toks : ∀ (ts : List Tx), ts ≠ [] → (∀ t ∈ ts, tokOk t) → Lex (spellL ts) (ts.map keyAt ++ [endKey])
  | [], h, _ => absurd rfl h
  | [t], _, h => by
    have ht := h t (by simp)
    have hg := gap_self ht
    obtain ⟨h6, h0, hx⟩ := ht
    have := Lex.tok (l := t) (m := t) (ks := [endKey]) (by rw [hg]; rfl) h6 h0 (by rw [hx, List.drop_length]; exact .fin rfl)
    simpa [spellL] using this
  | t :: u :: r, _, h => by
    have ht := h t (by simp)
    have ih := lex_of_toks (u :: r) (by simp) (fun x hx => h x (by simp at hx ⊢; exact .inr hx))
    obtain ⟨h6, h0, hx⟩ := ht
    obtain ⟨_, h2⟩ := key_self h6 h0
    rw [hx] at h2
    have hk' := key_sep (.inr rfl) h6 (spellL (u :: r)) (c := 32)
    have hso : tokSort (t ++ 32 :: spellL (u :: r)) = tokSort t := congrArg Key.sort hk'
    have htx : tokText (t ++ 32 :: spellL (u :: r)) = t := (congrArg Key.text hk').trans hx
    have e : spellL (t :: u :: r) = t ++ 32 :: spellL (u :: r) := by rw [spellL, if_neg (by simp)]
    rw [e]
    have := Lex.tok (l := t ++ 32 :: spellL (u :: r)) (m := t ++ 32 :: spellL (u :: r)) (by rw [h2]; rfl) (by simp) (by rw [hso]; exact h0) (ks := (u :: r).map keyAt ++ [endKey]) (by rw [htx, List.drop_left]; exact lex_skip rfl ih)
    rw [hk'] at this
    simpa using this
/-- such tokens' text scans; its tokens spell it -/
theorem scan_toks {ts : List Tx} (hne : ts ≠ []) (h : ∀ t ∈ ts, tokOk t) : (scanAll (spellL ts)).2 = none ∧ (scanAll (spellL ts)).1.map Tok.text = ts ++ [[]] := by
  obtain ⟨h1, h2⟩ := scan_of_lex (lex_of_toks ts hne h)
  refine ⟨h1, ?_⟩
  have := congrArg (List.map Key.text) h2
  rw [List.map_map, List.map_append, List.map_map] at this
  have e1 : (Key.text ∘ Tok.key) = Tok.text := rfl
  rw [e1] at this
  rw [this]
  congr 1
  have : ∀ l : List Tx, (∀ t ∈ l, tokOk t) → l.map (Key.text ∘ keyAt) = l := by
    intro l
    induction l with
    | nil => intro _; rfl
    | cons t r ih => intro hl; rw [List.map_cons, ih (fun x hx => hl x (by simp [hx]))]; congr 1; exact (hl t (by simp)).2.2
  exact this ts h
/- names, constructors, digits, signs, words -/
theorem fit_parts {l : Tx} (h : fitB l = true) : l ≠ [] ∧ runL l = l.length := by
  simp [fitB] at h
  exact ⟨by intro e; simp [e] at h, h.2⟩
theorem ok_of_sort {l : Tx} (h : l ≠ []) (hr : runL l = l.length) (hs : sortL l ≠ 0) : tokOk l := by
  have h0 : runL l ≠ 0 := by rw [hr]; simpa using h
  refine ⟨h, ?_, ?_⟩
  · rw [tokSort, if_neg h, if_neg h0, hr, List.take_length]; exact hs
  · rw [tokText, if_neg h0, hr, List.take_length]
theorem ok_name {l : Tx} (h : nameB l = true) : tokOk l := by
  have hf : fitB l = true := by simp [nameB] at h; exact h.1.1
  obtain ⟨h1, h2⟩ := fit_parts hf
  refine ok_of_sort h1 h2 ?_
  unfold sortL
  rw [if_pos h]
  split <;> simp
theorem ok_con {l : Tx} (h : conB l = true) : tokOk l := by
  have hf : fitB l = true := by simp [conB] at h; exact h.1
  obtain ⟨h1, h2⟩ := fit_parts hf
  refine ok_of_sort h1 h2 ?_
  unfold sortL
  rw [if_pos h]
  split
  · simp
  · split <;> simp
theorem dec_dig : ∀ n : Nat, AllDig (Lib.decDigits n) ∧ Lib.decDigits n ≠ [] ∧ digV 0 (Lib.decDigits n) = n ∧ (1 < (Lib.decDigits n).length → ((Lib.decDigits n).head?.getD 0).toNat ≠ 48) := by
  intro n
  induction n using Nat.strongRecOn with
  | _ n ih =>
    rw [Lib.decDigits]
    by_cases h : n < 10
    · rw [dif_pos h]
      have hm : (48 + n) % 256 = 48 + n := Nat.mod_eq_of_lt (by omega)
      refine ⟨fun c hc => ?_, by simp, ?_, by simp⟩
      · obtain rfl := List.mem_singleton.1 hc; rw [UInt8.toNat_ofNat', hm]; omega
      · rw [digV_cons, digV_nil, UInt8.toNat_ofNat', hm]; omega
    · rw [dif_neg h]
      obtain ⟨i1, i2, i3, i4⟩ := ih (n / 10) (by omega)
      have hm : (48 + n % 10) % 256 = 48 + n % 10 := Nat.mod_eq_of_lt (by omega)
      refine ⟨fun c hc => ?_, by simp, ?_, fun _ => ?_⟩
      · rcases List.mem_append.1 hc with hc | hc
        · exact i1 c hc
        · obtain rfl := List.mem_singleton.1 hc; rw [UInt8.toNat_ofNat', hm]; omega
      · rw [digV_snoc, i3, UInt8.toNat_ofNat', hm]; omega
      · obtain ⟨x, r, e⟩ := List.exists_cons_of_ne_nil i2
        rw [e] at i3 i4 i1 ⊢
        simp only [List.cons_append, List.head?_cons, Option.getD_some] at i4 ⊢
        cases r with
        | nil =>
          rw [digV_cons, digV_nil] at i3
          have := i1 x (by simp)
          omega
        | cons y r => exact i4 (by simp)
theorem dig_more {c : UInt8} (h : 48 ≤ c.toNat ∧ c.toNat ≤ 57) : moreB c = true := by simp [moreB, digitB]; omega
theorem run_all : ∀ {l : Tx}, (∀ c ∈ l, moreB c = true) → runL l = l.length
  | [], _ => rfl
  | c :: r, h => by rw [runL_cons_yes (h c (by simp)), run_all (fun x hx => h x (by simp [hx])), List.length_cons]
theorem ok_dig {n : Nat} (h : n < 9223372036854775808) : tokOk (Lib.decDigits n) := by
  obtain ⟨h1, h2, h3, h4⟩ := dec_dig n
  refine ok_of_sort h2 (run_all fun c hc => dig_more (h1 c hc)) ?_
  have hl : litB (Lib.decDigits n) = true := by
    unfold litB
    rw [litL_dig h2 h1, if_neg (fun e => h4 e.1 e.2), if_pos (by rw [h3]; exact h)]
    rfl
  unfold sortL
  rw [if_pos hl]
  split
  · simp
  · split
    · simp
    · split <;> simp
theorem ok_int {n : Int} (h0 : 0 ≤ n) (h1 : n ≤ 9223372036854775807) : tokOk (Lib.itoa n) := by
  rw [Lib.itoa, if_neg (by omega)]
  exact ok_dig (by omega)
/- the numbers fit -/
mutual
def bndX : Ex → Prop
  | .mk _ _ n _ ks => n ≤ 9223372036854775807 ∧ bndXs ks
def bndXs : List Ex → Prop
  | [] => True
  | k :: r => bndX k ∧ bndXs r
end
theorem bndXs_all {l : List Ex} : bndXs l ↔ ∀ k ∈ l, bndX k := by
  induction l with
  | nil => simp [bndXs]
  | cons k r ih => simp [bndXs, ih]
instance : DecidablePred tokOk := fun t => inferInstanceAs (Decidable (t ≠ [] ∧ tokSort t ≠ 0 ∧ tokText t = t))
def litsL : List Tx := [[40], [41], [91], [93], [44], [59], [58], [124], [61], [45, 62], trueT, falseT, fbyT, preT, mergeT, matchT, everyT, [105, 102], [116, 104, 101, 110], [101, 108, 115, 101], [119, 104, 101, 110], [117, 110, 116, 105, 108], [115, 116, 97, 116, 101],
  [97, 117, 116, 111, 109, 97, 116, 111, 110], [101, 110, 100], [116, 121, 112, 101], [110, 111, 100, 101], [119, 104, 101, 114, 101], [110, 111, 116], [45]] ++ binsL
theorem ok_lits : ∀ t ∈ litsL, tokOk t := by decide +kernel
theorem ok_lit {t : Tx} (h : litsL.contains t = true) : tokOk t := ok_lits t (by simpa using h)
theorem nameM_false {l : Tx} (h : nameM false l = true) : tokOk l := ok_name (by simpa [nameM, ungenL] using h)
theorem conM_false {l : Tx} (h : conM false l = true) : tokOk l := ok_con (by simpa [conM, ungenL] using h)
def AllOk (ts : List Tx) : Prop := ∀ t ∈ ts, tokOk t
theorem AllOk.nil : AllOk [] := fun _ h => by cases h
theorem AllOk.cons {t : Tx} {r : List Tx} (h : tokOk t) (hr : AllOk r) : AllOk (t :: r) := fun x hx => by
  rcases List.mem_cons.1 hx with rfl | hx
  · exact h
  · exact hr x hx
theorem AllOk.app {a b : List Tx} (ha : AllOk a) (hb : AllOk b) : AllOk (a ++ b) := fun x hx => (List.mem_append.1 hx).elim (ha x) (hb x)
theorem AllOk.flat {X : Type} {f : X → List Tx} {l : List X} (h : ∀ x ∈ l, AllOk (f x)) : AllOk (l.flatMap f) := fun t ht => by
  obtain ⟨x, hx, ht⟩ := List.mem_flatMap.1 ht
  exact h x hx t ht
theorem AllOk.sep {s : Tx} (hs : tokOk s) {l : List (List Tx)} (h : ∀ x ∈ l, AllOk x) : AllOk (sepT s l) := by
  cases l with
  | nil => exact .nil
  | cons x r => exact .app (h x (by simp)) (.flat fun y hy => .cons hs (h y (by simp [hy])))
theorem AllOk.names {s : Tx} (hs : tokOk s) {l : List Tx} (h : ∀ x ∈ l, tokOk x) : AllOk (namesT s l) :=
  .sep hs fun x hx => by
    obtain ⟨y, hy, rfl⟩ := List.mem_map.1 hx
    exact .cons (h y hy) .nil
theorem AllOk.statics {l : List Tx} (h : ∀ x ∈ l, tokOk x) : AllOk (staticsT l) := by
  unfold staticsT
  split
  · exact .nil
  · exact .cons (ok_lit rfl) (.app (.names (ok_lit rfl) h) (.cons (ok_lit rfl) .nil))
theorem AllOk.kid {T : List (List Tx)} (h : ∀ x ∈ T, AllOk x) {i : Nat} (hi : i < T.length) : AllOk (kidT T i) := by
  unfold kidT
  rw [List.getD_eq_getElem?_getD, List.getElem?_eq_getElem hi]
  exact h _ (List.getElem_mem hi)
theorem AllOk.arms : ∀ {cs : List Tx} {T : List (List Tx)}, (∀ x ∈ cs, tokOk x) → (∀ x ∈ T, AllOk x) → ∀ x ∈ armsT cs T, AllOk x
  | [], _, _, _ => fun x hx => by simp [armsT] at hx
  | c :: cs, [], _, _ => fun x hx => by simp [armsT] at hx
  | c :: cs, t :: T, hc, hT => fun x hx => by
    rw [armsT] at hx
    rcases List.mem_cons.1 hx with rfl | hx
    · exact .cons (hc c (by simp)) (.cons (ok_lit rfl) (hT t (by simp)))
    · exact AllOk.arms (fun y hy => hc y (by simp [hy])) (fun y hy => hT y (by simp [hy])) x hx
theorem allM_mem {X : Type} {l : List X} {a b : Nat} {f : X → Bool} (h : allM l a b f = true) : ∀ x ∈ l, f x = true := by
  simp [allM] at h
  exact h.2
theorem op_case (op : Int) : op = 1 ∨ op = 2 ∨ op = 3 ∨ op = 4 ∨ op = 5 ∨ op = 6 ∨ op = 7 ∨ op = 8 ∨ op = 9 ∨ op = 10 ∨ op = 11 ∨ op = 12 ∨ op = 13 ∨ op = 14 ∨ op = 15 ∨ (op ≠ 1 ∧ op ≠ 2 ∧ op ≠ 3 ∧ op ≠ 4 ∧ op ≠ 5 ∧ op ≠ 6 ∧ op ≠ 7 ∧ op ≠ 8 ∧ op ≠ 9 ∧ op ≠ 10 ∧ op ≠ 11 ∧ op ≠ 12 ∧ op ≠ 13 ∧ op ≠ 14 ∧ op ≠ 15) := by omega
theorem toks_ok : ∀ x : Ex, rightX false x = true → bndX x → AllOk (toksX x) := by
  intro x
  induction x using Ex.ind with
  | h op nm n cs ks ih =>
    intro hr hb
    rw [rightX, rightXs_all] at hr
    simp only [Bool.and_eq_true, List.all_eq_true] at hr
    obtain ⟨hs, hk⟩ := hr
    rw [bndX, bndXs_all] at hb
    obtain ⟨hn, hbk⟩ := hb
    have hT : ∀ t ∈ ks.map toksX, AllOk t := fun t ht => by
      obtain ⟨k, hkm, rfl⟩ := List.mem_map.1 ht
      exact ih k hkm (hk k hkm) (hbk k hkm)
    have hlen : (ks.map toksX).length = ks.length := by simp
    rw [toksX_mk]
    have L : ∀ {t : Tx}, litsL.contains t = true → tokOk t := ok_lit
    rcases op_case op with rfl | rfl | rfl | rfl | rfl | rfl | rfl | rfl | rfl | rfl | rfl | rfl | rfl | rfl | rfl | ⟨h1, h2, h3, h4, h5, h6, h7, h8, h9, h10, h11, h12, h13, h14, h15⟩
    · rw [show toksOf 1 nm n cs (ks.map toksX) = [Lib.itoa n] by simp [toksOf]]
      simp [shapeM] at hs
      exact .cons (ok_int hs.1.1.2 hn) .nil
    · rw [show toksOf 2 nm n cs (ks.map toksX) = [if n = 1 then trueT else falseT] by simp [toksOf]]
      simp [shapeM] at hs
      exact by split <;> exact .cons (L rfl) .nil
    · rw [show toksOf 3 nm n cs (ks.map toksX) = [nm] by simp [toksOf]]
      simp [shapeM] at hs
      exact .cons (conM_false hs.1.1.1) .nil
    · rw [show toksOf 4 nm n cs (ks.map toksX) = [nm] by simp [toksOf]]
      simp [shapeM] at hs
      exact .cons (nameM_false hs.1.1.1) .nil
    · rw [show toksOf 5 nm n cs (ks.map toksX) = prefixT nm (ks.map toksX) by simp [toksOf]]
      simp [shapeM] at hs
      have ho : tokOk nm := ok_lits nm (by rcases hs.1.1.1 with rfl | rfl <;> decide)
      exact .cons (L rfl) (.cons ho (.app (.kid hT (by omega)) (.cons (L rfl) .nil)))
    · rw [show toksOf 6 nm n cs (ks.map toksX) = infixT nm (ks.map toksX) by simp [toksOf]]
      simp [shapeM] at hs
      have ho : tokOk nm := ok_lits nm (List.mem_append.2 (.inr hs.1.1.1))
      exact .cons (L rfl) (.app (.kid hT (by omega)) (.cons ho (.app (.kid hT (by omega)) (.cons (L rfl) .nil))))
    · rw [show toksOf 7 nm n cs (ks.map toksX) = choiceT (ks.map toksX) by simp [toksOf]]
      simp [shapeM] at hs
      exact .cons (L rfl) (.cons (L rfl) (.app (.kid hT (by omega)) (.cons (L rfl) (.app (.kid hT (by omega)) (.cons (L rfl) (.app (.kid hT (by omega)) (.cons (L rfl) .nil)))))))
    · rw [show toksOf 8 nm n cs (ks.map toksX) = infixT fbyT (ks.map toksX) by simp [toksOf]]
      simp [shapeM] at hs
      exact .cons (L rfl) (.app (.kid hT (by omega)) (.cons (L rfl) (.app (.kid hT (by omega)) (.cons (L rfl) .nil))))
    · rw [show toksOf 9 nm n cs (ks.map toksX) = prefixT preT (ks.map toksX) by simp [toksOf]]
      simp [shapeM] at hs
      exact .cons (L rfl) (.cons (L rfl) (.app (.kid hT (by omega)) (.cons (L rfl) .nil)))
    · rw [show toksOf 10 nm n cs (ks.map toksX) = infixT arrowT (ks.map toksX) by simp [toksOf]]
      simp [shapeM] at hs
      exact .cons (L rfl) (.app (.kid hT (by omega)) (.cons (L rfl) (.app (.kid hT (by omega)) (.cons (L rfl) .nil))))
    · rw [show toksOf 11 nm n cs (ks.map toksX) = whenT nm cs (ks.map toksX) by simp [toksOf]]
      simp [shapeM] at hs
      have hc := allM_mem hs.1.2
      exact .cons (L rfl) (.app (.kid hT (by omega)) (.cons (L rfl) (.app (.names (L rfl) fun c h => conM_false (hc c h)) (.cons (L rfl) (.cons (nameM_false hs.1.1.1) (.cons (L rfl) (.cons (L rfl) .nil)))))))
    · rw [show toksOf 12 nm n cs (ks.map toksX) = armT mergeT nm cs (ks.map toksX) by simp [toksOf]]
      simp [shapeM] at hs
      have hc := allM_mem hs.1.2
      exact .cons (L rfl) (.cons (nameM_false hs.1.1.1) (.cons (L rfl) (.app (.sep (L rfl) (AllOk.arms (fun c h => conM_false (hc c h)) hT)) (.cons (L rfl) .nil))))
    · rw [show toksOf 13 nm n cs (ks.map toksX) = armT matchT nm cs (ks.map toksX) by simp [toksOf]]
      simp [shapeM] at hs
      have hc := allM_mem hs.1.2
      exact .cons (L rfl) (.cons (nameM_false hs.1.1.1) (.cons (L rfl) (.app (.sep (L rfl) (AllOk.arms (fun c h => conM_false (hc c h)) hT)) (.cons (L rfl) .nil))))
    · rw [show toksOf 14 nm n cs (ks.map toksX) = callT nm cs (ks.map toksX) by simp [toksOf]]
      simp [shapeM] at hs
      have hc := allM_mem hs.1.2
      exact .cons (nameM_false hs.1.1.1) (.app (.statics fun c h => nameM_false (hc c h)) (.cons (L rfl) (.app (.sep (L rfl) hT) (.cons (L rfl) .nil))))
    · rw [show toksOf 15 nm n cs (ks.map toksX) = infixT everyT (ks.map toksX) by simp [toksOf]]
      simp [shapeM] at hs
      exact .cons (L rfl) (.app (.kid hT (by omega)) (.cons (L rfl) (.app (.kid hT (by omega)) (.cons (L rfl) .nil))))
    · simp [shapeM, *] at hs
def bndEq (q : QEq) : Prop := bndX q.e
def bndState (s : QState) : Prop := (∀ q ∈ s.eqs, bndX q.e) ∧ ∀ y ∈ s.ways, bndX y.cond
def bndItem (i : QItem) : Prop := bndX i.eq.e ∧ ∀ s ∈ i.states, bndState s
def bndP (p : QProg) : Prop := ∀ n ∈ p.nodes, ∀ i ∈ n.items, bndItem i
theorem eq_ok {q : QEq} (h : rightEq false q = true) (hb : bndX q.e) : AllOk (eqT q) := by
  simp only [rightEq, Bool.and_eq_true] at h
  have hn := allM_mem h.1
  have he := toks_ok q.e h.2 hb
  have L : ∀ {t : Tx}, litsL.contains t = true → tokOk t := ok_lit
  refine .app ?_ (.cons (L rfl) (.app he (.cons (L rfl) .nil)))
  split
  · rename_i x hx
    exact .cons (nameM_false (hn x (by rw [hx]; simp))) .nil
  · exact .cons (L rfl) (.app (.names (L rfl) fun c h => nameM_false (hn c h)) (.cons (L rfl) .nil))
theorem way_ok {y : QWay} (h : rightWay false y = true) (hb : bndX y.cond) : AllOk (wayT y) := by
  simp only [rightWay, Bool.and_eq_true] at h
  have L : ∀ {t : Tx}, litsL.contains t = true → tokOk t := ok_lit
  exact .cons (L rfl) (.app (toks_ok _ h.2 hb) (.cons (L rfl) (.cons (conM_false h.1) (.cons (L rfl) .nil))))
theorem state_ok {s : QState} (h : rightState false s = true) (hb : bndState s) : AllOk (stateT s) := by
  simp only [rightState, Bool.and_eq_true] at h
  have L : ∀ {t : Tx}, litsL.contains t = true → tokOk t := ok_lit
  exact .cons (L rfl) (.cons (conM_false h.1) (.cons (L rfl) (.app (.flat fun q hq => eq_ok (allM_mem h.2.1 q hq) (hb.1 q hq)) (.flat fun y hy => way_ok (allM_mem h.2.2 y hy) (hb.2 y hy)))))
theorem item_ok {i : QItem} (h : rightItem false i = true) (hb : bndItem i) : AllOk (itemT i) := by
  have L : ∀ {t : Tx}, litsL.contains t = true → tokOk t := ok_lit
  unfold rightItem at h
  unfold itemT
  split
  · rw [if_pos ‹_›] at h; exact eq_ok h hb.1
  · rw [if_neg ‹_›] at h
    simp only [Bool.and_eq_true] at h
    exact .cons (L rfl) (.app (.flat fun s hs => state_ok (allM_mem h.2.2 s hs) (hb.2 s hs)) (.cons (L rfl) (.cons (L rfl) .nil)))
theorem enum_ok {e : QEnum} (h : rightEnum false e = true) : AllOk (enumT e) := by
  have L : ∀ {t : Tx}, litsL.contains t = true → tokOk t := ok_lit
  simp only [rightEnum, Bool.and_eq_true] at h
  exact .cons (L rfl) (.cons (nameM_false h.1) (.cons (L rfl) (.app (.names (L rfl) fun c hc => conM_false (allM_mem h.2 c hc)) (.cons (L rfl) .nil))))
theorem node_ok {n : QNode} (h : rightNode false n = true) (hb : ∀ i ∈ n.items, bndItem i) : AllOk (nodeT n) := by
  have L : ∀ {t : Tx}, litsL.contains t = true → tokOk t := ok_lit
  simp only [rightNode, Bool.and_eq_true] at h
  obtain ⟨h0, h1, h2, h3, h4⟩ := h
  have N : ∀ {l : List Tx} {a b : Nat}, allM l a b (nameM false) = true → ∀ x ∈ l, tokOk x := fun h x hx => nameM_false (allM_mem h x hx)
  exact .cons (L rfl) (.cons (nameM_false h0) (.app (.statics (N h1)) (.cons (L rfl) (.app (.names (L rfl) (N h2)) (.cons (L rfl) (.cons (L rfl) (.cons (L rfl) (.app (.names (L rfl) (N h3)) (.cons (L rfl) (.cons (L rfl) (.app (.flat fun i hi => item_ok (allM_mem h4 i hi) (hb i hi)) (.cons (L rfl) .nil))))))))))))
theorem prog_ok {p : QProg} (h : rightP false p = true) (hb : bndP p) : AllOk (progT p) ∧ progT p ≠ [] := by
  simp only [rightP, Bool.and_eq_true] at h
  refine ⟨.app (.flat fun e he => enum_ok (allM_mem h.1 e he)) (.flat fun n hn => node_ok (allM_mem h.2 n hn) (hb n hn)), ?_⟩
  have hl : 1 ≤ p.nodes.length := by have := h.2; simp [allM] at this; exact this.1.1
  obtain ⟨n, r, e⟩ : ∃ n r, p.nodes = n :: r := by
    cases h : p.nodes with
    | nil => rw [h] at hl; simp at hl
    | cons n r => exact ⟨n, r, rfl⟩
  simp [progT, e, nodeT]
theorem right_of_0 {p : QProg} (h : rightL false p = 0) : rightP false p = true := by
  unfold rightL at h
  split at h
  · assumption
  · cases h
end Go.Proofs.YtjelhdjckdcbaaaGreatDoor
