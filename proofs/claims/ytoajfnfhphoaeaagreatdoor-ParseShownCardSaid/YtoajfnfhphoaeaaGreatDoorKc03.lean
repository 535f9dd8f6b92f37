/-
  Texts joined, what is not needed here left out: TreeText ParseBackX ParseBackY.
-/
import Derived.Test.YtoajfnfhphoaeaaGreatDoorKc01
import Derived.Test.YtoajfnfhphoaeaaGreatDoorKc02
namespace Go.Proofs.YtoajfnfhphoaeaaGreatDoor
/-- a text that is just one token -/
def tokOk (t : Tx) : Prop := t ≠ [] ∧ tokSort t ≠ 0 ∧ tokText t = t
theorem gap_self {t : Tx} (h : tokOk t) : gapL t = 0 := by
  obtain ⟨h6, h0, ht⟩ := h; by_cases hr : runL t = 0
  · have ht' : signL t = t := by have := ht; rw [tokText, if_pos hr] at this; exact this
    have hne : signL t ≠ [] := (by rw [ht']; exact h6); obtain ⟨_, _, _, s4, s5⟩ := signs_self _ (signL_mem hne); rw [ht'] at s4 s5; cases t with
    | nil => exact absurd rfl h6
    | cons x p => exact gapL_none s4 s5
  · have ht' : t.take (runL t) = t := by have := ht; rw [tokText, if_neg hr] at this; exact this
    have hall := run_take t; rw [ht'] at hall; cases t with
    | nil => exact absurd rfl h6
    | cons x p =>
      obtain ⟨g1, g2⟩ := more_space (hall x (by simp)); refine gapL_none g1 ?_; have : (45 == x) = false := by simp; rintro rfl; exact g2 rfl
      simp [List.isPrefixOf, this]
theorem lex_of_toks : ∀ (ts : List Tx), ts ≠ [] → (∀ t ∈ ts, tokOk t) → Lex (spellL ts) (ts.map keyAt ++ [endKey])
  | [], h, _ => absurd rfl h
  | [t], _, h => by
    have ht := h t (by simp)
    have hg := gap_self ht
    obtain ⟨h6, h0, hx⟩ := ht
    have := Lex.tok (l := t) (m := t) (ks := [endKey]) (by rw [hg]; rfl) h6 h0 (by rw [hx, List.drop_length]; exact .fin rfl)
    simpa [spellL] using this
  | t :: u :: r, _, h => by
    have ht := h t (by simp)
    have ih := lex_of_toks (u :: r) (by simp) (fun x hx => h x (by simp at hx ⊢; exact .inr hx))
    obtain ⟨h6, h0, hx⟩ := ht
    obtain ⟨_, h2⟩ := key_self h6 h0
    rw [hx] at h2
    have hk' := key_sep (.inr rfl) h6 (spellL (u :: r)) (c := 32)
    have hso : tokSort (t ++ 32 :: spellL (u :: r)) = tokSort t := congrArg Key.sort hk'
    have htx : tokText (t ++ 32 :: spellL (u :: r)) = t := (congrArg Key.text hk').trans hx
    have e : spellL (t :: u :: r) = t ++ 32 :: spellL (u :: r) := (by rw [spellL, if_neg (by simp)])
    rw [e]
    have := Lex.tok (l := t ++ 32 :: spellL (u :: r)) (m := t ++ 32 :: spellL (u :: r)) (by rw [h2]; rfl) (by simp) (by rw [hso]; exact h0) (ks := (u :: r).map keyAt ++ [endKey]) (by rw [htx, List.drop_left]; exact lex_skip rfl ih)
    rw [hk'] at this
    simpa using this
/- names, constructors, digits, signs, words -/
theorem fit_parts {l : Tx} (h : fitB l = true) : l ≠ [] ∧ runL l = l.length := by
  simp [fitB] at h; exact ⟨by intro e; simp [e] at h, h.2⟩
theorem ok_of_sort {l : Tx} (h : l ≠ []) (hr : runL l = l.length) (hs : sortL l ≠ 0) : tokOk l := by
  have h0 : runL l ≠ 0 := (by rw [hr]; simpa using h); refine ⟨h, ?_, ?_⟩
  · rw [tokSort, if_neg h, if_neg h0, hr, List.take_length]; exact hs
  · rw [tokText, if_neg h0, hr, List.take_length]
theorem ok_name {l : Tx} (h : nameB l = true) : tokOk l := by
  have hf : fitB l = true := (by simp [nameB] at h; exact h.1.1); obtain ⟨h1, h2⟩ := fit_parts hf; refine ok_of_sort h1 h2 ?_; unfold sortL; rw [if_pos h]; split <;> simp
theorem ok_con {l : Tx} (h : conB l = true) : tokOk l := by
  have hf : fitB l = true := (by simp [conB] at h; exact h.1); obtain ⟨h1, h2⟩ := fit_parts hf; refine ok_of_sort h1 h2 ?_; unfold sortL; rw [if_pos h]; split
  · simp
  · split <;> simp
theorem dec_dig : ∀ n : Nat, AllDig (Lib.decDigits n) ∧ Lib.decDigits n ≠ [] ∧ digV 0 (Lib.decDigits n) = n ∧ (1 < (Lib.decDigits n).length → ((Lib.decDigits n).head?.getD 0).toNat ≠ 48) := by
  intro n; induction n using Nat.strongRecOn with
  | _ n ih =>
    rw [Lib.decDigits]; by_cases h : n < 10
    · rw [dif_pos h]; have hm : (48 + n) % 256 = 48 + n := Nat.mod_eq_of_lt (by omega); refine ⟨fun c hc => ?_, by simp, ?_, by simp⟩
      · obtain rfl := List.mem_singleton.1 hc; rw [UInt8.toNat_ofNat', hm]; omega
      · rw [digV_cons, digV_nil, UInt8.toNat_ofNat', hm]; omega
    · rw [dif_neg h]; obtain ⟨i1, i2, i3, i4⟩ := ih (n / 10) (by omega); have hm : (48 + n % 10) % 256 = 48 + n % 10 := Nat.mod_eq_of_lt (by omega); refine ⟨fun c hc => ?_, by simp, ?_, fun _ => ?_⟩
      · rcases List.mem_append.1 hc with hc | hc
        · exact i1 c hc
        · obtain rfl := List.mem_singleton.1 hc; rw [UInt8.toNat_ofNat', hm]; omega
      · rw [digV_snoc, i3, UInt8.toNat_ofNat', hm]; omega
      · obtain ⟨x, r, e⟩ := List.exists_cons_of_ne_nil i2; rw [e] at i3 i4 i1 ⊢; simp only [List.cons_append, List.head?_cons, Option.getD_some] at i4 ⊢; cases r with
        | nil =>
          rw [digV_cons, digV_nil] at i3; have := i1 x (by simp); omega
        | cons y r => exact i4 (by simp)
theorem dig_more {c : UInt8} (h : 48 ≤ c.toNat ∧ c.toNat ≤ 57) : moreB c = true := by simp [moreB, digitB]; omega
theorem run_all : ∀ {l : Tx}, (∀ c ∈ l, moreB c = true) → runL l = l.length
  | [], _ => rfl
  | c :: r, h => by rw [runL_cons_yes (h c (by simp)), run_all (fun x hx => h x (by simp [hx])), List.length_cons]
theorem ok_dig {n : Nat} (h : n < 9223372036854775808) : tokOk (Lib.decDigits n) := by
  obtain ⟨h1, h2, h3, h4⟩ := dec_dig n; refine ok_of_sort h2 (run_all fun c hc => dig_more (h1 c hc)) ?_; have hl : litB (Lib.decDigits n) = true := by
    unfold litB; rw [litL_dig h2 h1, if_neg (fun e => h4 e.1 e.2), if_pos (by rw [h3]; exact h)]; rfl
  unfold sortL; rw [if_pos hl]; split
  · simp
  · split
    · simp
    · split <;> simp
theorem ok_int {n : Int} (h0 : 0 ≤ n) (h1 : n ≤ 9223372036854775807) : tokOk (Lib.itoa n) := by
  rw [Lib.itoa, if_neg (by omega)]; exact ok_dig (by omega)
/- the numbers fit -/
mutual
def bndX : Ex → Prop
  | .mk _ _ n _ ks => n ≤ 9223372036854775807 ∧ bndXs ks
def bndXs : List Ex → Prop
  | [] => True
  | k :: r => bndX k ∧ bndXs r
end
theorem bndXs_all {l : List Ex} : bndXs l ↔ ∀ k ∈ l, bndX k := by
  induction l with
  | nil => simp [bndXs]
  | cons k r ih => simp [bndXs, ih]
instance : DecidablePred tokOk := fun t => inferInstanceAs (Decidable (t ≠ [] ∧ tokSort t ≠ 0 ∧ tokText t = t))
def litsL : List Tx := [[40], [41], [91], [93], [44], [59], [58], [124], [61], [45, 62], trueT, falseT, fbyT, preT, mergeT, matchT, everyT, [105, 102], [116, 104, 101, 110], [101, 108, 115, 101], [119, 104, 101, 110], [117, 110, 116, 105, 108], [115, 116, 97, 116, 101],
  [97, 117, 116, 111, 109, 97, 116, 111, 110], [101, 110, 100], [116, 121, 112, 101], [110, 111, 100, 101], [119, 104, 101, 114, 101], [110, 111, 116], [45]] ++ binsL
theorem ok_lits : ∀ t ∈ litsL, tokOk t := by decide +kernel
theorem ok_lit {t : Tx} (h : litsL.contains t = true) : tokOk t := ok_lits t (by simpa using h)
theorem nameM_false {l : Tx} (h : nameM false l = true) : tokOk l := ok_name (by simpa [nameM, ungenL] using h)
theorem conM_false {l : Tx} (h : conM false l = true) : tokOk l := ok_con (by simpa [conM, ungenL] using h)
def AllOk (ts : List Tx) : Prop := ∀ t ∈ ts, tokOk t
theorem AllOk.nil : AllOk [] := fun _ h => by cases h
theorem AllOk.cons {t : Tx} {r : List Tx} (h : tokOk t) (hr : AllOk r) : AllOk (t :: r) := fun x hx => by
  rcases List.mem_cons.1 hx with rfl | hx
  · exact h
  · exact hr x hx
theorem AllOk.app {a b : List Tx} (ha : AllOk a) (hb : AllOk b) : AllOk (a ++ b) := fun x hx => (List.mem_append.1 hx).elim (ha x) (hb x)
theorem AllOk.flat {X : Type} {f : X → List Tx} {l : List X} (h : ∀ x ∈ l, AllOk (f x)) : AllOk (l.flatMap f) := fun t ht => by
  obtain ⟨x, hx, ht⟩ := List.mem_flatMap.1 ht
  exact h x hx t ht
theorem AllOk.sep {s : Tx} (hs : tokOk s) {l : List (List Tx)} (h : ∀ x ∈ l, AllOk x) : AllOk (sepT s l) := by
  cases l with
  | nil => exact .nil
  | cons x r => exact .app (h x (by simp)) (.flat fun y hy => .cons hs (h y (by simp [hy])))
theorem AllOk.names {s : Tx} (hs : tokOk s) {l : List Tx} (h : ∀ x ∈ l, tokOk x) : AllOk (namesT s l) :=
  .sep hs fun x hx => by
    obtain ⟨y, hy, rfl⟩ := List.mem_map.1 hx
    exact .cons (h y hy) .nil
theorem AllOk.statics {l : List Tx} (h : ∀ x ∈ l, tokOk x) : AllOk (staticsT l) := by
  unfold staticsT; split
  · exact .nil
  · exact .cons (ok_lit rfl) (.app (.names (ok_lit rfl) h) (.cons (ok_lit rfl) .nil))
theorem AllOk.kid {T : List (List Tx)} (h : ∀ x ∈ T, AllOk x) {i : Nat} (hi : i < T.length) : AllOk (kidT T i) := by
  unfold kidT; rw [List.getD_eq_getElem?_getD, List.getElem?_eq_getElem hi]; exact h _ (List.getElem_mem hi)
theorem AllOk.arms : ∀ {cs : List Tx} {T : List (List Tx)}, (∀ x ∈ cs, tokOk x) → (∀ x ∈ T, AllOk x) → ∀ x ∈ armsT cs T, AllOk x
  | [], _, _, _ => fun x hx => by simp [armsT] at hx
  | c :: cs, [], _, _ => fun x hx => by simp [armsT] at hx
  | c :: cs, t :: T, hc, hT => fun x hx => by
    rw [armsT] at hx
    rcases List.mem_cons.1 hx with rfl | hx
    · exact .cons (hc c (by simp)) (.cons (ok_lit rfl) (hT t (by simp)))
    · exact AllOk.arms (fun y hy => hc y (by simp [hy])) (fun y hy => hT y (by simp [hy])) x hx
theorem allM_mem {X : Type} {l : List X} {a b : Nat} {f : X → Bool} (h : allM l a b f = true) : ∀ x ∈ l, f x = true := by
  simp [allM] at h; exact h.2
theorem op_case (op : Int) : op = 1 ∨ op = 2 ∨ op = 3 ∨ op = 4 ∨ op = 5 ∨ op = 6 ∨ op = 7 ∨ op = 8 ∨ op = 9 ∨ op = 10 ∨ op = 11 ∨ op = 12 ∨ op = 13 ∨ op = 14 ∨ op = 15 ∨ (op ≠ 1 ∧ op ≠ 2 ∧ op ≠ 3 ∧ op ≠ 4 ∧ op ≠ 5 ∧ op ≠ 6 ∧ op ≠ 7 ∧ op ≠ 8 ∧ op ≠ 9 ∧ op ≠ 10 ∧ op ≠ 11 ∧ op ≠ 12 ∧ op ≠ 13 ∧ op ≠ 14 ∧ op ≠ 15) := by omega
theorem toks_ok : ∀ x : Ex, rightX false x = true → bndX x → AllOk (toksX x) := by
  intro x; induction x using Ex.ind with
  | h op nm n cs ks ih =>
    intro hr hb; rw [rightX, rightXs_all] at hr; simp only [Bool.and_eq_true, List.all_eq_true] at hr; obtain ⟨hs, hk⟩ := hr; rw [bndX, bndXs_all] at hb; obtain ⟨hn, hbk⟩ := hb; have hT : ∀ t ∈ ks.map toksX, AllOk t := fun t ht => by
      obtain ⟨k, hkm, rfl⟩ := List.mem_map.1 ht; exact ih k hkm (hk k hkm) (hbk k hkm)
    have hlen : (ks.map toksX).length = ks.length := (by simp); rw [toksX_mk]; have L : ∀ {t : Tx}, litsL.contains t = true → tokOk t := ok_lit; rcases op_case op with rfl | rfl | rfl | rfl | rfl | rfl | rfl | rfl | rfl | rfl | rfl | rfl | rfl | rfl | rfl | ⟨h1, h2, h3, h4, h5, h6, h7, h8, h9, h10, h11, h12, h13, h14, h15⟩
    · rw [show toksOf 1 nm n cs (ks.map toksX) = [Lib.itoa n] by simp [toksOf]]; simp [shapeM] at hs; exact .cons (ok_int hs.1.1.2 hn) .nil
    · rw [show toksOf 2 nm n cs (ks.map toksX) = [if n = 1 then trueT else falseT] by simp [toksOf]]; simp [shapeM] at hs; exact by split <;> exact .cons (L rfl) .nil
    · rw [show toksOf 3 nm n cs (ks.map toksX) = [nm] by simp [toksOf]]; simp [shapeM] at hs; exact .cons (conM_false hs.1.1.1) .nil
    · rw [show toksOf 4 nm n cs (ks.map toksX) = [nm] by simp [toksOf]]; simp [shapeM] at hs; exact .cons (nameM_false hs.1.1.1) .nil
    · rw [show toksOf 5 nm n cs (ks.map toksX) = prefixT nm (ks.map toksX) by simp [toksOf]]; simp [shapeM] at hs; have ho : tokOk nm := ok_lits nm (by rcases hs.1.1.1 with rfl | rfl <;> decide)
      exact .cons (L rfl) (.cons ho (.app (.kid hT (by omega)) (.cons (L rfl) .nil)))
    · rw [show toksOf 6 nm n cs (ks.map toksX) = infixT nm (ks.map toksX) by simp [toksOf]]; simp [shapeM] at hs; have ho : tokOk nm := ok_lits nm (List.mem_append.2 (.inr hs.1.1.1)); exact .cons (L rfl) (.app (.kid hT (by omega)) (.cons ho (.app (.kid hT (by omega)) (.cons (L rfl) .nil))))
    · rw [show toksOf 7 nm n cs (ks.map toksX) = choiceT (ks.map toksX) by simp [toksOf]]; simp [shapeM] at hs; exact .cons (L rfl) (.cons (L rfl) (.app (.kid hT (by omega)) (.cons (L rfl) (.app (.kid hT (by omega)) (.cons (L rfl) (.app (.kid hT (by omega)) (.cons (L rfl) .nil)))))))
    · rw [show toksOf 8 nm n cs (ks.map toksX) = infixT fbyT (ks.map toksX) by simp [toksOf]]; simp [shapeM] at hs; exact .cons (L rfl) (.app (.kid hT (by omega)) (.cons (L rfl) (.app (.kid hT (by omega)) (.cons (L rfl) .nil))))
    · rw [show toksOf 9 nm n cs (ks.map toksX) = prefixT preT (ks.map toksX) by simp [toksOf]]; simp [shapeM] at hs; exact .cons (L rfl) (.cons (L rfl) (.app (.kid hT (by omega)) (.cons (L rfl) .nil)))
    · rw [show toksOf 10 nm n cs (ks.map toksX) = infixT arrowT (ks.map toksX) by simp [toksOf]]; simp [shapeM] at hs; exact .cons (L rfl) (.app (.kid hT (by omega)) (.cons (L rfl) (.app (.kid hT (by omega)) (.cons (L rfl) .nil))))
    · rw [show toksOf 11 nm n cs (ks.map toksX) = whenT nm cs (ks.map toksX) by simp [toksOf]]; simp [shapeM] at hs; have hc := allM_mem hs.1.2; exact .cons (L rfl) (.app (.kid hT (by omega)) (.cons (L rfl) (.app (.names (L rfl) fun c h => conM_false (hc c h)) (.cons (L rfl) (.cons (nameM_false hs.1.1.1) (.cons (L rfl) (.cons (L rfl) .nil)))))))
    · rw [show toksOf 12 nm n cs (ks.map toksX) = armT mergeT nm cs (ks.map toksX) by simp [toksOf]]; simp [shapeM] at hs; have hc := allM_mem hs.1.2; exact .cons (L rfl) (.cons (nameM_false hs.1.1.1) (.cons (L rfl) (.app (.sep (L rfl) (AllOk.arms (fun c h => conM_false (hc c h)) hT)) (.cons (L rfl) .nil))))
    · rw [show toksOf 13 nm n cs (ks.map toksX) = armT matchT nm cs (ks.map toksX) by simp [toksOf]]; simp [shapeM] at hs; have hc := allM_mem hs.1.2; exact .cons (L rfl) (.cons (nameM_false hs.1.1.1) (.cons (L rfl) (.app (.sep (L rfl) (AllOk.arms (fun c h => conM_false (hc c h)) hT)) (.cons (L rfl) .nil))))
    · rw [show toksOf 14 nm n cs (ks.map toksX) = callT nm cs (ks.map toksX) by simp [toksOf]]; simp [shapeM] at hs; have hc := allM_mem hs.1.2; exact .cons (nameM_false hs.1.1.1) (.app (.statics fun c h => nameM_false (hc c h)) (.cons (L rfl) (.app (.sep (L rfl) hT) (.cons (L rfl) .nil))))
    · rw [show toksOf 15 nm n cs (ks.map toksX) = infixT everyT (ks.map toksX) by simp [toksOf]]; simp [shapeM] at hs; exact .cons (L rfl) (.app (.kid hT (by omega)) (.cons (L rfl) (.app (.kid hT (by omega)) (.cons (L rfl) .nil))))
    · simp [shapeM, *] at hs
def bndState (s : QState) : Prop := (∀ q ∈ s.eqs, bndX q.e) ∧ ∀ y ∈ s.ways, bndX y.cond
def bndItem (i : QItem) : Prop := bndX i.eq.e ∧ ∀ s ∈ i.states, bndState s
def bndP (p : QProg) : Prop := ∀ n ∈ p.nodes, ∀ i ∈ n.items, bndItem i
theorem eq_ok {q : QEq} (h : rightEq false q = true) (hb : bndX q.e) : AllOk (eqT q) := by
  simp only [rightEq, Bool.and_eq_true] at h; have hn := allM_mem h.1; have he := toks_ok q.e h.2 hb; have L : ∀ {t : Tx}, litsL.contains t = true → tokOk t := ok_lit; refine .app ?_ (.cons (L rfl) (.app he (.cons (L rfl) .nil))); split
  · rename_i x hx; exact .cons (nameM_false (hn x (by rw [hx]; simp))) .nil
  · exact .cons (L rfl) (.app (.names (L rfl) fun c h => nameM_false (hn c h)) (.cons (L rfl) .nil))
theorem way_ok {y : QWay} (h : rightWay false y = true) (hb : bndX y.cond) : AllOk (wayT y) := by
  simp only [rightWay, Bool.and_eq_true] at h; have L : ∀ {t : Tx}, litsL.contains t = true → tokOk t := ok_lit; exact .cons (L rfl) (.app (toks_ok _ h.2 hb) (.cons (L rfl) (.cons (conM_false h.1) (.cons (L rfl) .nil))))
theorem state_ok {s : QState} (h : rightState false s = true) (hb : bndState s) : AllOk (stateT s) := by
  simp only [rightState, Bool.and_eq_true] at h; have L : ∀ {t : Tx}, litsL.contains t = true → tokOk t := ok_lit; exact .cons (L rfl) (.cons (conM_false h.1) (.cons (L rfl) (.app (.flat fun q hq => eq_ok (allM_mem h.2.1 q hq) (hb.1 q hq)) (.flat fun y hy => way_ok (allM_mem h.2.2 y hy) (hb.2 y hy)))))
theorem item_ok {i : QItem} (h : rightItem false i = true) (hb : bndItem i) : AllOk (itemT i) := by
  have L : ∀ {t : Tx}, litsL.contains t = true → tokOk t := ok_lit; unfold rightItem at h; unfold itemT; split
  · rw [if_pos ‹_›] at h; exact eq_ok h hb.1
  · rw [if_neg ‹_›] at h; simp only [Bool.and_eq_true] at h; exact .cons (L rfl) (.app (.flat fun s hs => state_ok (allM_mem h.2.2 s hs) (hb.2 s hs)) (.cons (L rfl) (.cons (L rfl) .nil)))
theorem enum_ok {e : QEnum} (h : rightEnum false e = true) : AllOk (enumT e) := by
  have L : ∀ {t : Tx}, litsL.contains t = true → tokOk t := ok_lit; simp only [rightEnum, Bool.and_eq_true] at h; exact .cons (L rfl) (.cons (nameM_false h.1) (.cons (L rfl) (.app (.names (L rfl) fun c hc => conM_false (allM_mem h.2 c hc)) (.cons (L rfl) .nil))))
theorem node_ok {n : QNode} (h : rightNode false n = true) (hb : ∀ i ∈ n.items, bndItem i) : AllOk (nodeT n) := by
  have L : ∀ {t : Tx}, litsL.contains t = true → tokOk t := ok_lit; simp only [rightNode, Bool.and_eq_true] at h; obtain ⟨h0, h1, h2, h3, h4⟩ := h; have N : ∀ {l : List Tx} {a b : Nat}, allM l a b (nameM false) = true → ∀ x ∈ l, tokOk x := fun h x hx => nameM_false (allM_mem h x hx); exact .cons (L rfl) (.cons (nameM_false h0) (.app (.statics (N h1)) (.cons (L rfl) (.app (.names (L rfl) (N h2)) (.cons (L rfl) (.cons (L rfl) (.cons (L rfl) (.app (.names (L rfl) (N h3)) (.cons (L rfl) (.cons (L rfl) (.app (.flat fun i hi => item_ok (allM_mem h4 i hi) (hb i hi)) (.cons (L rfl) .nil))))))))))))
theorem prog_ok {p : QProg} (h : rightP false p = true) (hb : bndP p) : AllOk (progT p) ∧ progT p ≠ [] := by
  simp only [rightP, Bool.and_eq_true] at h; refine ⟨.app (.flat fun e he => enum_ok (allM_mem h.1 e he)) (.flat fun n hn => node_ok (allM_mem h.2 n hn) (hb n hn)), ?_⟩; have hl : 1 ≤ p.nodes.length := (by have := h.2; simp [allM] at this; exact this.1.1); obtain ⟨n, r, e⟩ : ∃ n r, p.nodes = n :: r := by
    cases h : p.nodes with
    | nil => rw [h] at hl; simp at hl
    | cons n r => exact ⟨n, r, rfl⟩
  simp [progT, e, nodeT]
theorem right_of_0 {p : QProg} (h : rightL false p = 0) : rightP false p = true := by
  unfold rightL at h; split at h
  · assumption
  · cases h
end Go.Proofs.YtoajfnfhphoaeaaGreatDoor

namespace Go.Proofs.YtoajfnfhphoaeaaGreatDoor
/-- from some fuel on -/
def Ev (p : Nat → Prop) : Prop := ∃ F, ∀ f, F ≤ f → p f
theorem Ev.of {p : Nat → Prop} (h : ∀ f, p f) : Ev p := ⟨0, fun f _ => h f⟩
theorem Ev.mono {p q : Nat → Prop} (h : Ev p) (g : ∀ f, p f → q f) : Ev q := by
  obtain ⟨F, h⟩ := h; exact ⟨F, fun f hf => g f (h f hf)⟩
theorem Ev.and {p q : Nat → Prop} (h : Ev p) (g : Ev q) : Ev fun f => p f ∧ q f := by
  obtain ⟨F, h⟩ := h; obtain ⟨G, g⟩ := g; exact ⟨F + G, fun f hf => ⟨h f (by omega), g f (by omega)⟩⟩
theorem Ev.all {X : Type} {p : X → Nat → Prop} {l : List X} (h : ∀ x ∈ l, Ev (p x)) : Ev fun f => ∀ x ∈ l, p x f := by
  induction l with
  | nil => exact .of fun _ _ hx => by cases hx
  | cons x r ih =>
    refine ((h x (by simp)).and (ih fun y hy => h y (by simp [hy]))).mono fun f hf y hy => ?_; rcases List.mem_cons.1 hy with rfl | hy
    · exact hf.1
    · exact hf.2 y hy
/- Tokens and the texts that they bear. -/
def IsT (x : Tx) (t : Tok) : Prop := t.text = x ∧ t.sort = tokSort x ∧ t.num = tokNum x
/-- these tokens begin with these texts, behind which is r -/
def Begs : List Tx → List Tok → List Tok → Prop
  | [], ps, r => ps = r
  | x :: xs, ps, r => ∃ t q, ps = t :: q ∧ IsT x t ∧ Begs xs q r
theorem begs_app {a b : List Tx} : ∀ {ps r : List Tok}, Begs (a ++ b) ps r → ∃ q, Begs a ps q ∧ Begs b q r := by
  induction a with
  | nil => exact fun h => ⟨_, rfl, h⟩
  | cons x xs ih =>
    rintro ps r ⟨t, q, rfl, ht, h⟩; obtain ⟨m, h1, h2⟩ := ih h; exact ⟨m, ⟨t, q, rfl, ht, h1⟩, h2⟩
theorem begs_ne {a : List Tx} : ∀ {ps r : List Tok}, Begs a ps r → r ≠ [] → ps ≠ [] := by
  intro ps r h hr; cases a with
  | nil => rw [Begs] at h; rw [h]; exact hr
  | cons x xs => obtain ⟨t, q, rfl, _⟩ := h; simp
theorem begs_one {x : Tx} {ps r : List Tok} (h : Begs [x] ps r) : ∃ t, ps = t :: r ∧ IsT x t := by
  obtain ⟨t, q, rfl, ht, h⟩ := h; rw [Begs] at h; exact ⟨t, by rw [h], ht⟩
/- Sorts. -/
theorem sort_whole {x : Tx} (h : fitB x = true) : tokSort x = sortL x ∧ tokNum x = numL x := by
  obtain ⟨h1, h2⟩ := fit_parts h; have h0 : runL x ≠ 0 := (by rw [h2]; simpa using h1); constructor
  · rw [tokSort, if_neg h1, if_neg h0, h2, List.take_length]
  · rw [tokNum, if_neg h0, h2, List.take_length]
theorem name_parts {x : Tx} (h : nameM false x = true) : nameB x = true := by simpa [nameM, ungenL] using h
theorem con_parts {x : Tx} (h : conM false x = true) : conB x = true := by simpa [conM, ungenL] using h
theorem psort_name {x : Tx} (h : nameM false x = true) : tokSort x = 1 := by
  have h := name_parts h; have hf : fitB x = true := (by simp [nameB] at h; exact h.1.1); have hw : wordB x = false := (by simp [nameB] at h; exact h.2); rw [(sort_whole hf).1, sortL, hw, h]; rfl
theorem words_con : ∀ u ∈ wordsL, conB u = false := by decide +kernel
theorem con_small {x : Tx} (h : conB x = true) : nameB x = false ∧ wordB x = false := by
  have hg : greatB (x.headD 0) = true := (by unfold conB at h; rw [Bool.and_eq_true] at h; exact h.2); constructor
  · cases hn : nameB x
    · rfl
    · exfalso; have hs : smallB (x.headD 0) = true := (by unfold nameB at hn; rw [Bool.and_eq_true, Bool.and_eq_true] at hn; exact hn.1.2); simp only [smallB, greatB, Bool.and_eq_true, decide_eq_true_eq] at hs hg; omega
  · cases hw : wordB x
    · rfl
    · exfalso; simp only [wordB, List.any_eq_true, beq_iff_eq] at hw; obtain ⟨u, hu, rfl⟩ := hw; rw [words_con _ hu] at h; cases h
theorem psort_con {x : Tx} (h : conM false x = true) : tokSort x = 2 := by
  have h := con_parts h; have hf : fitB x = true := (by simp [conB] at h; exact h.1); obtain ⟨h1, h2⟩ := con_small h; rw [(sort_whole hf).1, sortL, h1, h2, h]; rfl
theorem sort_int {n : Int} (h0 : 0 ≤ n) (h1 : n ≤ 9223372036854775807) : tokSort (Lib.itoa n) = 3 ∧ tokNum (Lib.itoa n) = n := by
  rw [Lib.itoa, if_neg (by omega)]; obtain ⟨d1, d2, d3, d4⟩ := dec_dig n.toNat; generalize hl : Lib.decDigits n.toNat = l at *; have hr : runL l = l.length := run_all fun c hc => dig_more (d1 c hc); have hr0 : runL l ≠ 0 := (by rw [hr]; simpa using d2); have hlit : litL l = some n := by
    rw [litL_dig d2 d1, if_neg (fun e => d4 e.1 e.2), if_pos (by rw [d3]; omega), d3]; simp; omega
  have hc : 48 ≤ (l.headD 0).toNat ∧ (l.headD 0).toNat ≤ 57 := by
    cases l with
    | nil => exact absurd rfl d2
    | cons c r => exact d1 c (by simp)
  have hsm : smallB (l.headD 0) = false ∧ greatB (l.headD 0) = false := by
    simp only [smallB, greatB, Bool.and_eq_false_iff, decide_eq_false_iff_not]; omega
  have hn : nameB l = false := (by unfold nameB; rw [hsm.1]; simp); have hg : conB l = false := (by unfold conB; rw [hsm.2]; simp); have hw : wordB l = false := by
    cases hw : wordB l
    · rfl
    · exfalso; simp only [wordB, List.any_eq_true, beq_iff_eq] at hw; obtain ⟨u, hu, rfl⟩ := hw; have : ∀ u ∈ wordsL, ¬ (48 ≤ (u.headD 0).toNat ∧ (u.headD 0).toNat ≤ 57) := by decide +kernel
      exact this _ hu hc
  constructor
  · rw [tokSort, if_neg d2, if_neg hr0, hr, List.take_length, sortL, hw, hn, hg, litB, hlit]; rfl
  · rw [tokNum, if_neg hr0, hr, List.take_length, numL, hw, hn, hg, litN, hlit]; rfl
/- The leaves of the parser at such tokens. -/
section
variable {ps r : List Tok} {xs : List Tx} {x : Tx}
theorem want_ok {s : Tx} (h : Begs (s :: xs) ps r) (hr : r ≠ []) : ∃ q, wantP s ps = some (.ok () q) ∧ Begs xs q r := by
  obtain ⟨t, q, rfl, ht, h⟩ := h; exact ⟨q, by rw [wantP, if_pos ht.1, if_neg (begs_ne h hr)], h⟩
theorem name_ok (hx : nameM false x = true) (h : Begs (x :: xs) ps r) (hr : r ≠ []) : ∃ q, nameP ps = some (.ok x q) ∧ Begs xs q r := by
  obtain ⟨t, q, rfl, ht, h⟩ := h; exact ⟨q, by rw [nameP, textP, if_pos (by rw [ht.2.1, psort_name hx]), if_neg (begs_ne h hr), ht.1], h⟩
theorem con_ok (hx : conM false x = true) (h : Begs (x :: xs) ps r) (hr : r ≠ []) : ∃ q, conP ps = some (.ok x q) ∧ Begs xs q r := by
  obtain ⟨t, q, rfl, ht, h⟩ := h; exact ⟨q, by rw [conP, textP, if_pos (by rw [ht.2.1, psort_con hx]), if_neg (begs_ne h hr), ht.1], h⟩
end
/-- a text of these begins the tokens -/
theorem at_ok {s x : Tx} {xs : List Tx} {ps r : List Tok} (h : Begs (x :: xs) ps r) : atP s ps = decide (x = s) := by
  obtain ⟨t, q, rfl, ht, _⟩ := h; rw [atP, ht.1]
theorem begs_len {a : List Tx} : ∀ {ps r : List Tok}, Begs a ps r → ps.length = a.length + r.length := by
  induction a with
  | nil => intro ps r h; rw [Begs] at h; simp [h]
  | cons x xs ih =>
    rintro ps r ⟨t, q, rfl, _, h⟩; have := ih h; simp only [List.length_cons]; omega
/-- parts with a sign between, told by what each is -/
theorem sepP_ok {X : Type} {s : Tx} {E : List Tok → Pr X} {T : X → List Tx} {Q : Tok → Prop} (hQ : ∀ u : Tok, u.text = s → Q u) {t : Tok} {r : List Tok} (ht : t.text ≠ s) (hQt : Q t) : ∀ (l : List X) (g : Nat) (acc : List X) (ps : List Tok),
    (∀ x ∈ l, ∀ ps t r, Q t → Begs (T x) ps (t :: r) → E ps = some (.ok x (t :: r))) → l.length < g → Begs (l.flatMap fun y => s :: T y) ps (t :: r) → sepP s E g acc ps = some (.ok (acc ++ l) (t :: r))
  | [], g, acc, ps, _, hg, h => by
    obtain ⟨g, rfl⟩ : ∃ k, g = k + 1 := ⟨g - 1, by simp at hg; omega⟩
    rw [List.flatMap_nil, Begs] at h
    subst h
    rw [sepP, if_neg ht, List.append_nil]
  | y :: m, g, acc, ps, hE, hg, h => by
    obtain ⟨g, rfl⟩ : ∃ k, g = k + 1 := ⟨g - 1, by simp at hg; omega⟩
    rw [List.flatMap_cons, List.cons_append] at h
    obtain ⟨u, q, rfl, hu, h⟩ := h
    obtain ⟨q2, h1, h2⟩ := begs_app h
    have hq2 : ∃ t2 r2, q2 = t2 :: r2 ∧ Q t2 := by
      cases m with
      | nil => rw [List.flatMap_nil, Begs] at h2; exact ⟨t, r, h2, hQt⟩
      | cons z m =>
        rw [List.flatMap_cons, List.cons_append] at h2; obtain ⟨t2, r2, rfl, ht2, _⟩ := h2; exact ⟨t2, r2, rfl, hQ t2 ht2.1⟩
    obtain ⟨t2, r2, rfl, hQ2⟩ := hq2; rw [sepP, if_pos hu.1, if_neg (begs_ne h1 (by simp)), hE y (by simp) q t2 r2 hQ2 h1, bindP_ok, sepP_ok hQ ht hQt m g (acc ++ [y]) _ (fun x hx => hE x (by simp [hx])) (by simp at hg; omega) h2]; simp
theorem separated_ok {X : Type} {s : Tx} {E : List Tok → Pr X} {T : X → List Tx} {Q : Tok → Prop} (hQ : ∀ u : Tok, u.text = s → Q u) {t : Tok} {r : List Tok} (ht : t.text ≠ s) (hQt : Q t) {l : List X} (hl : l ≠ []) {ps : List Tok}
    (hE : ∀ x ∈ l, ∀ ps t r, Q t → Begs (T x) ps (t :: r) → E ps = some (.ok x (t :: r))) (h : Begs (sepT s (l.map T)) ps (t :: r)) : separatedP s E ps = some (.ok l (t :: r)) := by
  cases l with
  | nil => exact absurd rfl hl
  | cons y m =>
    rw [List.map_cons, sepT, List.flatMap_map] at h; have hlen := begs_len h; obtain ⟨q2, h1, h2⟩ := begs_app h; have hl2 := begs_len h2; have hm : m.length ≤ (m.flatMap fun y => s :: T y).length := by
      clear h h2 hlen hl2 hE hl h1; induction m with
      | nil => simp
      | cons z m ih => simp only [List.flatMap_cons, List.length_append, List.length_cons]; omega
    have hq2 : ∃ t2 r2, q2 = t2 :: r2 ∧ Q t2 := by
      cases m with
      | nil => rw [List.flatMap_nil, Begs] at h2; exact ⟨t, r, h2, hQt⟩
      | cons z m =>
        rw [List.flatMap_cons, List.cons_append] at h2; obtain ⟨t2, r2, rfl, ht2, _⟩ := h2; exact ⟨t2, r2, rfl, hQ t2 ht2.1⟩
    obtain ⟨t2, r2, rfl, hQ2⟩ := hq2; have hps := begs_len h1; rw [separatedP, hE y (by simp) ps t2 r2 hQ2 h1, bindP_ok, sepP_ok hQ ht hQt m _ [y] _ (fun x hx => hE x (by simp [hx])) (by omega) h2]; rfl
theorem enclosed_ok {X : Type} {E : List Tok → Pr X} {l rr : Tx} {a : List Tx} {x : X} {ps R : List Tok} (hE : ∀ q c, IsT rr c → Begs a q (c :: R) → E q = some (.ok x (c :: R))) (h : Begs (l :: (a ++ [rr])) ps R) (hR : R ≠ []) : enclosedP l E rr ps = some (.ok x R) := by
  obtain ⟨q, h1, h2⟩ := want_ok h hR; obtain ⟨m, h3, h4⟩ := begs_app h2; obtain ⟨c, rfl, hc⟩ := begs_one h4; rw [enclosedP, h1, bindP_ok, hE q c hc h3, bindP_ok, wantP, if_pos hc.1, if_neg hR, bindP_ok]
theorem names_ok {s : Tx} (hs : s = commaT) {l : List Tx} (hl : l ≠ []) (hn : ∀ x ∈ l, nameM false x = true) {t : Tok} {r ps : List Tok} (ht : t.text ≠ commaT) (h : Begs (namesT s l) ps (t :: r)) : namesP ps = some (.ok l (t :: r)) := by
  subst hs; rw [namesT] at h; refine separated_ok (Q := fun _ => True) (T := fun x => [x]) (fun _ _ => trivial) ht trivial hl (fun x hx ps t r _ h => ?_) h; obtain ⟨q, h1, h2⟩ := name_ok (hn x hx) h (by simp); rw [Begs] at h2; rw [h1, h2]
theorem statics_ok {l : List Tx} (hn : ∀ x ∈ l, nameM false x = true) {u : Tx} (hu : u ≠ openB) {xs : List Tx} {ps r : List Tok} (h : Begs (staticsT l ++ u :: xs) ps r) (hr : r ≠ []) : ∃ q, staticsP ps = some (.ok l q) ∧ Begs (u :: xs) q r := by
  obtain ⟨q, h1, h2⟩ := begs_app h; have hq := begs_ne h2 hr; refine ⟨q, ?_, h2⟩; rw [staticsP, if_neg (begs_ne h hr)]; unfold staticsT at h1; by_cases hl : l = []
  · rw [if_pos hl, Begs] at h1; subst h1; rw [at_ok h2, if_neg (by simpa using hu), hl]
  · rw [if_neg hl] at h1; rw [at_ok (s := openB) h1, if_pos (by decide)]; refine enclosed_ok (fun q c hc h => names_ok rfl hl hn (by rw [hc.1]; decide) h) h1 hq
/- Expressions. -/
mutual
def dN : Ex → Nat
  | .mk _ _ _ _ ks => 1 + dNs ks
def dNs : List Ex → Nat
  | [] => 0
  | k :: r => max (dN k) (dNs r)
end
theorem dNs_le {l : List Ex} {k : Ex} (h : k ∈ l) : dN k ≤ dNs l := by
  induction l with
  | nil => cases h
  | cons x r ih =>
    rw [dNs]; rcases List.mem_cons.1 h with rfl | h
    · omega
    · have := ih h; omega
theorem dN_pos (x : Ex) : 1 ≤ dN x := by cases x; rw [dN]; omega
/-- what may stand behind a unary -/
def Calm (t : Tok) : Prop := t.text ≠ whenT' ∧ t.text ≠ everyT ∧ t.text ≠ openT ∧ t.text ≠ openB
def AtomG (f : Nat) (x : Ex) : Prop := ∀ o ps t r, o + 2 * dN x ≤ 102 → t.text ≠ openT → t.text ≠ openB → Begs (toksX x) ps (t :: r) → atomP (opX f 1) o ps = some (.ok x (t :: r))
def UnG (f : Nat) (x : Ex) : Prop := ∀ o ps t r, o + 2 * dN x ≤ 101 → Calm t → Begs (toksX x) ps (t :: r) → unX f ps o = some (.ok x (t :: r))
def OpG (f : Nat) (x : Ex) : Prop := ∀ s o ps t r, 1 ≤ s → s ≤ 8 → o + 2 * dN x ≤ 101 → Calm t → (∀ j, s ≤ j → j ≤ 7 → strongT t.text ≠ j) → Begs (toksX x) ps (t :: r) → opX f s ps o = some (.ok x (t :: r))
def BareT (u : Tx) : Prop := u ≠ notT ∧ u ≠ minusT ∧ u ≠ preT ∧ u ≠ ifT
theorem bare_sort {u : Tx} {k : Int} (h : tokSort u = k) (hk : k = 1 ∨ k = 2 ∨ k = 3) : BareT u := by
  have h1 : tokSort notT = 5 := (by decide +kernel); have h2 : tokSort minusT = 4 := (by decide +kernel); have h3 : tokSort preT = 5 := (by decide +kernel); have h4 : tokSort ifT = 5 := (by decide +kernel); refine ⟨?_, ?_, ?_, ?_⟩ <;> (rintro rfl; omega)
theorem loop_stop {f s : Nat} {e : Ex} {t : Tok} {r : List Tok} {o : Nat} (h : strongT t.text ≠ s) : loopX (f + 1) s e (t :: r) o = some (.ok e (t :: r)) := by rw [loopX, if_neg h]
theorem op_up {g o : Nat} {ps : List Tok} {x : Ex} {t : Tok} {r : List Tok} (h : unX g ps o = some (.ok x (t :: r))) : ∀ (d s : Nat), s + d = 8 → (∀ j, s ≤ j → j ≤ 7 → strongT t.text ≠ j) → opX (g + d + 1) s ps o = some (.ok x (t :: r)) := by
  intro d; induction d with
  | zero =>
    intro s hs _; obtain rfl : s = 8 := by omega
    rw [Nat.add_zero, opX, if_pos rfl]; exact h
  | succ d ih =>
    intro s hs ht; rw [show g + (d + 1) + 1 = (g + d + 1) + 1 by omega, opX, if_neg (by omega), ih (s + 1) (by omega) fun j h1 h2 => ht j (by omega) h2, bindP_ok, loop_stop (ht s (Nat.le_refl _) (by omega))]
theorem op_down {g o s : Nat} {ps : List Tok} {x : Ex} {t : Tok} {r : List Tok} (h : opX g s ps o = some (.ok x (t :: r))) (hs : s ≤ 8) (hg : 0 < g) : ∀ (d s' : Nat), s' + d = s → (∀ j, s' ≤ j → j ≤ 7 → strongT t.text ≠ j) → opX (g + d) s' ps o = some (.ok x (t :: r)) := by
  intro d; induction d with
  | zero =>
    intro s' e _; obtain rfl : s' = s := by omega
    exact h
  | succ d ih =>
    intro s' e ht; rw [show g + (d + 1) = (g + d) + 1 by omega, opX, if_neg (by omega), ih (s' + 1) (by omega) fun j h1 h2 => ht j (by omega) h2, bindP_ok]; obtain ⟨k, hk⟩ : ∃ k, g + d = k + 1 := ⟨g + d - 1, by omega⟩; rw [hk, loop_stop (ht s' (Nat.le_refl _) (by omega))]
theorem un_of_atom {f : Nat} {x : Ex} (ha : AtomG f x) {u : Tx} {us : List Tx} (hx : toksX x = u :: us) (hu : BareT u) : UnG (f + 1) x := by
  intro o ps t r ho hc h; have h' := h; rw [hx] at h'; obtain ⟨v, q, rfl, hv, _⟩ := h'; have hd := dN_pos x; obtain ⟨c1, c2, c3, c4⟩ := hc; obtain ⟨b1, b2, b3, b4⟩ := hu
  rw [unX, if_neg (by omega), prefixedP, if_neg (by rw [hv.1]; exact b1), if_neg (by rw [hv.1]; exact b2), if_neg (by rw [hv.1]; exact b3), if_neg (by rw [hv.1]; exact b4), sampledP, ha (o + 1) _ t r (by omega) c3 c4 h, bindP_ok, if_neg (fun g => by
    have := g.2; rw [atP] at this; exact c2 (of_decide_eq_true this)), whenP, if_neg c1]
theorem op_of_un {g f : Nat} {x : Ex} (hu : UnG g x) (hf : g + 8 ≤ f) : OpG f x := by
  intro s o ps t r hs1 hs8 ho hc ht h; have h1 := op_up (hu o ps t r ho hc h) (8 - s) s (by omega) ht; exact opX_le (by omega) s _ _ _ h1
end Go.Proofs.YtoajfnfhphoaeaaGreatDoor

namespace Go.Proofs.YtoajfnfhphoaeaaGreatDoor
theorem len_two {X : Type} {l : List X} (h : l.length = 2) : ∃ a b, l = [a, b] := by
  rcases l with _ | ⟨a, _ | ⟨b, _ | ⟨c, r⟩⟩⟩ <;> simp at h
  exact ⟨a, b, rfl⟩
theorem len_three {X : Type} {l : List X} (h : l.length = 3) : ∃ a b c, l = [a, b, c] := by
  rcases l with _ | ⟨a, _ | ⟨b, _ | ⟨c, _ | ⟨d, r⟩⟩⟩⟩ <;> simp at h
  exact ⟨a, b, c, rfl⟩
/-- an expression that a text may tell, however many parts it has -/
inductive Good : Ex → Prop where
  | int (n : Int) (h0 : 0 ≤ n) (h1 : n ≤ 9223372036854775807) : Good (.mk 1 [] n [] [])
  | bool (n : Int) (h : n = 0 ∨ n = 1) : Good (.mk 2 [] n [] [])
  | con (c : Tx) (h : conM false c = true) : Good (.mk 3 c 0 [] [])
  | var (x : Tx) (h : nameM false x = true) : Good (.mk 4 x 0 [] [])
  | un (o : Tx) (h : o = notT ∨ o = minusT) (k : Ex) (hk : Good k) : Good (.mk 5 o 0 [] [k])
  | bin (o : Tx) (h : o ∈ binsL) (a b : Ex) (ha : Good a) (hb : Good b) : Good (.mk 6 o 0 [] [a, b])
  | choice (a b c : Ex) (ha : Good a) (hb : Good b) (hc : Good c) : Good (.mk 7 [] 0 [] [a, b, c])
  | fby (a b : Ex) (ha : Good a) (hb : Good b) : Good (.mk 8 [] 0 [] [a, b])
  | pre (k : Ex) (hk : Good k) : Good (.mk 9 [] 0 [] [k])
  | arrow (a b : Ex) (ha : Good a) (hb : Good b) : Good (.mk 10 [] 0 [] [a, b])
  | sample (x c : Tx) (hx : nameM false x = true) (hc : conM false c = true) (k : Ex) (hk : Good k) : Good (.mk 11 x 0 [c] [k])
  | merge (x : Tx) (cs : List Tx) (ks : List Ex) (hx : nameM false x = true) (h0 : ks ≠ []) (hc : ∀ c ∈ cs, conM false c = true) (hl : ks.length = cs.length) (hk : ∀ k, k ∈ ks → Good k) : Good (.mk 12 x 0 cs ks)
  | mtch (x : Tx) (cs : List Tx) (ks : List Ex) (hx : nameM false x = true) (h0 : ks ≠ []) (hc : ∀ c ∈ cs, conM false c = true) (hl : ks.length = cs.length) (hk : ∀ k, k ∈ ks → Good k) : Good (.mk 13 x 0 cs ks)
  | call (x : Tx) (cs : List Tx) (ks : List Ex) (hx : nameM false x = true) (h0 : ks ≠ []) (hc : ∀ c ∈ cs, nameM false c = true) (hk : ∀ k, k ∈ ks → Good k) : Good (.mk 14 x 0 cs ks)
  | every (x : Tx) (cs : List Tx) (ks : List Ex) (b : Ex) (ha : Good (.mk 14 x 0 cs ks)) (hb : Good b) : Good (.mk 15 [] 0 [] [.mk 14 x 0 cs ks, b])
theorem right_good : ∀ x : Ex, rightX false x = true → bndX x → Good x := by
  intro x; induction x using Ex.ind with
  | h op nm n cs ks ih =>
    intro hr hb; rw [rightX, rightXs_all] at hr; simp only [Bool.and_eq_true, List.all_eq_true] at hr; obtain ⟨hs, hk⟩ := hr; rw [bndX, bndXs_all] at hb; obtain ⟨hn, hbk⟩ := hb; have H : ∀ k, k ∈ ks → Good k := fun k hm => ih k hm (hk k hm) (hbk k hm); rcases op_case op with rfl | rfl | rfl | rfl | rfl | rfl | rfl | rfl | rfl | rfl | rfl | rfl | rfl | rfl | rfl | ⟨h1, h2, h3, h4, h5, h6, h7, h8, h9, h10, h11, h12, h13, h14, h15⟩
    · simp [shapeM] at hs; obtain ⟨⟨⟨rfl, h⟩, rfl⟩, rfl⟩ := hs; exact .int n h hn
    · simp [shapeM] at hs; obtain ⟨⟨⟨rfl, h⟩, rfl⟩, rfl⟩ := hs; exact .bool n (by omega)
    · simp [shapeM] at hs; obtain ⟨⟨⟨h, rfl⟩, rfl⟩, rfl⟩ := hs; exact .con nm h
    · simp [shapeM] at hs; obtain ⟨⟨⟨h, rfl⟩, rfl⟩, rfl⟩ := hs; exact .var nm h
    · simp [shapeM] at hs; obtain ⟨⟨⟨h, rfl⟩, rfl⟩, h2⟩ := hs; obtain ⟨k, rfl⟩ := List.length_eq_one_iff.1 h2; exact .un nm h k (H k (by simp))
    · simp [shapeM] at hs; obtain ⟨⟨⟨h, rfl⟩, rfl⟩, h2⟩ := hs; obtain ⟨a, b, rfl⟩ := len_two h2; exact .bin nm h a b (H a (by simp)) (H b (by simp))
    · simp [shapeM] at hs; obtain ⟨⟨⟨rfl, rfl⟩, rfl⟩, h2⟩ := hs; obtain ⟨a, b, c, rfl⟩ := len_three h2; exact .choice a b c (H a (by simp)) (H b (by simp)) (H c (by simp))
    · simp [shapeM] at hs; obtain ⟨⟨⟨rfl, rfl⟩, rfl⟩, h2⟩ := hs; obtain ⟨a, b, rfl⟩ := len_two h2; exact .fby a b (H a (by simp)) (H b (by simp))
    · simp [shapeM] at hs; obtain ⟨⟨⟨rfl, rfl⟩, rfl⟩, h2⟩ := hs; obtain ⟨k, rfl⟩ := List.length_eq_one_iff.1 h2; exact .pre k (H k (by simp))
    · simp [shapeM] at hs; obtain ⟨⟨⟨rfl, rfl⟩, rfl⟩, h2⟩ := hs; obtain ⟨a, b, rfl⟩ := len_two h2; exact .arrow a b (H a (by simp)) (H b (by simp))
    · simp [shapeM] at hs; obtain ⟨⟨⟨h, rfl⟩, hc⟩, h2⟩ := hs; obtain ⟨k, rfl⟩ := List.length_eq_one_iff.1 h2; have hm := allM_mem hc; have hl : cs.length = 1 := (by simp [allM] at hc; omega); obtain ⟨c, rfl⟩ := List.length_eq_one_iff.1 hl; exact .sample nm c h (hm c (by simp)) k (H k (by simp))
    · simp [shapeM] at hs; obtain ⟨⟨⟨h, rfl⟩, hc⟩, h2⟩ := hs; have hm := allM_mem hc; have hl : 1 ≤ cs.length := (by simp [allM] at hc; omega); exact .merge nm cs ks h (by rintro rfl; simp at h2; omega) hm h2 H
    · simp [shapeM] at hs; obtain ⟨⟨⟨h, rfl⟩, hc⟩, h2⟩ := hs; have hm := allM_mem hc; have hl : 1 ≤ cs.length := (by simp [allM] at hc; omega); exact .mtch nm cs ks h (by rintro rfl; simp at h2; omega) hm h2 H
    · simp [shapeM] at hs; obtain ⟨⟨⟨h, rfl⟩, hc⟩, h2⟩ := hs; have hm := allM_mem hc; exact .call nm cs ks h (by rintro rfl; simp at h2) hm H
    · simp [shapeM] at hs; obtain ⟨⟨⟨rfl, rfl⟩, rfl⟩, h2, h3⟩ := hs; obtain ⟨a, b, rfl⟩ := len_two h2; obtain ⟨o, x, m, cs, ks⟩ := a; simp [Ex.op] at h3; subst h3; have hg := H _ (List.mem_cons_self ..); cases hg; exact .every _ _ _ b (H _ (by simp)) (H b (by simp))
    · simp [shapeM, *] at hs
theorem good_bare {x : Ex} (h : Good x) : ∃ u us, toksX x = u :: us ∧ BareT u := by
  have ho : BareT openT := (by unfold BareT; decide); cases h with
  | int n h0 h1 => exact ⟨_, [], by simp [toksX, toksOf], bare_sort (sort_int h0 h1).1 (by omega)⟩
  | bool n h => exact ⟨if n = 1 then trueT else falseT, [], by simp [toksX, toksOf], by rcases h with rfl | rfl <;> (unfold BareT; decide)⟩
  | con c h => exact ⟨c, [], by simp [toksX, toksOf], bare_sort (psort_con h) (by omega)⟩
  | var c h => exact ⟨c, [], by simp [toksX, toksOf], bare_sort (psort_name h) (by omega)⟩
  | un o h k hk => exact ⟨openT, _, by simp [toksX, toksOf, prefixT, openT]; rfl, ho⟩
  | bin o h a b ha hb => exact ⟨openT, _, by simp [toksX, toksOf, infixT, openT]; rfl, ho⟩
  | choice a b c ha hb hc => exact ⟨openT, _, by simp [toksX, toksOf, choiceT, openT]; rfl, ho⟩
  | fby a b ha hb => exact ⟨openT, _, by simp [toksX, toksOf, infixT, openT]; rfl, ho⟩
  | pre k hk => exact ⟨openT, _, by simp [toksX, toksOf, prefixT, openT]; rfl, ho⟩
  | arrow a b ha hb => exact ⟨openT, _, by simp [toksX, toksOf, infixT, openT]; rfl, ho⟩
  | sample x c hx hc k hk => exact ⟨openT, _, by simp [toksX, toksOf, whenT, openT]; rfl, ho⟩
  | merge x cs ks hx h0 hc hl hk => exact ⟨mergeT, _, by simp [toksX, toksOf, armT]; rfl, by unfold BareT; decide⟩
  | mtch x cs ks hx h0 hc hl hk => exact ⟨matchT, _, by simp [toksX, toksOf, armT]; rfl, by unfold BareT; decide⟩
  | call x cs ks hx h0 hc hk => exact ⟨x, _, by simp [toksX, toksOf, callT]; rfl, bare_sort (psort_name hx) (by omega)⟩
  | every x cs ks b ha hb => exact ⟨openT, _, by simp [toksX, toksOf, infixT, openT]; rfl, ho⟩
theorem dN_kid {op n : Int} {nm : Tx} {cs : List Tx} {ks : List Ex} {k : Ex} (h : k ∈ ks) : dN k + 1 ≤ dN (.mk op nm n cs ks) := by
  rw [dN]; have := dNs_le h; omega
/-- what an expression's kids are good for -/
def KidOk (f : Nat) (x : Ex) : Prop := AtomG f x ∧ UnG f x ∧ OpG f x
theorem kid_ev {x : Ex} (h : Ev fun f => AtomG f x) (hb : ∃ u us, toksX x = u :: us ∧ BareT u) : Ev fun f => KidOk f x := by
  obtain ⟨F, h⟩ := h; obtain ⟨u, us, hx, hu⟩ := hb; refine ⟨F + 9, fun f hf => ⟨h f (by omega), ?_, ?_⟩⟩
  · obtain ⟨g, rfl⟩ : ∃ g, f = g + 1 := ⟨f - 1, by omega⟩; exact un_of_atom (h g (by omega)) hx hu
  · exact op_of_un (g := F + 1) (un_of_atom (h F (Nat.le_refl _)) hx hu) (by omega)
def CalmT (s : Tx) : Prop := s ≠ whenT' ∧ s ≠ everyT ∧ s ≠ openT ∧ s ≠ openB
instance : DecidablePred CalmT := fun s => inferInstanceAs (Decidable (s ≠ whenT' ∧ s ≠ everyT ∧ s ≠ openT ∧ s ≠ openB))
theorem calm_of {s : Tx} (h : CalmT s) {t : Tok} (ht : t.text = s) : Calm t := by unfold Calm; rw [ht]; exact h
/-- what may stand behind an expression -/
def Stop (t : Tok) : Prop := CalmT t.text ∧ strongT t.text = 0
theorem stop_of {s : Tx} (h : CalmT s ∧ strongT s = 0) {t : Tok} (ht : t.text = s) : Stop t := by unfold Stop; rw [ht]; exact h
theorem Stop.calm {t : Tok} (h : Stop t) : Calm t := h.1
theorem Stop.weak {t : Tok} (h : Stop t) {s : Nat} (hs : 1 ≤ s) : ∀ j, s ≤ j → j ≤ 7 → strongT t.text ≠ j := fun j h1 _ => by rw [h.2]; omega
theorem stop_shut {t : Tok} (ht : t.text = shutT) : Stop t := stop_of (by decide) ht
theorem paren_ok {f o : Nat} {x : Ex} {inner : List Tx} {ps : List Tok} {t : Tok} {r : List Tok} (hE : ∀ q c, IsT shutT c → Begs inner q (c :: t :: r) → opX f 1 q o = some (.ok x (c :: t :: r))) (h : Begs (openT :: (inner ++ [shutT])) ps (t :: r)) : atomP (opX f 1) o ps = some (.ok x (t :: r)) := by
  have h' := h; obtain ⟨v, q, rfl, hv, _⟩ := h'; have hs : v.sort = 4 := (by rw [hv.2.1]; decide +kernel); rw [atomP, if_neg (by rw [hs]; decide), if_neg (by rw [hs]; decide), if_neg (by rw [hs]; decide), if_neg (by rw [hv.1]; decide), if_neg (by rw [hv.1]; decide), if_neg (by rw [hv.1]; decide), if_neg (by rw [hv.1]; decide), if_pos hv.1]; exact enclosed_ok (R := t :: r) (fun q c hc hb => hE q c hc hb) h (by simp)
theorem up_ok {g o : Nat} {ps : List Tok} {x : Ex} {t : Tok} {r : List Tok} (h : unX g ps o = some (.ok x (t :: r))) (ht : Stop t) : opX (g + 8) 1 ps o = some (.ok x (t :: r)) := op_up h 7 1 rfl (ht.weak (Nat.le_refl _))
theorem unX_bare {g o : Nat} {v : Tok} {q : List Tok} (ho : o < 100) (hv : BareT v.text) : unX (g + 1) (v :: q) o = sampledP (unX g) (opX g 1) (o + 1) (v :: q) := by
  rw [unX, if_neg (by omega), prefixedP, if_neg hv.1, if_neg hv.2.1, if_neg hv.2.2.1, if_neg hv.2.2.2]
theorem when_stop {g : Nat} {e : Ex} {t : Tok} {r : List Tok} (h : t.text ≠ whenT') : whenP (g + 1) e (t :: r) = some (.ok e (t :: r)) := by rw [whenP, if_neg h]
/-- an operator between two operands -/
theorem infix_ok {F : Nat} {a b : Ex} {w : Tx} {s : Nat} (hs : strongT w = s) (h1 : 1 ≤ s) (h7 : s ≤ 7) (hw : CalmT w) (ha : ∀ f, F ≤ f → OpG f a) (hb : ∀ f, F ≤ f → OpG f b) {f o : Nat} (hf : F + 12 ≤ f) (hoa : o + 2 * dN a ≤ 101) (hob : o + 2 * dN b ≤ 101)
    {q : List Tok} {c : Tok} {R : List Tok} (hc : Stop c) (h : Begs (toksX a ++ w :: toksX b) q (c :: R)) : opX f 1 q o = some (.ok (operE w a b) (c :: R)) := by
  obtain ⟨m, hA, hB⟩ := begs_app h; obtain ⟨v, m', rfl, hv, hB⟩ := hB; have hm : m' ≠ [] := begs_ne hB (by simp); obtain ⟨g, rfl⟩ : ∃ g, f = (g + 3) + (s - 1) := ⟨f - (s - 1) - 3, by omega⟩; refine op_down (s := s) ?_ (by omega) (by omega) (s - 1) 1 (by omega) (hc.weak (Nat.le_refl _)); have hst : strongT v.text = s := (by rw [hv.1]; exact hs); rw [opX, if_neg (by omega), ha (g + 2) (by omega) (s + 1) o q v m' (by omega) (by omega) hoa (calm_of hw hv.1) (fun j h2 _ => by rw [hst]; omega) hA, bindP_ok, loopX, if_pos hst, if_neg hm]; by_cases h12 : s = 1 ∨ s = 2
  · rw [if_pos h12, hb (g + 1) (by omega) s o m' c R h1 (by omega) hob hc.calm (hc.weak h1) hB, bindP_ok, hv.1]
  · rw [if_neg h12]; by_cases h5 : s = 5
    · rw [if_pos h5, hb (g + 1) (by omega) (s + 1) o m' c R (by omega) (by omega) hob hc.calm (hc.weak (by omega)) hB, bindP_ok, hv.1]
    · rw [if_neg h5, hb (g + 1) (by omega) (s + 1) o m' c R (by omega) (by omega) hob hc.calm (hc.weak (by omega)) hB, bindP_ok, loop_stop (by rw [hc.2]; omega), hv.1]
theorem bins_strong : ∀ o ∈ binsL, 3 ≤ strongT o ∧ strongT o ≤ 7 ∧ o ≠ arrowT ∧ o ≠ fbyT ∧ CalmT o := by decide
theorem bin_oper {o : Tx} (h : o ∈ binsL) (a b : Ex) : operE o a b = .mk 6 o 0 [] [a, b] := by
  obtain ⟨_, _, h1, h2, _⟩ := bins_strong o h; rw [operE, if_neg h1, if_neg h2]
theorem arms_zip : ∀ (cs : List Tx) (ks : List Ex), armsT cs (ks.map toksX) = (cs.zip ks).map fun y => y.1 :: arrowT :: toksX y.2
  | [], _ => by simp [armsT]
  | c :: cs, [] => by simp [armsT]
  | c :: cs, k :: ks => by rw [List.map_cons, armsT, arms_zip cs ks]; rfl
/-- the arms of a merge or a match -/
theorem choices_ok {F : Nat} {op : Int} {x : Tx} {cs : List Tx} {ks : List Ex} (hx : nameM false x = true) (h0 : ks ≠ []) (hc : ∀ c ∈ cs, conM false c = true) (hl : ks.length = cs.length) (hk : ∀ f, F ≤ f → ∀ k ∈ ks, OpG f k) {f o : Nat} (hf : F ≤ f) (ho : ∀ k ∈ ks, o + 2 * dN k ≤ 101)
    {q : List Tok} {t : Tok} {r : List Tok} (h : Begs (x :: openT :: (sepT barT (armsT cs (ks.map toksX)) ++ [shutT])) q (t :: r)) : choicesP (opX f 1) op o q = some (.ok (.mk op x 0 cs ks) (t :: r)) := by
  obtain ⟨q1, e1, h1⟩ := name_ok hx h (by simp); rw [choicesP, e1, bindP_ok, arms_zip] at *; have hz : cs.zip ks ≠ [] := by
    intro e; have h2 := congrArg List.length e; rw [List.length_zip, List.length_nil] at h2; have := List.length_pos_iff.2 h0; omega
  rw [enclosed_ok (x := cs.zip ks) (fun q c hcc hb => separated_ok (Q := Stop) (fun u hu => stop_of (by decide) hu) (by rw [hcc.1]; decide) (stop_shut hcc.1) hz (fun y hy ps t r hQ hB => ?_) hb) h1 (by simp), bindP_ok]
  · rw [List.map_fst_zip (by omega), List.map_snd_zip (by omega)]
  · obtain ⟨c, k⟩ := y; have hm := List.of_mem_zip hy; obtain ⟨q2, e2, h2⟩ := con_ok (hc c hm.1) hB (by simp); obtain ⟨q3, e3, h3⟩ := want_ok h2 (by simp); rw [armP, e2, bindP_ok, e3, bindP_ok, hk f hf k hm.2 1 o q3 t r (by omega) (by omega) (ho k hm.2) hQ.calm (hQ.weak (Nat.le_refl _)) h3, bindP_ok]
theorem atom_ev {x : Ex} (h : Good x) : Ev fun f => AtomG f x := by
  induction h with
  | int n h0 h1 =>
    refine .of fun f o ps t r ho _ _ h => ?_; rw [show toksX (.mk 1 [] n [] []) = [Lib.itoa n] by simp [toksX, toksOf]] at h; obtain ⟨v, rfl, hv⟩ := begs_one h; rw [atomP, if_pos (by rw [hv.2.1, (sort_int h0 h1).1]), if_neg (by simp), hv.2.2, (sort_int h0 h1).2]
  | bool n hn =>
    refine .of fun f o ps t r ho _ _ h => ?_; rw [show toksX (.mk 2 [] n [] []) = [if n = 1 then trueT else falseT] by simp [toksX, toksOf]] at h; obtain ⟨v, rfl, hv⟩ := begs_one h; rcases hn with rfl | rfl
    · rw [if_neg (by decide)] at hv; have hs : v.sort = 5 := (by rw [hv.2.1]; decide +kernel); rw [atomP, if_neg (by rw [hs]; decide), if_neg (by rw [hs]; decide), if_neg (by rw [hs]; decide), if_neg (by rw [hv.1]; decide), if_pos hv.1, if_neg (by simp)]
    · rw [if_pos rfl] at hv; have hs : v.sort = 5 := (by rw [hv.2.1]; decide +kernel); rw [atomP, if_neg (by rw [hs]; decide), if_neg (by rw [hs]; decide), if_neg (by rw [hs]; decide), if_pos hv.1, if_neg (by simp)]
  | con c hc =>
    refine .of fun f o ps t r ho _ _ h => ?_; rw [show toksX (.mk 3 c 0 [] []) = [c] by simp [toksX, toksOf]] at h; obtain ⟨q, e, h1⟩ := con_ok hc h (by simp); obtain ⟨v, rfl, hv⟩ := begs_one h; rw [Begs] at h1; rw [atomP, if_neg (by rw [hv.2.1, psort_con hc]; decide), if_pos (by rw [hv.2.1, psort_con hc]), e, bindP_ok, h1]
  | var c hc =>
    refine .of fun f o ps t r ho n1 n2 h => ?_; rw [show toksX (.mk 4 c 0 [] []) = [c] by simp [toksX, toksOf]] at h; obtain ⟨q, e, h1⟩ := name_ok hc h (by simp); obtain ⟨v, rfl, hv⟩ := begs_one h; rw [Begs] at h1; have hs := psort_name hc; rw [atomP, if_neg (by rw [hv.2.1, hs]; decide), if_neg (by rw [hv.2.1, hs]; decide), if_pos (by rw [hv.2.1, hs]), namedP, e, bindP_ok, h1, if_neg (by simp), if_pos (by simp [atP, n1, n2])]
  | un u hu k hk ih =>
    obtain ⟨F, ih⟩ := kid_ev ih (good_bare hk); refine ⟨F + 12, fun f hf o ps t r ho _ _ h => ?_⟩; have hd := dN_kid (op := 5) (nm := u) (n := 0) (cs := []) (List.mem_singleton_self k); have hp := dN_pos k; rw [show toksX (.mk 5 u 0 [] [k]) = openT :: ((u :: toksX k) ++ [shutT]) by simp [toksX, toksXs, toksOf, prefixT, kidT, openT, shutT]] at h; refine paren_ok (fun q c hc hb => ?_) h; obtain ⟨g, rfl⟩ : ∃ g, f = (g + 1) + 8 := ⟨f - 9, by omega⟩; refine up_ok ?_ (stop_shut hc.1); obtain ⟨v, q, rfl, hv, hb⟩ := hb; have hq := begs_ne hb (by simp); have hU := (ih g (by omega)).2.1 (o + 1) q c (t :: r) (by omega) (stop_shut hc.1).calm hb; rw [unX, if_neg (by omega), prefixedP]; rcases hu with rfl | rfl
    · rw [if_pos hv.1, if_neg hq, hU, bindP_ok, hv.1]
    · rw [if_neg (by rw [hv.1]; decide), if_pos hv.1, if_neg hq, hU, bindP_ok, hv.1]
  | bin w hw a b ga gb iha ihb =>
    obtain ⟨F, ih⟩ := (kid_ev iha (good_bare ga)).and (kid_ev ihb (good_bare gb)); refine ⟨F + 12, fun f hf o ps t r ho _ _ h => ?_⟩; have hda := dN_kid (op := 6) (nm := w) (n := 0) (cs := []) (show a ∈ [a, b] by simp); have hdb := dN_kid (op := 6) (nm := w) (n := 0) (cs := []) (show b ∈ [a, b] by simp); rw [show toksX (.mk 6 w 0 [] [a, b]) = openT :: ((toksX a ++ w :: toksX b) ++ [shutT]) by simp [toksX, toksXs, toksOf, infixT, kidT, openT, shutT]] at h; refine paren_ok (fun q c hc hb => ?_) h; obtain ⟨s1, s2, _, _, s3⟩ := bins_strong w hw; rw [infix_ok rfl (by omega) s2 s3 (fun f hf => (ih f hf).1.2.2) (fun f hf => (ih f hf).2.2.2) hf (by omega) (by omega) (stop_shut hc.1) hb, bin_oper hw]
  | choice a b c ga gb gc iha ihb ihc =>
    obtain ⟨F, ih⟩ := ((kid_ev iha (good_bare ga)).and (kid_ev ihb (good_bare gb))).and (kid_ev ihc (good_bare gc)); refine ⟨F + 12, fun f hf o ps t r ho _ _ h => ?_⟩; have hda := dN_kid (op := 7) (nm := []) (n := 0) (cs := []) (show a ∈ [a, b, c] by simp); have hdb := dN_kid (op := 7) (nm := []) (n := 0) (cs := []) (show b ∈ [a, b, c] by simp); have hdc := dN_kid (op := 7) (nm := []) (n := 0) (cs := []) (show c ∈ [a, b, c] by simp); have hp := dN_pos a; rw [show toksX (.mk 7 [] 0 [] [a, b, c]) = openT :: ((ifT :: (toksX a ++ thenT :: (toksX b ++ elseT :: toksX c))) ++ [shutT]) by simp [toksX, toksXs, toksOf, choiceT, kidT, openT, shutT, ifT, thenT, elseT]] at h; refine paren_ok (fun q z hz hb => ?_) h; obtain ⟨g, rfl⟩ : ∃ g, f = (g + 1) + 8 := ⟨f - 9, by omega⟩; refine up_ok ?_ (stop_shut hz.1); have hb' := hb; obtain ⟨v, q, rfl, hv, _⟩ := hb'; obtain ⟨q1, e1, h1⟩ := want_ok hb (by simp); obtain ⟨m1, ha, h2⟩ := begs_app h1; obtain ⟨q2, e2, h3⟩ := want_ok h2 (by simp); obtain ⟨v1, m1, rfl, hv1, _⟩ := h2; obtain ⟨m2, hbb, h4⟩ := begs_app h3; obtain ⟨q3, e3, h5⟩ := want_ok h4 (by simp); obtain ⟨v2, m2, rfl, hv2, _⟩ := h4; have S1 : Stop v1 := stop_of (by decide) hv1.1; have S2 : Stop v2 := stop_of (by decide) hv2.1; have S3 := stop_shut hz.1
    rw [unX, if_neg (by omega), prefixedP, if_neg (by rw [hv.1]; decide), if_neg (by rw [hv.1]; decide), if_neg (by rw [hv.1]; decide), if_pos hv.1, choiceP, e1, bindP_ok,
      (ih g (by omega)).1.1.2.2 1 (o + 1) q1 v1 m1 (by omega) (by omega) (by omega) S1.calm (S1.weak (Nat.le_refl _)) ha, bindP_ok, e2, bindP_ok,
      (ih g (by omega)).1.2.2.2 1 (o + 1) q2 v2 m2 (by omega) (by omega) (by omega) S2.calm (S2.weak (Nat.le_refl _)) hbb, bindP_ok, e3, bindP_ok,
      (ih g (by omega)).2.2.2 1 (o + 1) q3 z (t :: r) (by omega) (by omega) (by omega) S3.calm (S3.weak (Nat.le_refl _)) h5, bindP_ok]
  | fby a b ga gb iha ihb =>
    obtain ⟨F, ih⟩ := (kid_ev iha (good_bare ga)).and (kid_ev ihb (good_bare gb)); refine ⟨F + 12, fun f hf o ps t r ho _ _ h => ?_⟩; have hda := dN_kid (op := 8) (nm := []) (n := 0) (cs := []) (show a ∈ [a, b] by simp); have hdb := dN_kid (op := 8) (nm := []) (n := 0) (cs := []) (show b ∈ [a, b] by simp); rw [show toksX (.mk 8 [] 0 [] [a, b]) = openT :: ((toksX a ++ fbyT :: toksX b) ++ [shutT]) by simp [toksX, toksXs, toksOf, infixT, kidT, openT, shutT]] at h; refine paren_ok (fun q c hc hb => ?_) h; rw [infix_ok (s := 2) (by decide) (by omega) (by omega) (by decide) (fun f hf => (ih f hf).1.2.2) (fun f hf => (ih f hf).2.2.2) hf (by omega) (by omega) (stop_shut hc.1) hb, operE, if_neg (by decide), if_pos rfl]
  | pre k hk ih =>
    obtain ⟨F, ih⟩ := kid_ev ih (good_bare hk); refine ⟨F + 12, fun f hf o ps t r ho _ _ h => ?_⟩; have hd := dN_kid (op := 9) (nm := []) (n := 0) (cs := []) (List.mem_singleton_self k); have hp := dN_pos k; rw [show toksX (.mk 9 [] 0 [] [k]) = openT :: ((preT :: toksX k) ++ [shutT]) by simp [toksX, toksXs, toksOf, prefixT, kidT, openT, shutT]] at h; refine paren_ok (fun q c hc hb => ?_) h; obtain ⟨g, rfl⟩ : ∃ g, f = (g + 1) + 8 := ⟨f - 9, by omega⟩; refine up_ok ?_ (stop_shut hc.1); obtain ⟨v, q, rfl, hv, hb⟩ := hb; have hq := begs_ne hb (by simp); have hU := (ih g (by omega)).2.1 (o + 1) q c (t :: r) (by omega) (stop_shut hc.1).calm hb; rw [unX, if_neg (by omega), prefixedP, if_neg (by rw [hv.1]; decide), if_neg (by rw [hv.1]; decide), if_pos hv.1, if_neg hq, hU, bindP_ok]
  | arrow a b ga gb iha ihb =>
    obtain ⟨F, ih⟩ := (kid_ev iha (good_bare ga)).and (kid_ev ihb (good_bare gb)); refine ⟨F + 12, fun f hf o ps t r ho _ _ h => ?_⟩; have hda := dN_kid (op := 10) (nm := []) (n := 0) (cs := []) (show a ∈ [a, b] by simp); have hdb := dN_kid (op := 10) (nm := []) (n := 0) (cs := []) (show b ∈ [a, b] by simp); rw [show toksX (.mk 10 [] 0 [] [a, b]) = openT :: ((toksX a ++ arrowT :: toksX b) ++ [shutT]) by simp [toksX, toksXs, toksOf, infixT, kidT, openT, shutT]] at h; refine paren_ok (fun q c hc hb => ?_) h; rw [infix_ok (s := 1) (by decide) (by omega) (by omega) (by decide) (fun f hf => (ih f hf).1.2.2) (fun f hf => (ih f hf).2.2.2) hf (by omega) (by omega) (stop_shut hc.1) hb, operE, if_pos rfl]
  | sample x c hx hc k hk ih =>
    obtain ⟨F, ih⟩ := kid_ev ih (good_bare hk); obtain ⟨u, us, hu, hbare⟩ := good_bare hk; refine ⟨F + 12, fun f hf o ps t r ho _ _ h => ?_⟩; have hd := dN_kid (op := 11) (nm := x) (n := 0) (cs := [c]) (List.mem_singleton_self k); have hp := dN_pos k; rw [show toksX (.mk 11 x 0 [c] [k]) = openT :: ((toksX k ++ [whenT', c, openT, x, shutT]) ++ [shutT]) by simp [toksX, toksXs, toksOf, whenT, kidT, namesT, sepT, openT, shutT, whenT']] at h; refine paren_ok (fun q z hz hb => ?_) h; obtain ⟨g, rfl⟩ : ∃ g, f = (g + 1) + 8 := ⟨f - 9, by omega⟩; refine up_ok ?_ (stop_shut hz.1); obtain ⟨m, h1, h2⟩ := begs_app hb; have h1' := h1; rw [hu] at h1'; obtain ⟨v, q, rfl, hv, _⟩ := h1'; obtain ⟨w, m, rfl, hw, h3⟩ := h2; obtain ⟨q4, e4, h4⟩ := con_ok hc h3 (by simp); obtain ⟨q5, e5, h5⟩ := want_ok h4 (by simp); obtain ⟨q6, e6, h6⟩ := name_ok hx h5 (by simp); obtain ⟨q7, e7, h7⟩ := want_ok h6 (by simp); rw [Begs] at h7; rw [unX_bare (by omega) (by rw [hv.1]; exact hbare), sampledP, (ih g (by omega)).1 (o + 1) (v :: q) w m (by omega) (by rw [hw.1]; decide) (by rw [hw.1]; decide) h1, bindP_ok, if_neg (by rw [atP, hw.1]; simp [whenT', everyT]), List.length_cons, whenP, if_pos hw.1, if_neg (begs_ne h3 (by simp)), e4, bindP_ok, enclosedP, e5, bindP_ok, e6, bindP_ok, e7, bindP_ok, bindP_ok, h7, when_stop (by rw [hz.1]; decide)]
  | merge x cs ks hx h0 hc hl hk ih =>
    obtain ⟨F, ih⟩ := Ev.all (p := fun k f => KidOk f k) fun k hm => kid_ev (ih k hm) (good_bare (hk k hm)); refine ⟨F, fun f hf o ps t r ho _ _ h => ?_⟩; rw [show toksX (.mk 12 x 0 cs ks) = mergeT :: (x :: openT :: (sepT barT (armsT cs (ks.map toksX)) ++ [shutT])) by simp [toksX_mk, toksOf, armT, openT, shutT, barT]] at h; obtain ⟨v, q, rfl, hv, h⟩ := h; have hs : v.sort = 5 := (by rw [hv.2.1]; decide +kernel); rw [atomP, if_neg (by rw [hs]; decide), if_neg (by rw [hs]; decide), if_neg (by rw [hs]; decide), if_neg (by rw [hv.1]; decide), if_neg (by rw [hv.1]; decide), if_pos hv.1, if_neg (begs_ne h (by simp))]; exact choices_ok hx h0 hc hl (fun f hf k hm => (ih f hf k hm).2.2) hf (fun k hm => by have := dN_kid (op := 12) (nm := x) (n := 0) (cs := cs) hm; omega) h
  | mtch x cs ks hx h0 hc hl hk ih =>
    obtain ⟨F, ih⟩ := Ev.all (p := fun k f => KidOk f k) fun k hm => kid_ev (ih k hm) (good_bare (hk k hm)); refine ⟨F, fun f hf o ps t r ho _ _ h => ?_⟩; rw [show toksX (.mk 13 x 0 cs ks) = matchT :: (x :: openT :: (sepT barT (armsT cs (ks.map toksX)) ++ [shutT])) by simp [toksX_mk, toksOf, armT, openT, shutT, barT]] at h; obtain ⟨v, q, rfl, hv, h⟩ := h; have hs : v.sort = 5 := (by rw [hv.2.1]; decide +kernel); rw [atomP, if_neg (by rw [hs]; decide), if_neg (by rw [hs]; decide), if_neg (by rw [hs]; decide), if_neg (by rw [hv.1]; decide), if_neg (by rw [hv.1]; decide), if_neg (by rw [hv.1]; decide), if_pos hv.1, if_neg (begs_ne h (by simp))]; exact choices_ok hx h0 hc hl (fun f hf k hm => (ih f hf k hm).2.2) hf (fun k hm => by have := dN_kid (op := 13) (nm := x) (n := 0) (cs := cs) hm; omega) h
  | call x cs ks hx h0 hc hk ih =>
    obtain ⟨F, ih⟩ := Ev.all (p := fun k f => KidOk f k) fun k hm => kid_ev (ih k hm) (good_bare (hk k hm)); refine ⟨F, fun f hf o ps t r ho _ _ h => ?_⟩; rw [show toksX (.mk 14 x 0 cs ks) = x :: (staticsT cs ++ openT :: (sepT commaT (ks.map toksX) ++ [shutT])) by simp [toksX_mk, toksOf, callT, openT, shutT, commaT]] at h; have h' := h; obtain ⟨v, q, rfl, hv, _⟩ := h'; have hs := psort_name hx; obtain ⟨q1, e1, h1⟩ := name_ok hx h (by simp); obtain ⟨q2, e2, h2⟩ := statics_ok hc (by decide) h1 (by simp); have hat : ¬(atP openB q1 = false ∧ atP openT q1 = false) := by
      by_cases hcs : cs = []
      · rw [staticsT, if_pos hcs, List.nil_append] at h1; rw [at_ok (s := openT) h1]; simp
      · rw [staticsT, if_neg hcs, List.cons_append] at h1; rw [at_ok (s := openB) h1]; simp [openB]
    rw [atomP, if_neg (by rw [hv.2.1, hs]; decide), if_neg (by rw [hv.2.1, hs]; decide), if_pos (by rw [hv.2.1, hs]), namedP, e1, bindP_ok, if_neg (begs_ne h1 (by simp)), if_neg hat, e2, bindP_ok,
      enclosed_ok (x := ks) (fun q c hcc hb => separated_ok (Q := Stop) (fun u hu => stop_of (by decide) hu) (by rw [hcc.1]; decide) (stop_shut hcc.1) h0 (fun y hy ps t r hQ hB => (ih f hf y hy).2.2 1 o ps t r (by omega) (by omega) (by have := dN_kid (op := 14) (nm := x) (n := 0) (cs := cs) hy; omega) hQ.calm (hQ.weak (Nat.le_refl _)) hB) hb) h2 (by simp), bindP_ok]
  | every x cs ks b ga gb iha ihb =>
    obtain ⟨u, us, hu, hbare⟩ := good_bare ga; obtain ⟨F, ih⟩ := (kid_ev iha (good_bare ga)).and (kid_ev ihb (good_bare gb)); refine ⟨F + 12, fun f hf o ps t r ho _ _ h => ?_⟩; have hda := dN_kid (op := 15) (nm := []) (n := 0) (cs := []) (show Ex.mk 14 x 0 cs ks ∈ [Ex.mk 14 x 0 cs ks, b] by simp); have hdb := dN_kid (op := 15) (nm := []) (n := 0) (cs := []) (show b ∈ [Ex.mk 14 x 0 cs ks, b] by simp); have hp := dN_pos b; rw [show toksX (.mk 15 [] 0 [] [.mk 14 x 0 cs ks, b]) = openT :: ((toksX (.mk 14 x 0 cs ks) ++ everyT :: toksX b) ++ [shutT]) by rw [toksX_mk]; simp [toksOf, infixT, kidT, openT, shutT]] at h; refine paren_ok (fun q z hz hb => ?_) h; obtain ⟨g, rfl⟩ : ∃ g, f = (g + 1) + 8 := ⟨f - 9, by omega⟩; refine up_ok ?_ (stop_shut hz.1); obtain ⟨m, h1, h2⟩ := begs_app hb; have h1' := h1; rw [hu] at h1'; obtain ⟨v, q, rfl, hv, _⟩ := h1'; obtain ⟨w, m, rfl, hw, h3⟩ := h2; have hU := (ih g (by omega)).2.2.1 (o + 1) m z (t :: r) (by omega) (stop_shut hz.1).calm h3; rw [unX_bare (by omega) (by rw [hv.1]; exact hbare), sampledP, (ih g (by omega)).1.1 (o + 1) (v :: q) w m (by omega) (by rw [hw.1]; decide) (by rw [hw.1]; decide) h1, bindP_ok, if_pos ⟨rfl, by rw [atP, hw.1]; simp⟩, List.tail_cons, if_neg (begs_ne h3 (by simp)), hU, bindP_ok, List.length_cons, when_stop (by rw [hz.1]; decide)]
/-- an expression's tokens are parsed as it, where no unary is open -/
theorem op_ev {x : Ex} (h : Good x) : Ev fun f => OpG f x := (kid_ev (atom_ev h) (good_bare h)).mono fun _ h => h.2.2
end Go.Proofs.YtoajfnfhphoaeaaGreatDoor
