/-
  Plain mathematics: the reader reads every expression that may be; so unlike ones have unlike tokens, and unlike texts.
-/
import Derived.Test.YthffigagnodnmaaGreatDoorTreeUniq
namespace Go.Proofs.YthffigagnodnmaaGreatDoor

mutual
def fX : Ex → Nat
  | .mk _ _ _ cs ks => fXs ks + cs.length + 1
def fXs : List Ex → Nat
  | [] => 0
  | k :: r => fX k + 1 + fXs r
end
theorem fXs_len (l : List Ex) : l.length ≤ fXs l := by
  induction l with
  | nil => simp
  | cons k r ih => simp [fXs]; omega
theorem fXs_mem {l : List Ex} {k : Ex} (h : k ∈ l) : fX k ≤ fXs l := by
  induction l with
  | nil => cases h
  | cons x r ih =>
    rcases List.mem_cons.1 h with rfl | h
    · simp [fXs]; omega
    · have := ih h; simp [fXs]; omega
theorem headD_app {u : Tx} {s l : List Tx} {a : List Tx} (h : a = u :: s) : (a ++ l).headD [] = u := by rw [h]; rfl
theorem pX_open (g : Nat) (r : List Tx) : pX (g + 1) ([40] :: r) =
    (if r.headD [] = ifT then (pX g r.tail).bind fun a => (pX g a.2.tail).bind fun b => (pX g b.2.tail).bind fun c => some (.mk 7 [] 0 [] [a.1, b.1, c.1], c.2.tail)
      else if r.headD [] = preT then (pX g r.tail).bind fun a => some (.mk 9 [] 0 [] [a.1], a.2.tail)
      else if r.headD [] = notT ∨ r.headD [] = [45] then (pX g r.tail).bind fun a => some (.mk 5 (r.headD []) 0 [] [a.1], a.2.tail)
      else (pX g r).bind fun a =>
        if a.2.headD [] = whenW then some (.mk 11 (a.2.getD 3 []) 0 [a.2.getD 1 []] [a.1], a.2.drop 6)
        else (pX g a.2.tail).bind fun b => some (opBin (a.2.headD []) a.1 b.1, b.2.tail)) := rfl
theorem pX_merge (g : Nat) (r : List Tx) : pX (g + 1) (mergeT :: r) = (pArms (pX g) g r.tail.tail).bind fun a => some (.mk 12 (r.headD []) 0 a.1 a.2.1, a.2.2) := rfl
theorem pX_match (g : Nat) (r : List Tx) : pX (g + 1) (matchT :: r) = (pArms (pX g) g r.tail.tail).bind fun a => some (.mk 13 (r.headD []) 0 a.1 a.2.1, a.2.2) := rfl
theorem pX_else {g : Nat} {t : Tx} {r : List Tx} (h1 : t ≠ [40]) (h2 : t ≠ mergeT) (h3 : t ≠ matchT) (h4 : t ≠ trueT) (h5 : t ≠ falseT) : pX (g + 1) (t :: r) =
    (if digitB (t.headD 0) = true then some (.mk 1 [] (digV 0 t) [] [], r)
    else if greatB (t.headD 0) = true then some (.mk 3 t 0 [] [], r)
    else if r.headD [] = [40] then (pList (pX g) g r.tail).bind fun a => some (.mk 14 t 0 [] a.1, a.2)
    else if r.headD [] = [91] then (pNames g r.tail).bind fun a => (pList (pX g) g a.2.tail).bind fun b => some (.mk 14 t 0 a.1 b.1, b.2)
    else some (.mk 4 t 0 [] [], r)) := by
  show (if t = [40] then _ else if t = mergeT then _ else if t = matchT then _ else if t = trueT then _ else if t = falseT then _ else _) = _
  rw [if_neg h1, if_neg h2, if_neg h3, if_neg h4, if_neg h5]
  rfl
theorem infix_read {g : Nat} {o : Tx} {a b : Ex} (ha : Reads (pX g) a) (hb : Reads (pX g) b) (hh : ∃ u s, toksX a = u :: s ∧ u ∉ badH) (h1 : o ≠ [40]) (h2 : o ≠ [91]) (h3 : o ≠ whenW) (r : List Tx) :
    pX (g + 1) (infixT o [toksX a, toksX b] ++ r) = some (opBin o a b, r) := by
  obtain ⟨u, s, hu, hbad⟩ := hh
  have e : infixT o [toksX a, toksX b] ++ r = [40] :: (toksX a ++ o :: (toksX b ++ [41] :: r)) := by simp [infixT, kidT]
  have hd := headD_app (l := o :: (toksX b ++ [41] :: r)) hu
  have q1 : u ≠ ifT := fun e => hbad (by rw [e]; simp [badH])
  have q2 : u ≠ preT := fun e => hbad (by rw [e]; simp [badH])
  have q3 : ¬ (u = notT ∨ u = [45]) := fun e => hbad (by rcases e with e | e <;> (rw [e]; simp [badH]))
  rw [e, pX_open, if_neg (by rw [hd]; exact q1), if_neg (by rw [hd]; exact q2), if_neg (by rw [hd]; exact q3), ha _ (.cons h1 h2)]
  show (if o = whenW then _ else _) = _
  rw [if_neg h3]
  show (pX g (toksX b ++ [41] :: r)).bind _ = _
  rw [hb _ (.cons (by decide) (by decide))]
  rfl
theorem one_kid {ks : List Ex} (h : ks.length = 1) : ∃ a, ks = [a] := List.length_eq_one_iff.1 h
theorem two_kids {ks : List Ex} (h : ks.length = 2) : ∃ a b, ks = [a, b] := by
  match ks, h with
  | [a, b], _ => exact ⟨a, b, rfl⟩
theorem three_kids {ks : List Ex} (h : ks.length = 3) : ∃ a b c, ks = [a, b, c] := by
  match ks, h with
  | [a, b, c], _ => exact ⟨a, b, c, rfl⟩
theorem bins_op : ∀ o ∈ binsL, o ≠ [40] ∧ o ≠ [91] ∧ o ≠ whenW ∧ o ≠ fbyT ∧ o ≠ arrowT ∧ o ≠ everyT := by decide
theorem w_mem {v : Tx} (h : (badH ++ [[40], [91], mergeT, matchT, trueT, falseT, fbyT, arrowT, everyT, whenW]).contains v = true) : v ∈ badH ++ [[40], [91], mergeT, matchT, trueT, falseT, fbyT, arrowT, everyT, whenW] := by simpa using h
/-- behind a name -/
theorem name_read {g : Nat} {t : Tx} (h : nameB t = true) (r : List Tx) : pX (g + 1) (t :: r) =
    (if r.headD [] = [40] then (pList (pX g) g r.tail).bind fun a => some (.mk 14 t 0 [] a.1, a.2)
    else if r.headD [] = [91] then (pNames g r.tail).bind fun a => (pList (pX g) g a.2.tail).bind fun b => some (.mk 14 t 0 a.1 b.1, b.2)
    else some (.mk 4 t 0 [] [], r)) := by
  obtain ⟨h1, h2⟩ := name_head h
  rw [pX_else (name_ne h (w_mem rfl)) (name_ne h (w_mem rfl)) (name_ne h (w_mem rfl)) (name_ne h (w_mem rfl)) (name_ne h (w_mem rfl)), if_neg (by rw [h1]; simp), if_neg (by rw [h2]; simp)]
theorem read_ok : ∀ x : Ex, rightX false x = true → ∀ f, fX x ≤ f → Reads (pX f) x := by
  intro x
  induction x using Ex.ind with
  | h op nm n cs ks ih =>
    intro hr f hf r hsafe
    rw [fX] at hf
    obtain ⟨g, rfl⟩ : ∃ g, f = g + 1 := ⟨f - 1, by omega⟩
    rw [rightX, rightXs_all] at hr
    simp only [Bool.and_eq_true, List.all_eq_true] at hr
    obtain ⟨hs, hk⟩ := hr
    have hlen := fXs_len ks
    have hread : ∀ k ∈ ks, Reads (pX g) k := fun k hm => ih k hm (hk k hm) g (by have := fXs_mem hm; omega)
    have hhead : ∀ k ∈ ks, ∃ u s, toksX k = u :: s ∧ u ∉ badH := fun k hm => toks_head k (hk k hm)
    rw [toksX_mk]
    rcases op_case op with rfl | rfl | rfl | rfl | rfl | rfl | rfl | rfl | rfl | rfl | rfl | rfl | rfl | rfl | rfl | ⟨h1, h2, h3, h4, h5, h6, h7, h8, h9, h10, h11, h12, h13, h14, h15⟩
    · rw [show toksOf 1 nm n cs (ks.map toksX) = [Lib.itoa n] by simp [toksOf]]
      simp [shapeM] at hs
      obtain ⟨⟨⟨rfl, hn⟩, rfl⟩, rfl⟩ := hs
      rw [Lib.itoa, if_neg (by omega)]
      obtain ⟨d1, d2, d3, _⟩ := dec_dig n.toNat
      have hd : digitB ((Lib.decDigits n.toNat).headD 0) = true := by
        obtain ⟨c, q, e⟩ := List.exists_cons_of_ne_nil d2
        rw [e]
        have := d1 c (by rw [e]; simp)
        simp [digitB]; omega
      rw [List.cons_append, List.nil_append, pX_else (dig_ne d1 (w_mem rfl)) (dig_ne d1 (w_mem rfl)) (dig_ne d1 (w_mem rfl)) (dig_ne d1 (w_mem rfl)) (dig_ne d1 (w_mem rfl)), if_pos hd, d3, Int.toNat_of_nonneg hn]
    · rw [show toksOf 2 nm n cs (ks.map toksX) = [if n = 1 then trueT else falseT] by simp [toksOf]]
      simp [shapeM] at hs
      obtain ⟨⟨⟨rfl, hn⟩, rfl⟩, rfl⟩ := hs
      rw [List.cons_append, List.nil_append]
      by_cases h1 : n = 1
      · subst h1; rfl
      · obtain rfl : n = 0 := by omega
        rfl
    · rw [show toksOf 3 nm n cs (ks.map toksX) = [nm] by simp [toksOf]]
      simp [shapeM] at hs
      obtain ⟨⟨⟨hc, rfl⟩, rfl⟩, rfl⟩ := hs
      have hc := conM_c hc
      obtain ⟨d1, d2⟩ := con_head hc
      rw [List.cons_append, List.nil_append, pX_else (con_ne hc (w_mem rfl)) (con_ne hc (w_mem rfl)) (con_ne hc (w_mem rfl)) (con_ne hc (w_mem rfl)) (con_ne hc (w_mem rfl)), if_neg (by rw [d1]; simp), if_pos d2]
    · rw [show toksOf 4 nm n cs (ks.map toksX) = [nm] by simp [toksOf]]
      simp [shapeM] at hs
      obtain ⟨⟨⟨hc, rfl⟩, rfl⟩, rfl⟩ := hs
      rw [List.cons_append, List.nil_append, name_read (nameM_n hc), if_neg hsafe.1, if_neg hsafe.2]
    · rw [show toksOf 5 nm n cs (ks.map toksX) = prefixT nm (ks.map toksX) by simp [toksOf]]
      simp [shapeM] at hs
      obtain ⟨⟨⟨ho, rfl⟩, rfl⟩, hl⟩ := hs
      obtain ⟨a, rfl⟩ := one_kid hl
      have e : prefixT nm ([a].map toksX) ++ r = [40] :: nm :: (toksX a ++ [41] :: r) := by simp [prefixT, kidT]
      rw [e, pX_open]
      show (if nm = ifT then _ else if nm = preT then _ else if nm = notT ∨ nm = [45] then (pX g (toksX a ++ [41] :: r)).bind _ else _) = _
      rw [if_neg (by rcases ho with rfl | rfl <;> decide), if_neg (by rcases ho with rfl | rfl <;> decide), if_pos (by rcases ho with rfl | rfl <;> decide), hread a (by simp) _ (.cons (by decide) (by decide))]
      rfl
    · rw [show toksOf 6 nm n cs (ks.map toksX) = infixT nm (ks.map toksX) by simp [toksOf]]
      simp [shapeM] at hs
      obtain ⟨⟨⟨ho, rfl⟩, rfl⟩, hl⟩ := hs
      obtain ⟨a, b, rfl⟩ := two_kids hl
      obtain ⟨o1, o2, o3, o4, o5, o6⟩ := bins_op nm ho
      have := infix_read (hread a (by simp)) (hread b (by simp)) (hhead a (by simp)) o1 o2 o3 r
      rw [List.map_cons, List.map_cons, List.map_nil, this, opBin, if_neg o4, if_neg o5, if_neg o6]
    · rw [show toksOf 7 nm n cs (ks.map toksX) = choiceT (ks.map toksX) by simp [toksOf]]
      simp [shapeM] at hs
      obtain ⟨⟨⟨rfl, rfl⟩, rfl⟩, hl⟩ := hs
      obtain ⟨a, b, c, rfl⟩ := three_kids hl
      have e : choiceT ([a, b, c].map toksX) ++ r = [40] :: ifT :: (toksX a ++ [116, 104, 101, 110] :: (toksX b ++ [101, 108, 115, 101] :: (toksX c ++ [41] :: r))) := by simp [choiceT, kidT, ifT]
      rw [e, pX_open]
      show (pX g (toksX a ++ _)).bind _ = _
      rw [hread a (by simp) _ (.cons (by decide) (by decide))]
      show (pX g (toksX b ++ _)).bind _ = _
      rw [hread b (by simp) _ (.cons (by decide) (by decide))]
      show (pX g (toksX c ++ _)).bind _ = _
      rw [hread c (by simp) _ (.cons (by decide) (by decide))]
      rfl
    · rw [show toksOf 8 nm n cs (ks.map toksX) = infixT fbyT (ks.map toksX) by simp [toksOf]]
      simp [shapeM] at hs
      obtain ⟨⟨⟨rfl, rfl⟩, rfl⟩, hl⟩ := hs
      obtain ⟨a, b, rfl⟩ := two_kids hl
      exact infix_read (hread a (by simp)) (hread b (by simp)) (hhead a (by simp)) (by decide) (by decide) (by decide) r
    · rw [show toksOf 9 nm n cs (ks.map toksX) = prefixT preT (ks.map toksX) by simp [toksOf]]
      simp [shapeM] at hs
      obtain ⟨⟨⟨rfl, rfl⟩, rfl⟩, hl⟩ := hs
      obtain ⟨a, rfl⟩ := one_kid hl
      have e : prefixT preT ([a].map toksX) ++ r = [40] :: preT :: (toksX a ++ [41] :: r) := by simp [prefixT, kidT]
      rw [e, pX_open]
      show (pX g (toksX a ++ _)).bind _ = _
      rw [hread a (by simp) _ (.cons (by decide) (by decide))]
      rfl
    · rw [show toksOf 10 nm n cs (ks.map toksX) = infixT arrowT (ks.map toksX) by simp [toksOf]]
      simp [shapeM] at hs
      obtain ⟨⟨⟨rfl, rfl⟩, rfl⟩, hl⟩ := hs
      obtain ⟨a, b, rfl⟩ := two_kids hl
      exact infix_read (hread a (by simp)) (hread b (by simp)) (hhead a (by simp)) (by decide) (by decide) (by decide) r
    · rw [show toksOf 11 nm n cs (ks.map toksX) = whenT nm cs (ks.map toksX) by simp [toksOf]]
      simp [shapeM] at hs
      obtain ⟨⟨⟨hn, rfl⟩, hcs⟩, hl⟩ := hs
      obtain ⟨a, rfl⟩ := one_kid hl
      obtain ⟨c, rfl⟩ : ∃ c, cs = [c] := by
        simp [allM] at hcs
        exact List.length_eq_one_iff.1 (by omega)
      obtain ⟨u, s, hu, hbad⟩ := hhead a (by simp)
      have e : whenT nm [c] ([a].map toksX) ++ r = [40] :: (toksX a ++ whenW :: c :: [40] :: nm :: [41] :: [41] :: r) := by simp [whenT, kidT, namesT, sepT, whenW]
      have hd := headD_app (l := whenW :: c :: [40] :: nm :: [41] :: [41] :: r) hu
      have q1 : u ≠ ifT := fun e => hbad (by rw [e]; simp [badH])
      have q2 : u ≠ preT := fun e => hbad (by rw [e]; simp [badH])
      have q3 : ¬ (u = notT ∨ u = [45]) := fun e => hbad (by rcases e with e | e <;> (rw [e]; simp [badH]))
      rw [e, pX_open, if_neg (by rw [hd]; exact q1), if_neg (by rw [hd]; exact q2), if_neg (by rw [hd]; exact q3), hread a (by simp) _ (.cons (by decide) (by decide))]
      rfl
    · rw [show toksOf 12 nm n cs (ks.map toksX) = armT mergeT nm cs (ks.map toksX) by simp [toksOf]]
      simp [shapeM] at hs
      obtain ⟨⟨⟨hn, rfl⟩, hcs⟩, hl⟩ := hs
      have hpos : 1 ≤ cs.length := by simp [allM] at hcs; exact hcs.1.1
      have e : armT mergeT nm cs (ks.map toksX) ++ r = mergeT :: nm :: [40] :: (sepT [124] (armsT cs (ks.map toksX)) ++ [41] :: r) := by simp [armT]
      rw [e, pX_merge]
      show (pArms (pX g) g (sepT [124] (armsT cs (ks.map toksX)) ++ [41] :: r)).bind _ = _
      rw [arms_read r cs ks g (by intro e; subst e; simp at hl; omega) hl (by omega) hread]
      rfl
    · rw [show toksOf 13 nm n cs (ks.map toksX) = armT matchT nm cs (ks.map toksX) by simp [toksOf]]
      simp [shapeM] at hs
      obtain ⟨⟨⟨hn, rfl⟩, hcs⟩, hl⟩ := hs
      have hpos : 1 ≤ cs.length := by simp [allM] at hcs; exact hcs.1.1
      have e : armT matchT nm cs (ks.map toksX) ++ r = matchT :: nm :: [40] :: (sepT [124] (armsT cs (ks.map toksX)) ++ [41] :: r) := by simp [armT]
      rw [e, pX_match]
      show (pArms (pX g) g (sepT [124] (armsT cs (ks.map toksX)) ++ [41] :: r)).bind _ = _
      rw [arms_read r cs ks g (by intro e; subst e; simp at hl; omega) hl (by omega) hread]
      rfl
    · rw [show toksOf 14 nm n cs (ks.map toksX) = callT nm cs (ks.map toksX) by simp [toksOf]]
      simp [shapeM] at hs
      obtain ⟨⟨⟨hn, rfl⟩, hcs⟩, hl⟩ := hs
      have hne : ks ≠ [] := by intro e; subst e; simp at hl
      by_cases h0 : cs = []
      · subst h0
        have e : callT nm [] (ks.map toksX) ++ r = nm :: [40] :: (sepT [44] (ks.map toksX) ++ [41] :: r) := by simp [callT, staticsT]
        rw [e, name_read (nameM_n hn)]
        show (pList (pX g) g (sepT [44] (ks.map toksX) ++ [41] :: r)).bind _ = _
        rw [list_read r ks g hne (by omega) hread]
        rfl
      · have e : callT nm cs (ks.map toksX) ++ r = nm :: [91] :: (namesT [44] cs ++ [93] :: [40] :: (sepT [44] (ks.map toksX) ++ [41] :: r)) := by simp [callT, staticsT, h0]
        rw [e, name_read (nameM_n hn)]
        show (pNames g (namesT [44] cs ++ [93] :: _)).bind _ = _
        rw [names_read _ cs g h0 (by omega)]
        show (pList (pX g) g (sepT [44] (ks.map toksX) ++ [41] :: r)).bind _ = _
        rw [list_read r ks g hne (by omega) hread]
        rfl
    · rw [show toksOf 15 nm n cs (ks.map toksX) = infixT everyT (ks.map toksX) by simp [toksOf]]
      simp [shapeM] at hs
      obtain ⟨⟨⟨rfl, rfl⟩, rfl⟩, hl, _⟩ := hs
      obtain ⟨a, b, rfl⟩ := two_kids hl
      exact infix_read (hread a (by simp)) (hread b (by simp)) (hhead a (by simp)) (by decide) (by decide) (by decide) r
    · simp [shapeM, *] at hs
theorem toks_inj {x y : Ex} (hx : rightX false x = true) (hy : rightX false y = true) (h : toksX x = toksX y) : x = y := by
  have sx := read_ok x hx (max (fX x) (fX y)) (Nat.le_max_left _ _) [] ⟨by simp, by simp⟩
  have sy := read_ok y hy (max (fX x) (fX y)) (Nat.le_max_right _ _) [] ⟨by simp, by simp⟩
  rw [h, sy] at sx
  injection sx with sx
  injection sx with sx
  exact sx.symm
theorem show_inj {x y : Ex} (hx : rightX false x = true) (hy : rightX false y = true) (bx : bndX x) (by_ : bndX y) : spellL (toksX x) = spellL (toksX y) ↔ x = y :=
  ⟨fun h => toks_inj hx hy (spell_inj _ _ (fun t ht => ok_word (toks_ok x hx bx t ht)) (fun t ht => ok_word (toks_ok y hy by_ t ht)) h), fun h => by rw [h]⟩
end Go.Proofs.YthffigagnodnmaaGreatDoor
