/-
  Plain mathematics: expressions that may be are told by their tokens, and tokens by what they spell.
  Plain mathematics: the reader reads every expression that may be; so unlike ones have unlike tokens, and unlike texts.
  Plain mathematics: programs that may be are told by their tokens.
-/
import Derived.Test.YtaolipbggldimaaGreatDoorTreeText
namespace Go.Proofs.YtaolipbggldimaaGreatDoor

theorem cut_inj : ∀ (t u x y : Tx), (32 : UInt8) ∉ t → (32 : UInt8) ∉ u → (x = [] ∨ x.head? = some 32) → (y = [] ∨ y.head? = some 32) → t ++ x = u ++ y → t = u ∧ x = y
  | [], [], x, y, _, _, _, _, h => ⟨rfl, h⟩
  | [], c :: u, x, y, _, hu, hx, _, h => by
    rw [List.nil_append] at h
    rcases hx with rfl | hx
    · simp at h
    · rw [h] at hx; simp at hx; subst hx; simp at hu
  | c :: t, [], x, y, ht, _, _, hy, h => by
    rw [List.nil_append] at h
    rcases hy with rfl | hy
    · simp at h
    · rw [← h] at hy; simp at hy; subst hy; simp at ht
  | c :: t, d :: u, x, y, ht, hu, hx, hy, h => by
    simp only [List.cons_append, List.cons.injEq] at h
    obtain ⟨h1, h2⟩ := cut_inj t u x y (fun e => ht (by simp [e])) (fun e => hu (by simp [e])) hx hy h.2
    exact ⟨by rw [h.1, h1], h2⟩
def Word (t : Tx) : Prop := t ≠ [] ∧ (32 : UInt8) ∉ t
theorem spell_inj : ∀ (a b : List Tx), (∀ t ∈ a, Word t) → (∀ t ∈ b, Word t) → spellL a = spellL b → a = b
  | [], [], _, _, _ => rfl
  | [], t :: r, _, hb, h => by
    obtain ⟨h1, _⟩ := hb t (by simp)
    rw [spellL, spellL] at h
    exact absurd (List.append_eq_nil_iff.1 h.symm).1 h1
  | t :: r, [], ha, _, h => by
    obtain ⟨h1, _⟩ := ha t (by simp)
    rw [spellL, spellL] at h
    exact absurd (List.append_eq_nil_iff.1 h).1 h1
  | t :: r, u :: s, ha, hb, h => by
    rw [spellL, spellL] at h
    obtain ⟨h1, h2⟩ := cut_inj t u _ _ (ha t (by simp)).2 (hb u (by simp)).2 (by split <;> simp) (by split <;> simp) h
    have : r = s := by
      by_cases hr : r = []
      · by_cases hs : s = []
        · rw [hr, hs]
        · rw [if_pos hr, if_neg hs] at h2; simp at h2
      · by_cases hs : s = []
        · rw [if_neg hr, if_pos hs] at h2; simp at h2
        · rw [if_neg hr, if_neg hs] at h2
          exact spell_inj r s (fun x hx => ha x (by simp [hx])) (fun x hx => hb x (by simp [hx])) (by simpa using h2)
    rw [h1, this]
theorem ok_word {t : Tx} (h : tokOk t) : Word t := by
  refine ⟨h.1, ?_⟩
  by_cases hr : runL t = 0
  · have ht : signL t = t := by have := h.2.2; rw [tokText, if_pos hr] at this; exact this
    have hm := signL_mem (l := t) (by rw [ht]; exact h.1)
    rw [ht] at hm
    have : ∀ p ∈ signsL, (32 : UInt8) ∉ p := by decide +kernel
    exact this t hm
  · have ht : t.take (runL t) = t := by have := h.2.2; rw [tokText, if_neg hr] at this; exact this
    have hall := run_take t
    rw [ht] at hall
    intro hc
    have := hall 32 hc
    revert this
    decide
/- a reader of expressions' tokens -/
def ifT : Tx := [105, 102]
def notT : Tx := [110, 111, 116]
def whenW : Tx := [119, 104, 101, 110]
def pList (p : List Tx → Option (Ex × List Tx)) : Nat → List Tx → Option (List Ex × List Tx)
  | 0, _ => none
  | n + 1, ts => (p ts).bind fun a => if a.2.head? = some [44] then (pList p n a.2.tail).bind fun b => some (a.1 :: b.1, b.2) else some ([a.1], a.2.tail)
def pNames : Nat → List Tx → Option (List Tx × List Tx)
  | 0, _ => none
  | n + 1, ts => if ts.tail.head? = some [44] then (pNames n ts.tail.tail).bind fun b => some (ts.headD [] :: b.1, b.2) else some ([ts.headD []], ts.tail.tail)
def pArms (p : List Tx → Option (Ex × List Tx)) : Nat → List Tx → Option (List Tx × List Ex × List Tx)
  | 0, _ => none
  | n + 1, ts => (p ts.tail.tail).bind fun a => if a.2.head? = some [124] then (pArms p n a.2.tail).bind fun b => some (ts.headD [] :: b.1, a.1 :: b.2.1, b.2.2) else some ([ts.headD []], [a.1], a.2.tail)
def opBin (s : Tx) (a b : Ex) : Ex := if s = fbyT then .mk 8 [] 0 [] [a, b] else if s = arrowT then .mk 10 [] 0 [] [a, b] else if s = everyT then .mk 15 [] 0 [] [a, b] else .mk 6 s 0 [] [a, b]
def pX : Nat → List Tx → Option (Ex × List Tx)
  | 0, _ => none
  | f + 1, ts =>
    let t := ts.headD []
    let r := ts.tail
    let u := r.headD []
    if t = [40] then
      if u = ifT then (pX f r.tail).bind fun a => (pX f a.2.tail).bind fun b => (pX f b.2.tail).bind fun c => some (.mk 7 [] 0 [] [a.1, b.1, c.1], c.2.tail)
      else if u = preT then (pX f r.tail).bind fun a => some (.mk 9 [] 0 [] [a.1], a.2.tail)
      else if u = notT ∨ u = [45] then (pX f r.tail).bind fun a => some (.mk 5 u 0 [] [a.1], a.2.tail)
      else (pX f r).bind fun a =>
        if a.2.headD [] = whenW then some (.mk 11 (a.2.getD 3 []) 0 [a.2.getD 1 []] [a.1], a.2.drop 6)
        else (pX f a.2.tail).bind fun b => some (opBin (a.2.headD []) a.1 b.1, b.2.tail)
    else if t = mergeT then (pArms (pX f) f r.tail.tail).bind fun a => some (.mk 12 u 0 a.1 a.2.1, a.2.2)
    else if t = matchT then (pArms (pX f) f r.tail.tail).bind fun a => some (.mk 13 u 0 a.1 a.2.1, a.2.2)
    else if t = trueT then some (.mk 2 [] 1 [] [], r)
    else if t = falseT then some (.mk 2 [] 0 [] [], r)
    else if digitB (t.headD 0) then some (.mk 1 [] (digV 0 t) [] [], r)
    else if greatB (t.headD 0) then some (.mk 3 t 0 [] [], r)
    else if u = [40] then (pList (pX f) f r.tail).bind fun a => some (.mk 14 t 0 [] a.1, a.2)
    else if u = [91] then (pNames f r.tail).bind fun a => (pList (pX f) f a.2.tail).bind fun b => some (.mk 14 t 0 a.1 b.1, b.2)
    else some (.mk 4 t 0 [] [], r)
/-- no bracket opens here -/
def Safe (r : List Tx) : Prop := r.headD [] ≠ [40] ∧ r.headD [] ≠ [91]
theorem Safe.cons {t : Tx} {r : List Tx} (h1 : t ≠ [40]) (h2 : t ≠ [91]) : Safe (t :: r) := ⟨h1, h2⟩
def badH : List Tx := [ifT, preT, notT, [45]]
theorem words_no : ∀ u ∈ badH ++ [[40], [91], mergeT, matchT, trueT, falseT, fbyT, arrowT, everyT, whenW], conB u = false ∧ nameB u = false ∧ (u.all (fun c => decide (48 ≤ c.toNat) && decide (c.toNat ≤ 57))) = false := by decide +kernel
theorem dig_all {u : Tx} (h : AllDig u) : u.all (fun c => decide (48 ≤ c.toNat) && decide (c.toNat ≤ 57)) = true := by
  rw [List.all_eq_true]
  intro c hc
  have := h c hc
  simp [this]
theorem name_ne {u v : Tx} (h : nameB u = true) (hv : v ∈ badH ++ [[40], [91], mergeT, matchT, trueT, falseT, fbyT, arrowT, everyT, whenW]) : u ≠ v := fun e => by
  have := (words_no v hv).2.1
  rw [← e, h] at this; cases this
theorem con_ne {u v : Tx} (h : conB u = true) (hv : v ∈ badH ++ [[40], [91], mergeT, matchT, trueT, falseT, fbyT, arrowT, everyT, whenW]) : u ≠ v := fun e => by
  have := (words_no v hv).1
  rw [← e, h] at this; cases this
theorem dig_ne {u v : Tx} (h : AllDig u) (hv : v ∈ badH ++ [[40], [91], mergeT, matchT, trueT, falseT, fbyT, arrowT, everyT, whenW]) : u ≠ v := fun e => by
  have := (words_no v hv).2.2
  rw [← e, dig_all h] at this; cases this
theorem nameM_n {l : Tx} (h : nameM false l = true) : nameB l = true := by simpa [nameM, ungenL] using h
theorem conM_c {l : Tx} (h : conM false l = true) : conB l = true := by simpa [conM, ungenL] using h
theorem name_head {u : Tx} (h : nameB u = true) : digitB (u.headD 0) = false ∧ greatB (u.headD 0) = false := by
  simp only [nameB, Bool.and_eq_true] at h
  have := h.1.2
  simp [smallB] at this
  simp [digitB, greatB]
  omega
theorem con_head {u : Tx} (h : conB u = true) : digitB (u.headD 0) = false ∧ greatB (u.headD 0) = true := by
  simp only [conB, Bool.and_eq_true] at h
  refine ⟨?_, h.2⟩
  have := h.2
  simp [greatB] at this
  simp [digitB]
  omega
theorem toks_head : ∀ x : Ex, rightX false x = true → ∃ u s, toksX x = u :: s ∧ u ∉ badH := by
  intro x hr
  obtain ⟨op, nm, n, cs, ks⟩ := x
  rw [rightX, Bool.and_eq_true] at hr
  have hs := hr.1
  have B : ∀ {u : Tx} {s : List Tx} {l : List Tx}, l = u :: s → (∀ v ∈ badH, u ≠ v) → ∃ u s, l = u :: s ∧ u ∉ badH := fun h hv => ⟨_, _, h, fun hm => hv _ hm rfl⟩
  have M : ∀ {v : Tx}, v ∈ badH → v ∈ badH ++ [[40], [91], mergeT, matchT, trueT, falseT, fbyT, arrowT, everyT, whenW] := fun h => List.mem_append_left _ h
  have D : ∀ {u : Tx}, badH.contains u = false → ∀ v ∈ badH, u ≠ v := fun h v hv e => by subst e; simp at h; exact h hv
  rw [toksX_mk]
  rcases op_case op with rfl | rfl | rfl | rfl | rfl | rfl | rfl | rfl | rfl | rfl | rfl | rfl | rfl | rfl | rfl | ⟨h1, h2, h3, h4, h5, h6, h7, h8, h9, h10, h11, h12, h13, h14, h15⟩
  · rw [show toksOf 1 nm n cs (ks.map toksX) = [Lib.itoa n] by simp [toksOf]]
    simp [shapeM] at hs
    refine B rfl fun v hv => ?_
    rw [Lib.itoa, if_neg (by omega)]
    exact dig_ne (dec_dig _).1 (M hv)
  · rw [show toksOf 2 nm n cs (ks.map toksX) = [if n = 1 then trueT else falseT] by simp [toksOf]]
    split <;> exact B rfl (D rfl)
  · rw [show toksOf 3 nm n cs (ks.map toksX) = [nm] by simp [toksOf]]
    simp [shapeM] at hs
    exact B rfl fun v hv => con_ne (conM_c hs.1.1.1) (M hv)
  · rw [show toksOf 4 nm n cs (ks.map toksX) = [nm] by simp [toksOf]]
    simp [shapeM] at hs
    exact B rfl fun v hv => name_ne (nameM_n hs.1.1.1) (M hv)
  · rw [show toksOf 5 nm n cs (ks.map toksX) = prefixT nm (ks.map toksX) by simp [toksOf]]; exact B rfl (D rfl)
  · rw [show toksOf 6 nm n cs (ks.map toksX) = infixT nm (ks.map toksX) by simp [toksOf]]; exact B rfl (D rfl)
  · rw [show toksOf 7 nm n cs (ks.map toksX) = choiceT (ks.map toksX) by simp [toksOf]]; exact B rfl (D rfl)
  · rw [show toksOf 8 nm n cs (ks.map toksX) = infixT fbyT (ks.map toksX) by simp [toksOf]]; exact B rfl (D rfl)
  · rw [show toksOf 9 nm n cs (ks.map toksX) = prefixT preT (ks.map toksX) by simp [toksOf]]; exact B rfl (D rfl)
  · rw [show toksOf 10 nm n cs (ks.map toksX) = infixT arrowT (ks.map toksX) by simp [toksOf]]; exact B rfl (D rfl)
  · rw [show toksOf 11 nm n cs (ks.map toksX) = whenT nm cs (ks.map toksX) by simp [toksOf]]; exact B rfl (D rfl)
  · rw [show toksOf 12 nm n cs (ks.map toksX) = armT mergeT nm cs (ks.map toksX) by simp [toksOf]]; exact B rfl (D rfl)
  · rw [show toksOf 13 nm n cs (ks.map toksX) = armT matchT nm cs (ks.map toksX) by simp [toksOf]]; exact B rfl (D rfl)
  · rw [show toksOf 14 nm n cs (ks.map toksX) = callT nm cs (ks.map toksX) by simp [toksOf]]
    simp [shapeM] at hs
    exact B rfl fun v hv => name_ne (nameM_n hs.1.1.1) (M hv)
  · rw [show toksOf 15 nm n cs (ks.map toksX) = infixT everyT (ks.map toksX) by simp [toksOf]]; exact B rfl (D rfl)
  · simp [shapeM, *] at hs
/-- expression x is read by the reader p, whatever stands behind it that opens no bracket -/
def Reads (p : List Tx → Option (Ex × List Tx)) (x : Ex) : Prop := ∀ r, Safe r → p (toksX x ++ r) = some (x, r)
theorem list_read {p : List Tx → Option (Ex × List Tx)} (r : List Tx) : ∀ (ks : List Ex) (n : Nat), ks ≠ [] → ks.length ≤ n → (∀ k ∈ ks, Reads p k) → pList p n (sepT [44] (ks.map toksX) ++ [41] :: r) = some (ks, r)
  | [], _, h, _, _ => absurd rfl h
  | _ :: _, 0, _, h, _ => by simp at h
  | [k], n + 1, _, _, hk => by
    have h1 := hk k (by simp) ([41] :: r) (.cons (by decide) (by decide))
    have e : sepT [44] (List.map toksX [k]) ++ [41] :: r = toksX k ++ [41] :: r := by simp [sepT]
    rw [pList, e, h1]
    simp
  | k :: k2 :: ks, n + 1, _, hn, hk => by
    have ih := list_read r (k2 :: ks) n (by simp) (by simpa using hn) (fun y hy => hk y (by simp at hy ⊢; exact .inr hy))
    have h1 := hk k (by simp) ([44] :: (sepT [44] ((k2 :: ks).map toksX) ++ [41] :: r)) (.cons (by decide) (by decide))
    have e : sepT [44] ((k :: k2 :: ks).map toksX) ++ [41] :: r = toksX k ++ [44] :: (sepT [44] ((k2 :: ks).map toksX) ++ [41] :: r) := by simp [sepT]
    rw [pList, e, h1]
    simp only [Option.bind_some, List.head?_cons, if_true, List.tail_cons, ih]
theorem names_read (r : List Tx) : ∀ (cs : List Tx) (n : Nat), cs ≠ [] → cs.length ≤ n → pNames n (namesT [44] cs ++ [93] :: r) = some (cs, r)
  | [], _, h, _ => absurd rfl h
  | _ :: _, 0, _, h => by simp at h
  | [c], n + 1, _, _ => by simp [pNames, namesT, sepT]
  | c :: c2 :: cs, n + 1, _, hn => by
    have ih := names_read r (c2 :: cs) n (by simp) (by simpa using hn)
    have e : namesT [44] (c :: c2 :: cs) ++ [93] :: r = c :: [44] :: (namesT [44] (c2 :: cs) ++ [93] :: r) := by simp [namesT, sepT]
    rw [pNames, e]
    simp only [List.tail_cons, List.head?_cons, if_true, ih, Option.bind_some, List.headD_cons]
theorem arms_read {p : List Tx → Option (Ex × List Tx)} (r : List Tx) : ∀ (cs : List Tx) (ks : List Ex) (n : Nat), ks ≠ [] → ks.length = cs.length → ks.length ≤ n → (∀ k ∈ ks, Reads p k) → pArms p n (sepT [124] (armsT cs (ks.map toksX)) ++ [41] :: r) = some (cs, ks, r)
  | _, [], _, h, _, _, _ => absurd rfl h
  | [], _ :: _, _, _, h, _, _ => by simp at h
  | _ :: _, _ :: _, 0, _, _, h, _ => by simp at h
  | [c], [k], n + 1, _, _, _, hk => by
    have h1 := hk k (by simp) ([41] :: r) (.cons (by decide) (by decide))
    have e : sepT [124] (armsT [c] (List.map toksX [k])) ++ [41] :: r = c :: [45, 62] :: (toksX k ++ [41] :: r) := by simp [armsT, sepT]
    rw [pArms, e]
    simp [h1]
  | c :: d :: cs, [k], _, _, h, _, _ => by simp at h
  | [c], k :: k2 :: ks, _, _, h, _, _ => by simp at h
  | c :: c2 :: cs, k :: k2 :: ks, n + 1, _, hl, hn, hk => by
    have ih := arms_read r (c2 :: cs) (k2 :: ks) n (by simp) (by simpa using hl) (by simpa using hn) (fun y hy => hk y (by simp at hy ⊢; exact .inr hy))
    have h1 := hk k (by simp) ([124] :: (sepT [124] (armsT (c2 :: cs) ((k2 :: ks).map toksX)) ++ [41] :: r)) (.cons (by decide) (by decide))
    have e : sepT [124] (armsT (c :: c2 :: cs) ((k :: k2 :: ks).map toksX)) ++ [41] :: r = c :: [45, 62] :: (toksX k ++ [124] :: (sepT [124] (armsT (c2 :: cs) ((k2 :: ks).map toksX)) ++ [41] :: r)) := by simp [armsT, sepT]
    rw [pArms, e]
    simp only [List.tail_cons, h1, Option.bind_some, List.head?_cons, if_true, ih, List.headD_cons]
end Go.Proofs.YtaolipbggldimaaGreatDoor
namespace Go.Proofs.YtaolipbggldimaaGreatDoor

mutual
def fX : Ex → Nat
  | .mk _ _ _ cs ks => fXs ks + cs.length + 1
def fXs : List Ex → Nat
  | [] => 0
  | k :: r => fX k + 1 + fXs r
end
theorem fXs_len (l : List Ex) : l.length ≤ fXs l := by
  induction l with
  | nil => simp
  | cons k r ih => simp [fXs]; omega
theorem fXs_mem {l : List Ex} {k : Ex} (h : k ∈ l) : fX k ≤ fXs l := by
  induction l with
  | nil => cases h
  | cons x r ih =>
    rcases List.mem_cons.1 h with rfl | h
    · simp [fXs]; omega
    · have := ih h; simp [fXs]; omega
theorem headD_app {u : Tx} {s l : List Tx} {a : List Tx} (h : a = u :: s) : (a ++ l).headD [] = u := by rw [h]; rfl
theorem pX_open (g : Nat) (r : List Tx) : pX (g + 1) ([40] :: r) =
    (if r.headD [] = ifT then (pX g r.tail).bind fun a => (pX g a.2.tail).bind fun b => (pX g b.2.tail).bind fun c => some (.mk 7 [] 0 [] [a.1, b.1, c.1], c.2.tail)
      else if r.headD [] = preT then (pX g r.tail).bind fun a => some (.mk 9 [] 0 [] [a.1], a.2.tail)
      else if r.headD [] = notT ∨ r.headD [] = [45] then (pX g r.tail).bind fun a => some (.mk 5 (r.headD []) 0 [] [a.1], a.2.tail)
      else (pX g r).bind fun a =>
        if a.2.headD [] = whenW then some (.mk 11 (a.2.getD 3 []) 0 [a.2.getD 1 []] [a.1], a.2.drop 6)
        else (pX g a.2.tail).bind fun b => some (opBin (a.2.headD []) a.1 b.1, b.2.tail)) := rfl
theorem pX_merge (g : Nat) (r : List Tx) : pX (g + 1) (mergeT :: r) = (pArms (pX g) g r.tail.tail).bind fun a => some (.mk 12 (r.headD []) 0 a.1 a.2.1, a.2.2) := rfl
theorem pX_match (g : Nat) (r : List Tx) : pX (g + 1) (matchT :: r) = (pArms (pX g) g r.tail.tail).bind fun a => some (.mk 13 (r.headD []) 0 a.1 a.2.1, a.2.2) := rfl
theorem pX_else {g : Nat} {t : Tx} {r : List Tx} (h1 : t ≠ [40]) (h2 : t ≠ mergeT) (h3 : t ≠ matchT) (h4 : t ≠ trueT) (h5 : t ≠ falseT) : pX (g + 1) (t :: r) =
    (if digitB (t.headD 0) = true then some (.mk 1 [] (digV 0 t) [] [], r)
    else if greatB (t.headD 0) = true then some (.mk 3 t 0 [] [], r)
    else if r.headD [] = [40] then (pList (pX g) g r.tail).bind fun a => some (.mk 14 t 0 [] a.1, a.2)
    else if r.headD [] = [91] then (pNames g r.tail).bind fun a => (pList (pX g) g a.2.tail).bind fun b => some (.mk 14 t 0 a.1 b.1, b.2)
    else some (.mk 4 t 0 [] [], r)) := by
  show (if t = [40] then _ else if t = mergeT then _ else if t = matchT then _ else if t = trueT then _ else if t = falseT then _ else _) = _
  rw [if_neg h1, if_neg h2, if_neg h3, if_neg h4, if_neg h5]
  rfl
theorem infix_read {g : Nat} {o : Tx} {a b : Ex} (ha : Reads (pX g) a) (hb : Reads (pX g) b) (hh : ∃ u s, toksX a = u :: s ∧ u ∉ badH) (h1 : o ≠ [40]) (h2 : o ≠ [91]) (h3 : o ≠ whenW) (r : List Tx) :
    pX (g + 1) (infixT o [toksX a, toksX b] ++ r) = some (opBin o a b, r) := by
  obtain ⟨u, s, hu, hbad⟩ := hh
  have e : infixT o [toksX a, toksX b] ++ r = [40] :: (toksX a ++ o :: (toksX b ++ [41] :: r)) := by simp [infixT, kidT]
  have hd := headD_app (l := o :: (toksX b ++ [41] :: r)) hu
  have q1 : u ≠ ifT := fun e => hbad (by rw [e]; simp [badH])
  have q2 : u ≠ preT := fun e => hbad (by rw [e]; simp [badH])
  have q3 : ¬ (u = notT ∨ u = [45]) := fun e => hbad (by rcases e with e | e <;> (rw [e]; simp [badH]))
  rw [e, pX_open, if_neg (by rw [hd]; exact q1), if_neg (by rw [hd]; exact q2), if_neg (by rw [hd]; exact q3), ha _ (.cons h1 h2)]
  show (if o = whenW then _ else _) = _
  rw [if_neg h3]
  show (pX g (toksX b ++ [41] :: r)).bind _ = _
  rw [hb _ (.cons (by decide) (by decide))]
  rfl
theorem one_kid {ks : List Ex} (h : ks.length = 1) : ∃ a, ks = [a] := List.length_eq_one_iff.1 h
theorem two_kids {ks : List Ex} (h : ks.length = 2) : ∃ a b, ks = [a, b] := by
  match ks, h with
  | [a, b], _ => exact ⟨a, b, rfl⟩
theorem three_kids {ks : List Ex} (h : ks.length = 3) : ∃ a b c, ks = [a, b, c] := by
  match ks, h with
  | [a, b, c], _ => exact ⟨a, b, c, rfl⟩
theorem bins_op : ∀ o ∈ binsL, o ≠ [40] ∧ o ≠ [91] ∧ o ≠ whenW ∧ o ≠ fbyT ∧ o ≠ arrowT ∧ o ≠ everyT := by decide
theorem w_mem {v : Tx} (h : (badH ++ [[40], [91], mergeT, matchT, trueT, falseT, fbyT, arrowT, everyT, whenW]).contains v = true) : v ∈ badH ++ [[40], [91], mergeT, matchT, trueT, falseT, fbyT, arrowT, everyT, whenW] := by simpa using h
/-- behind a name -/
theorem name_read {g : Nat} {t : Tx} (h : nameB t = true) (r : List Tx) : pX (g + 1) (t :: r) =
    (if r.headD [] = [40] then (pList (pX g) g r.tail).bind fun a => some (.mk 14 t 0 [] a.1, a.2)
    else if r.headD [] = [91] then (pNames g r.tail).bind fun a => (pList (pX g) g a.2.tail).bind fun b => some (.mk 14 t 0 a.1 b.1, b.2)
    else some (.mk 4 t 0 [] [], r)) := by
  obtain ⟨h1, h2⟩ := name_head h
  rw [pX_else (name_ne h (w_mem rfl)) (name_ne h (w_mem rfl)) (name_ne h (w_mem rfl)) (name_ne h (w_mem rfl)) (name_ne h (w_mem rfl)), if_neg (by rw [h1]; simp), if_neg (by rw [h2]; simp)]
theorem read_ok : ∀ x : Ex, rightX false x = true → ∀ f, fX x ≤ f → Reads (pX f) x := by
  intro x
  induction x using Ex.ind with
  | h op nm n cs ks ih =>
    intro hr f hf r hsafe
    rw [fX] at hf
    obtain ⟨g, rfl⟩ : ∃ g, f = g + 1 := ⟨f - 1, by omega⟩
    rw [rightX, rightXs_all] at hr
    simp only [Bool.and_eq_true, List.all_eq_true] at hr
    obtain ⟨hs, hk⟩ := hr
    have hlen := fXs_len ks
    have hread : ∀ k ∈ ks, Reads (pX g) k := fun k hm => ih k hm (hk k hm) g (by have := fXs_mem hm; omega)
    have hhead : ∀ k ∈ ks, ∃ u s, toksX k = u :: s ∧ u ∉ badH := fun k hm => toks_head k (hk k hm)
    rw [toksX_mk]
    rcases op_case op with rfl | rfl | rfl | rfl | rfl | rfl | rfl | rfl | rfl | rfl | rfl | rfl | rfl | rfl | rfl | ⟨h1, h2, h3, h4, h5, h6, h7, h8, h9, h10, h11, h12, h13, h14, h15⟩
    · rw [show toksOf 1 nm n cs (ks.map toksX) = [Lib.itoa n] by simp [toksOf]]
      simp [shapeM] at hs
      obtain ⟨⟨⟨rfl, hn⟩, rfl⟩, rfl⟩ := hs
      rw [Lib.itoa, if_neg (by omega)]
      obtain ⟨d1, d2, d3, _⟩ := dec_dig n.toNat
      have hd : digitB ((Lib.decDigits n.toNat).headD 0) = true := by
        obtain ⟨c, q, e⟩ := List.exists_cons_of_ne_nil d2
        rw [e]
        have := d1 c (by rw [e]; simp)
        simp [digitB]; omega
      rw [List.cons_append, List.nil_append, pX_else (dig_ne d1 (w_mem rfl)) (dig_ne d1 (w_mem rfl)) (dig_ne d1 (w_mem rfl)) (dig_ne d1 (w_mem rfl)) (dig_ne d1 (w_mem rfl)), if_pos hd, d3, Int.toNat_of_nonneg hn]
    · rw [show toksOf 2 nm n cs (ks.map toksX) = [if n = 1 then trueT else falseT] by simp [toksOf]]
      simp [shapeM] at hs
      obtain ⟨⟨⟨rfl, hn⟩, rfl⟩, rfl⟩ := hs
      rw [List.cons_append, List.nil_append]
      by_cases h1 : n = 1
      · subst h1; rfl
      · obtain rfl : n = 0 := by omega
        rfl
    · rw [show toksOf 3 nm n cs (ks.map toksX) = [nm] by simp [toksOf]]
      simp [shapeM] at hs
      obtain ⟨⟨⟨hc, rfl⟩, rfl⟩, rfl⟩ := hs
      have hc := conM_c hc
      obtain ⟨d1, d2⟩ := con_head hc
      rw [List.cons_append, List.nil_append, pX_else (con_ne hc (w_mem rfl)) (con_ne hc (w_mem rfl)) (con_ne hc (w_mem rfl)) (con_ne hc (w_mem rfl)) (con_ne hc (w_mem rfl)), if_neg (by rw [d1]; simp), if_pos d2]
    · rw [show toksOf 4 nm n cs (ks.map toksX) = [nm] by simp [toksOf]]
      simp [shapeM] at hs
      obtain ⟨⟨⟨hc, rfl⟩, rfl⟩, rfl⟩ := hs
      rw [List.cons_append, List.nil_append, name_read (nameM_n hc), if_neg hsafe.1, if_neg hsafe.2]
    · rw [show toksOf 5 nm n cs (ks.map toksX) = prefixT nm (ks.map toksX) by simp [toksOf]]
      simp [shapeM] at hs
      obtain ⟨⟨⟨ho, rfl⟩, rfl⟩, hl⟩ := hs
      obtain ⟨a, rfl⟩ := one_kid hl
      have e : prefixT nm ([a].map toksX) ++ r = [40] :: nm :: (toksX a ++ [41] :: r) := by simp [prefixT, kidT]
      rw [e, pX_open]
      show (if nm = ifT then _ else if nm = preT then _ else if nm = notT ∨ nm = [45] then (pX g (toksX a ++ [41] :: r)).bind _ else _) = _
      rw [if_neg (by rcases ho with rfl | rfl <;> decide), if_neg (by rcases ho with rfl | rfl <;> decide), if_pos (by rcases ho with rfl | rfl <;> decide), hread a (by simp) _ (.cons (by decide) (by decide))]
      rfl
    · rw [show toksOf 6 nm n cs (ks.map toksX) = infixT nm (ks.map toksX) by simp [toksOf]]
      simp [shapeM] at hs
      obtain ⟨⟨⟨ho, rfl⟩, rfl⟩, hl⟩ := hs
      obtain ⟨a, b, rfl⟩ := two_kids hl
      obtain ⟨o1, o2, o3, o4, o5, o6⟩ := bins_op nm ho
      have := infix_read (hread a (by simp)) (hread b (by simp)) (hhead a (by simp)) o1 o2 o3 r
      rw [List.map_cons, List.map_cons, List.map_nil, this, opBin, if_neg o4, if_neg o5, if_neg o6]
    · rw [show toksOf 7 nm n cs (ks.map toksX) = choiceT (ks.map toksX) by simp [toksOf]]
      simp [shapeM] at hs
      obtain ⟨⟨⟨rfl, rfl⟩, rfl⟩, hl⟩ := hs
      obtain ⟨a, b, c, rfl⟩ := three_kids hl
      have e : choiceT ([a, b, c].map toksX) ++ r = [40] :: ifT :: (toksX a ++ [116, 104, 101, 110] :: (toksX b ++ [101, 108, 115, 101] :: (toksX c ++ [41] :: r))) := by simp [choiceT, kidT, ifT]
      rw [e, pX_open]
      show (pX g (toksX a ++ _)).bind _ = _
      rw [hread a (by simp) _ (.cons (by decide) (by decide))]
      show (pX g (toksX b ++ _)).bind _ = _
      rw [hread b (by simp) _ (.cons (by decide) (by decide))]
      show (pX g (toksX c ++ _)).bind _ = _
      rw [hread c (by simp) _ (.cons (by decide) (by decide))]
      rfl
    · rw [show toksOf 8 nm n cs (ks.map toksX) = infixT fbyT (ks.map toksX) by simp [toksOf]]
      simp [shapeM] at hs
      obtain ⟨⟨⟨rfl, rfl⟩, rfl⟩, hl⟩ := hs
      obtain ⟨a, b, rfl⟩ := two_kids hl
      exact infix_read (hread a (by simp)) (hread b (by simp)) (hhead a (by simp)) (by decide) (by decide) (by decide) r
    · rw [show toksOf 9 nm n cs (ks.map toksX) = prefixT preT (ks.map toksX) by simp [toksOf]]
      simp [shapeM] at hs
      obtain ⟨⟨⟨rfl, rfl⟩, rfl⟩, hl⟩ := hs
      obtain ⟨a, rfl⟩ := one_kid hl
      have e : prefixT preT ([a].map toksX) ++ r = [40] :: preT :: (toksX a ++ [41] :: r) := by simp [prefixT, kidT]
      rw [e, pX_open]
      show (pX g (toksX a ++ _)).bind _ = _
      rw [hread a (by simp) _ (.cons (by decide) (by decide))]
      rfl
    · rw [show toksOf 10 nm n cs (ks.map toksX) = infixT arrowT (ks.map toksX) by simp [toksOf]]
      simp [shapeM] at hs
      obtain ⟨⟨⟨rfl, rfl⟩, rfl⟩, hl⟩ := hs
      obtain ⟨a, b, rfl⟩ := two_kids hl
      exact infix_read (hread a (by simp)) (hread b (by simp)) (hhead a (by simp)) (by decide) (by decide) (by decide) r
    · rw [show toksOf 11 nm n cs (ks.map toksX) = whenT nm cs (ks.map toksX) by simp [toksOf]]
      simp [shapeM] at hs
      obtain ⟨⟨⟨hn, rfl⟩, hcs⟩, hl⟩ := hs
      obtain ⟨a, rfl⟩ := one_kid hl
      obtain ⟨c, rfl⟩ : ∃ c, cs = [c] := by
        simp [allM] at hcs
        exact List.length_eq_one_iff.1 (by omega)
      obtain ⟨u, s, hu, hbad⟩ := hhead a (by simp)
      have e : whenT nm [c] ([a].map toksX) ++ r = [40] :: (toksX a ++ whenW :: c :: [40] :: nm :: [41] :: [41] :: r) := by simp [whenT, kidT, namesT, sepT, whenW]
      have hd := headD_app (l := whenW :: c :: [40] :: nm :: [41] :: [41] :: r) hu
      have q1 : u ≠ ifT := fun e => hbad (by rw [e]; simp [badH])
      have q2 : u ≠ preT := fun e => hbad (by rw [e]; simp [badH])
      have q3 : ¬ (u = notT ∨ u = [45]) := fun e => hbad (by rcases e with e | e <;> (rw [e]; simp [badH]))
      rw [e, pX_open, if_neg (by rw [hd]; exact q1), if_neg (by rw [hd]; exact q2), if_neg (by rw [hd]; exact q3), hread a (by simp) _ (.cons (by decide) (by decide))]
      rfl
    · rw [show toksOf 12 nm n cs (ks.map toksX) = armT mergeT nm cs (ks.map toksX) by simp [toksOf]]
      simp [shapeM] at hs
      obtain ⟨⟨⟨hn, rfl⟩, hcs⟩, hl⟩ := hs
      have hpos : 1 ≤ cs.length := by simp [allM] at hcs; exact hcs.1.1
      have e : armT mergeT nm cs (ks.map toksX) ++ r = mergeT :: nm :: [40] :: (sepT [124] (armsT cs (ks.map toksX)) ++ [41] :: r) := by simp [armT]
      rw [e, pX_merge]
      show (pArms (pX g) g (sepT [124] (armsT cs (ks.map toksX)) ++ [41] :: r)).bind _ = _
      rw [arms_read r cs ks g (by intro e; subst e; simp at hl; omega) hl (by omega) hread]
      rfl
    · rw [show toksOf 13 nm n cs (ks.map toksX) = armT matchT nm cs (ks.map toksX) by simp [toksOf]]
      simp [shapeM] at hs
      obtain ⟨⟨⟨hn, rfl⟩, hcs⟩, hl⟩ := hs
      have hpos : 1 ≤ cs.length := by simp [allM] at hcs; exact hcs.1.1
      have e : armT matchT nm cs (ks.map toksX) ++ r = matchT :: nm :: [40] :: (sepT [124] (armsT cs (ks.map toksX)) ++ [41] :: r) := by simp [armT]
      rw [e, pX_match]
      show (pArms (pX g) g (sepT [124] (armsT cs (ks.map toksX)) ++ [41] :: r)).bind _ = _
      rw [arms_read r cs ks g (by intro e; subst e; simp at hl; omega) hl (by omega) hread]
      rfl
    · rw [show toksOf 14 nm n cs (ks.map toksX) = callT nm cs (ks.map toksX) by simp [toksOf]]
      simp [shapeM] at hs
      obtain ⟨⟨⟨hn, rfl⟩, hcs⟩, hl⟩ := hs
      have hne : ks ≠ [] := by intro e; subst e; simp at hl
      by_cases h0 : cs = []
      · subst h0
        have e : callT nm [] (ks.map toksX) ++ r = nm :: [40] :: (sepT [44] (ks.map toksX) ++ [41] :: r) := by simp [callT, staticsT]
        rw [e, name_read (nameM_n hn)]
        show (pList (pX g) g (sepT [44] (ks.map toksX) ++ [41] :: r)).bind _ = _
        rw [list_read r ks g hne (by omega) hread]
        rfl
      · have e : callT nm cs (ks.map toksX) ++ r = nm :: [91] :: (namesT [44] cs ++ [93] :: [40] :: (sepT [44] (ks.map toksX) ++ [41] :: r)) := by simp [callT, staticsT, h0]
        rw [e, name_read (nameM_n hn)]
        show (pNames g (namesT [44] cs ++ [93] :: _)).bind _ = _
        rw [names_read _ cs g h0 (by omega)]
        show (pList (pX g) g (sepT [44] (ks.map toksX) ++ [41] :: r)).bind _ = _
        rw [list_read r ks g hne (by omega) hread]
        rfl
    · rw [show toksOf 15 nm n cs (ks.map toksX) = infixT everyT (ks.map toksX) by simp [toksOf]]
      simp [shapeM] at hs
      obtain ⟨⟨⟨rfl, rfl⟩, rfl⟩, hl, _⟩ := hs
      obtain ⟨a, b, rfl⟩ := two_kids hl
      exact infix_read (hread a (by simp)) (hread b (by simp)) (hhead a (by simp)) (by decide) (by decide) (by decide) r
    · simp [shapeM, *] at hs
theorem toks_inj {x y : Ex} (hx : rightX false x = true) (hy : rightX false y = true) (h : toksX x = toksX y) : x = y := by
  have sx := read_ok x hx (max (fX x) (fX y)) (Nat.le_max_left _ _) [] ⟨by simp, by simp⟩
  have sy := read_ok y hy (max (fX x) (fX y)) (Nat.le_max_right _ _) [] ⟨by simp, by simp⟩
  rw [h, sy] at sx
  injection sx with sx
  injection sx with sx
  exact sx.symm
theorem show_inj {x y : Ex} (hx : rightX false x = true) (hy : rightX false y = true) (bx : bndX x) (by_ : bndX y) : spellL (toksX x) = spellL (toksX y) ↔ x = y :=
  ⟨fun h => toks_inj hx hy (spell_inj _ _ (fun t ht => ok_word (toks_ok x hx bx t ht)) (fun t ht => ok_word (toks_ok y hy by_ t ht)) h), fun h => by rw [h]⟩
end Go.Proofs.YtaolipbggldimaaGreatDoor
namespace Go.Proofs.YtaolipbggldimaaGreatDoor

/-- what stands behind is read off as well -/
def Told {X : Type} (T : X → List Tx) (R : X → Prop) (F : List Tx → Prop) : Prop := ∀ x y r s, R x → R y → F r → F s → T x ++ r = T y ++ s → x = y ∧ r = s
def Heads {X : Type} (T : X → List Tx) (R : X → Prop) (C : Tx → Prop) : Prop := ∀ x, R x → ∃ t u, T x = t :: u ∧ C t
theorem flat_told {X : Type} {T : X → List Tx} {R : X → Prop} {C : Tx → Prop} {F : List Tx → Prop} (hi : Told T R F) (hh : Heads T R C) (hF : ∀ r, C (r.headD []) → F r) : ∀ (l l' : List X) (r s : List Tx),
    (∀ x ∈ l, R x) → (∀ x ∈ l', R x) → F r → F s → ¬C (r.headD []) → ¬C (s.headD []) → l.flatMap T ++ r = l'.flatMap T ++ s → l = l' ∧ r = s
  | [], [], r, s, _, _, _, _, _, _, h => ⟨rfl, by simpa using h⟩
  | [], y :: l', r, s, _, h2, _, _, h5, _, h => by
    obtain ⟨t, u, e, hc⟩ := hh y (h2 y (by simp))
    rw [List.flatMap_nil, List.nil_append, List.flatMap_cons, e] at h
    rw [h] at h5
    exact absurd hc h5
  | x :: l, [], r, s, h1, _, _, _, _, h6, h => by
    obtain ⟨t, u, e, hc⟩ := hh x (h1 x (by simp))
    rw [List.flatMap_nil, List.nil_append, List.flatMap_cons, e] at h
    rw [← h] at h6
    exact absurd hc h6
  | x :: l, y :: l', r, s, h1, h2, h3, h4, h5, h6, h => by
    rw [List.flatMap_cons, List.flatMap_cons, List.append_assoc, List.append_assoc] at h
    have f : ∀ (m : List X) (q : List Tx), (∀ x ∈ m, R x) → F q → F (m.flatMap T ++ q) := fun m q hm hq => by
      cases m with
      | nil => simpa using hq
      | cons z m =>
        obtain ⟨t, u, e, hc⟩ := hh z (hm z (by simp))
        apply hF
        rw [List.flatMap_cons, e]
        exact hc
    obtain ⟨rfl, h7⟩ := hi x y _ _ (h1 x (by simp)) (h2 y (by simp)) (f l r (fun z hz => h1 z (by simp [hz])) h3) (f l' s (fun z hz => h2 z (by simp [hz])) h4) h
    obtain ⟨rfl, h8⟩ := flat_told hi hh hF l l' r s (fun z hz => h1 z (by simp [hz])) (fun z hz => h2 z (by simp [hz])) h3 h4 h5 h6 h7
    exact ⟨rfl, h8⟩
theorem tail_told {c e : Tx} (he : e ≠ c) : ∀ (l l' : List Tx) (r s : List Tx), l.flatMap (fun y => [c, y]) ++ e :: r = l'.flatMap (fun y => [c, y]) ++ e :: s → l = l' ∧ r = s
  | [], [], r, s, h => ⟨rfl, by simpa using h⟩
  | [], y :: l', r, s, h => by simp at h; exact absurd h.1 he
  | x :: l, [], r, s, h => by simp at h; exact absurd h.1.symm he
  | x :: l, y :: l', r, s, h => by
    simp only [List.flatMap_cons, List.cons_append, List.nil_append, List.cons.injEq, true_and] at h
    obtain ⟨rfl, h⟩ := h
    obtain ⟨rfl, h8⟩ := tail_told he l l' r s h
    exact ⟨rfl, h8⟩
theorem namesT_eq (c : Tx) (x : Tx) (l : List Tx) : namesT c (x :: l) = x :: l.flatMap (fun y => [c, y]) := by
  simp [namesT, sepT, List.flatMap_map]
/-- names up to a token that is no sign between, and none of them -/
theorem names_told {c e : Tx} (he : e ≠ c) {l l' : List Tx} {r s : List Tx} (h1 : ∀ x ∈ l, x ≠ e) (h2 : ∀ x ∈ l', x ≠ e) (h : namesT c l ++ e :: r = namesT c l' ++ e :: s) : l = l' ∧ r = s := by
  cases l with
  | nil =>
    cases l' with
    | nil => simpa [namesT, sepT] using h
    | cons y l' =>
      rw [namesT_eq] at h
      simp [namesT, sepT] at h
      exact absurd h.1.symm (h2 y (by simp))
  | cons x l =>
    cases l' with
    | nil =>
      rw [namesT_eq] at h
      simp [namesT, sepT] at h
      exact absurd h.1 (h1 x (by simp))
    | cons y l' =>
      rw [namesT_eq, namesT_eq, List.cons_append, List.cons_append, List.cons.injEq] at h
      obtain ⟨rfl, h⟩ := h
      obtain ⟨rfl, h8⟩ := tail_told he l l' r s h
      exact ⟨rfl, h8⟩
theorem exprs_told : Told toksX (fun x => rightX false x = true) Safe := by
  intro x y r s hx hy hr hs h
  have sx := read_ok x hx (max (fX x) (fX y)) (Nat.le_max_left _ _) r hr
  have sy := read_ok y hy (max (fX x) (fX y)) (Nat.le_max_right _ _) s hs
  rw [h, sy] at sx
  injection sx with sx
  injection sx with h1 h2
  exact ⟨h1.symm, h2.symm⟩
/- tokens that no name and no constructor is -/
def wordsT : List Tx := [[40], [41], [44], [58], [59], [61], [91], [93], [124], [101, 110, 100], [115, 116, 97, 116, 101], [117, 110, 116, 105, 108], [97, 117, 116, 111, 109, 97, 116, 111, 110], [116, 104, 101, 110], [116, 121, 112, 101], [110, 111, 100, 101], [119, 104, 101, 114, 101], []]
theorem wordsT_no : ∀ u ∈ wordsT, conB u = false ∧ nameB u = false := by decide +kernel
theorem nameW {u v : Tx} (h : nameM false u = true) (hv : wordsT.contains v = true) : u ≠ v := fun e => by
  have := (wordsT_no v (by simpa using hv)).2
  rw [← e, nameM_n h] at this; cases this
theorem conW {u v : Tx} (h : conM false u = true) (hv : wordsT.contains v = true) : u ≠ v := fun e => by
  have := (wordsT_no v (by simpa using hv)).1
  rw [← e, conM_c h] at this; cases this
theorem allM_all {X : Type} {l : List X} {a b : Nat} {f : X → Bool} (h : allM l a b f = true) : ∀ x ∈ l, f x = true := by
  simp only [allM, Bool.and_eq_true, List.all_eq_true] at h
  exact h.2
/-- how an equation may begin -/
def EqHead (t : Tx) : Prop := t = [40] ∨ nameM false t = true
theorem eqHead_no {t : Tx} (h1 : wordsT.contains t = true) (h2 : t ≠ [40]) : ¬EqHead t := fun h => by
  rcases h with h | h
  · exact h2 h
  · exact nameW h h1 rfl
theorem eqs_heads : Heads eqT (fun q => rightEq false q = true) EqHead := by
  rintro ⟨ns, e⟩ h
  rw [rightEq, Bool.and_eq_true] at h
  rw [eqT]
  match ns, h.1 with
  | [], h => simp [allM] at h
  | [x], h => exact ⟨_, _, rfl, .inr (allM_all h x (by simp))⟩
  | x :: y :: l, _ => exact ⟨_, _, rfl, .inl rfl⟩
theorem eqs_told : Told eqT (fun q => rightEq false q = true) (fun _ => True) := by
  rintro ⟨ns, e⟩ ⟨ns', e'⟩ r s h1 h2 _ _ h
  rw [rightEq, Bool.and_eq_true] at h1 h2
  have n1 := allM_all h1.1
  have n2 := allM_all h2.1
  have fin : ∀ {r s : List Tx}, [61] :: (toksX e ++ [[59]]) ++ r = [61] :: (toksX e' ++ [[59]]) ++ s → e = e' ∧ r = s := fun h => by
    simp only [List.cons_append, List.cons.injEq, true_and, List.append_assoc, List.nil_append] at h
    obtain ⟨rfl, h3⟩ := exprs_told e e' _ _ h1.2 h2.2 (.cons (by decide) (by decide)) (.cons (by decide) (by decide)) h
    exact ⟨rfl, by simpa using h3⟩
  rw [eqT, eqT] at h
  by_cases o1 : ∃ x, ns = [x]
  · obtain ⟨x, rfl⟩ := o1
    by_cases o2 : ∃ y, ns' = [y]
    · obtain ⟨y, rfl⟩ := o2
      simp only [List.cons_append, List.nil_append, List.cons.injEq] at h
      obtain ⟨rfl, h3⟩ := h
      obtain ⟨rfl, rfl⟩ := fin (by simpa using h3)
      exact ⟨rfl, rfl⟩
    · have hx : ∀ y, ns' ≠ [y] := fun y e => o2 ⟨y, e⟩
      simp only [List.cons_append, List.cons.injEq] at h
      exact absurd h.1 (nameW (n1 x (by simp)) rfl)
  · have hx : ∀ y, ns ≠ [y] := fun y e => o1 ⟨y, e⟩
    by_cases o2 : ∃ y, ns' = [y]
    · obtain ⟨y, rfl⟩ := o2
      simp only [List.cons_append, List.cons.injEq] at h
      exact absurd h.1.symm (nameW (n2 y (by simp)) rfl)
    · have hy : ∀ y, ns' ≠ [y] := fun y e => o2 ⟨y, e⟩
      simp only [List.cons_append, List.cons.injEq, true_and, List.append_assoc, List.nil_append] at h
      obtain ⟨rfl, h3⟩ := names_told (by decide) (fun x hx => nameW (n1 x hx) rfl) (fun x hx => nameW (n2 x hx) rfl) h
      obtain ⟨rfl, rfl⟩ := fin (by simpa using h3)
      exact ⟨rfl, rfl⟩
def untilT : Tx := [117, 110, 116, 105, 108]
theorem ways_told : Told wayT (fun y => rightWay false y = true) (fun _ => True) := by
  rintro ⟨x, t⟩ ⟨x', t'⟩ r s h1 h2 _ _ h
  rw [rightWay, Bool.and_eq_true] at h1 h2
  rw [wayT, wayT] at h
  simp only [List.cons_append, List.cons.injEq, true_and, List.append_assoc, List.nil_append] at h
  obtain ⟨rfl, h3⟩ := exprs_told x x' _ _ h1.2 h2.2 (.cons (by decide) (by decide)) (.cons (by decide) (by decide)) h
  simp at h3
  obtain ⟨rfl, rfl⟩ := h3
  exact ⟨rfl, rfl⟩
theorem ways_heads : Heads wayT (fun y => rightWay false y = true) (fun t => t = untilT) := fun _ _ => ⟨_, _, rfl, rfl⟩
def AfterState (r : List Tx) : Prop := ¬EqHead (r.headD []) ∧ r.headD [] ≠ untilT
theorem states_told : Told stateT (fun x => rightState false x = true) AfterState := by
  rintro ⟨n, es, ws⟩ ⟨n', es', ws'⟩ r s h1 h2 h3 h4 h
  simp only [rightState, Bool.and_eq_true] at h1 h2
  rw [stateT, stateT] at h
  simp only [List.cons_append, List.cons.injEq, true_and, List.append_assoc] at h
  obtain ⟨rfl, h⟩ := h
  have hh : ∀ (l : List QWay) (q : List Tx), (∀ x ∈ l, rightWay false x = true) → AfterState q → ¬EqHead ((l.flatMap wayT ++ q).headD []) := by
    intro l q _ hq
    cases l with
    | nil => exact hq.1
    | cons y l => exact eqHead_no (t := untilT) rfl (by decide)
  obtain ⟨rfl, h5⟩ := flat_told eqs_told eqs_heads (fun _ _ => trivial) es es' _ _ (allM_all h1.2.1) (allM_all h2.2.1) trivial trivial (hh ws r (allM_all h1.2.2) h3) (hh ws' s (allM_all h2.2.2) h4) h
  obtain ⟨rfl, rfl⟩ := flat_told ways_told ways_heads (fun _ _ => trivial) ws ws' _ _ (allM_all h1.2.2) (allM_all h2.2.2) trivial trivial h3.2 h4.2 h5
  exact ⟨rfl, rfl⟩
def stateW : Tx := [115, 116, 97, 116, 101]
theorem states_heads : Heads stateT (fun x => rightState false x = true) (fun t => t = stateW) := fun _ _ => ⟨_, _, rfl, rfl⟩
def autoT : Tx := [97, 117, 116, 111, 109, 97, 116, 111, 110]
def ItemHead (t : Tx) : Prop := EqHead t ∨ t = autoT
theorem items_heads : Heads itemT (fun x => rightItem false x = true) ItemHead := by
  rintro ⟨q, ss⟩ h
  rw [itemT]
  by_cases hs : ss = []
  · subst hs
    simp only [rightItem, if_true] at h
    obtain ⟨t, u, e, hc⟩ := eqs_heads q h
    exact ⟨t, u, by simpa using e, .inl hc⟩
  · rw [if_neg hs]
    exact ⟨_, _, rfl, .inr rfl⟩
theorem items_told : Told itemT (fun x => rightItem false x = true) (fun _ => True) := by
  rintro ⟨q, ss⟩ ⟨q', ss'⟩ r s h1 h2 _ _ h
  rw [itemT, itemT] at h
  by_cases hs : ss = []
  · subst hs
    simp only [rightItem, if_true] at h1
    by_cases hs' : ss' = []
    · subst hs'
      simp only [rightItem, if_true] at h2
      obtain ⟨rfl, h3⟩ := eqs_told q q' r s h1 h2 trivial trivial (by simpa using h)
      exact ⟨rfl, h3⟩
    · rw [if_pos rfl, if_neg hs'] at h
      obtain ⟨t, u, e, hc⟩ := eqs_heads q h1
      rw [show (QItem.mk q []).eq = q from rfl, e] at h
      simp only [List.cons_append, List.cons.injEq] at h
      rw [h.1] at hc
      exact absurd hc (eqHead_no (t := autoT) rfl (by decide))
  · simp only [rightItem, if_neg hs, Bool.and_eq_true] at h1
    by_cases hs' : ss' = []
    · subst hs'
      simp only [rightItem, if_true] at h2
      rw [if_neg hs, if_pos rfl] at h
      obtain ⟨t, u, e, hc⟩ := eqs_heads q' h2
      rw [show (QItem.mk q' []).eq = q' from rfl, e] at h
      simp only [List.cons_append, List.cons.injEq] at h
      rw [← h.1] at hc
      exact absurd hc (eqHead_no (t := autoT) rfl (by decide))
    · simp only [rightItem, if_neg hs', Bool.and_eq_true] at h2
      rw [if_neg hs, if_neg hs'] at h
      simp only [List.cons_append, List.cons.injEq, true_and, List.append_assoc, List.nil_append] at h
      have hend : ∀ (r : List Tx), AfterState ([101, 110, 100] :: r) := fun r => ⟨eqHead_no (t := [101, 110, 100]) rfl (by decide), show ([101, 110, 100] : Tx) ≠ untilT by decide⟩
      have hst : ∀ r : List Tx, r.headD [] = stateW → AfterState r := fun r e => by rw [AfterState, e]; exact ⟨eqHead_no (t := stateW) rfl (by decide), by decide⟩
      obtain ⟨rfl, h3⟩ := flat_told states_told states_heads hst ss ss' _ _ (allM_all h1.2.2) (allM_all h2.2.2) (hend _) (hend _) (show ([101, 110, 100] : Tx) ≠ stateW by decide) (show ([101, 110, 100] : Tx) ≠ stateW by decide) h
      simp at h3
      obtain ⟨ns, e⟩ := q
      obtain ⟨ns', e'⟩ := q'
      have a1 : ns = [] := by simpa using h1.1
      have a2 : ns' = [] := by simpa using h2.1
      have b1 : e = noneX := (sameX_iff _ _).1 h1.2.1
      have b2 : e' = noneX := (sameX_iff _ _).1 h2.2.1
      subst a1 a2 b1 b2 h3
      exact ⟨rfl, rfl⟩
def typeT : Tx := [116, 121, 112, 101]
def nodeW : Tx := [110, 111, 100, 101]
theorem enums_told : Told enumT (fun x => rightEnum false x = true) (fun _ => True) := by
  rintro ⟨n, cs⟩ ⟨n', cs'⟩ r s h1 h2 _ _ h
  simp only [rightEnum, Bool.and_eq_true] at h1 h2
  rw [enumT, enumT] at h
  simp only [List.cons_append, List.cons.injEq, true_and, List.append_assoc, List.nil_append] at h
  obtain ⟨rfl, h⟩ := h
  obtain ⟨rfl, rfl⟩ := names_told (by decide) (fun x hx => conW (allM_all h1.2 x hx) rfl) (fun x hx => conW (allM_all h2.2 x hx) rfl) h
  exact ⟨rfl, rfl⟩
theorem enums_heads : Heads enumT (fun x => rightEnum false x = true) (fun t => t = typeT) := fun _ _ => ⟨_, _, rfl, rfl⟩
theorem statics_told {l l' : List Tx} {r s : List Tx} (h1 : ∀ x ∈ l, nameM false x = true) (h2 : ∀ x ∈ l', nameM false x = true) (h : staticsT l ++ [40] :: r = staticsT l' ++ [40] :: s) : l = l' ∧ r = s := by
  unfold staticsT at h
  by_cases a : l = []
  · by_cases b : l' = []
    · rw [if_pos a, if_pos b] at h
      exact ⟨by rw [a, b], by simpa using h⟩
    · rw [if_pos a, if_neg b] at h
      simp at h
  · by_cases b : l' = []
    · rw [if_neg a, if_pos b] at h
      simp at h
    · rw [if_neg a, if_neg b] at h
      simp only [List.cons_append, List.cons.injEq, true_and, List.append_assoc, List.nil_append] at h
      obtain ⟨rfl, h3⟩ := names_told (by decide) (fun x hx => nameW (h1 x hx) rfl) (fun x hx => nameW (h2 x hx) rfl) h
      exact ⟨rfl, by simpa using h3⟩
theorem nodes_told : Told nodeT (fun x => rightNode false x = true) (fun _ => True) := by
  rintro ⟨n, fs, is, os, xs⟩ ⟨n', fs', is', os', xs'⟩ r s h1 h2 _ _ h
  simp only [rightNode, Bool.and_eq_true] at h1 h2
  rw [nodeT, nodeT] at h
  simp only [List.cons_append, List.cons.injEq, true_and, List.append_assoc, List.nil_append] at h
  obtain ⟨rfl, h⟩ := h
  obtain ⟨rfl, h3⟩ := statics_told (allM_all h1.2.1) (allM_all h2.2.1) h
  clear h
  obtain ⟨rfl, h⟩ := names_told (by decide) (fun x hx => nameW (allM_all h1.2.2.1 x hx) rfl) (fun x hx => nameW (allM_all h2.2.2.1 x hx) rfl) h3
  clear h3
  simp only [List.cons.injEq, true_and] at h
  obtain ⟨rfl, h3⟩ := names_told (by decide) (fun x hx => nameW (allM_all h1.2.2.2.1 x hx) rfl) (fun x hx => nameW (allM_all h2.2.2.2.1 x hx) rfl) h
  clear h
  simp only [List.cons.injEq, true_and] at h3
  have hno : ∀ r : List Tx, ¬ItemHead (([101, 110, 100] :: r).headD []) := fun r e => by
    rcases e with e | e
    · exact eqHead_no (t := [101, 110, 100]) rfl (by decide) e
    · exact absurd e (by show ([101, 110, 100] : Tx) ≠ autoT; decide)
  obtain ⟨rfl, h⟩ := flat_told items_told items_heads (fun _ _ => trivial) xs xs' _ _ (allM_all h1.2.2.2.2) (allM_all h2.2.2.2.2) trivial trivial (hno _) (hno _) h3
  simp at h
  exact ⟨rfl, h⟩
theorem nodes_heads : Heads nodeT (fun x => rightNode false x = true) (fun t => t = nodeW) := fun _ _ => ⟨_, _, rfl, rfl⟩
theorem progs_told {p q : QProg} (hp : rightP false p = true) (hq : rightP false q = true) (h : progT p = progT q) : p = q := by
  obtain ⟨es, ns⟩ := p
  obtain ⟨es', ns'⟩ := q
  simp only [rightP, Bool.and_eq_true] at hp hq
  rw [progT, progT] at h
  have hno : ∀ l : List QNode, ((l.flatMap nodeT).headD []) ≠ typeT := by
    intro l
    cases l with
    | nil => decide
    | cons x l => show nodeW ≠ typeT; decide
  obtain ⟨rfl, h⟩ := flat_told enums_told enums_heads (fun _ _ => trivial) es es' _ _ (allM_all hp.1) (allM_all hq.1) trivial trivial (hno _) (hno _) h
  have h' : ns.flatMap nodeT ++ [] = ns'.flatMap nodeT ++ [] := by simpa using h
  obtain ⟨rfl, _⟩ := flat_told nodes_told nodes_heads (fun _ _ => trivial) ns ns' _ _ (allM_all hp.2) (allM_all hq.2) trivial trivial (by decide) (by decide) h'
  rfl
end Go.Proofs.YtaolipbggldimaaGreatDoor
