/-
  Plain mathematics: expressions that may be are told by their tokens, and tokens by what they spell.
-/
import Derived.Test.YthffigagnodnmaaGreatDoorTreeText
namespace Go.Proofs.YthffigagnodnmaaGreatDoor

theorem cut_inj : ∀ (t u x y : Tx), (32 : UInt8) ∉ t → (32 : UInt8) ∉ u → (x = [] ∨ x.head? = some 32) → (y = [] ∨ y.head? = some 32) → t ++ x = u ++ y → t = u ∧ x = y
  | [], [], x, y, _, _, _, _, h => ⟨rfl, h⟩
  | [], c :: u, x, y, _, hu, hx, _, h => by
    rw [List.nil_append] at h
    rcases hx with rfl | hx
    · simp at h
    · rw [h] at hx; simp at hx; subst hx; simp at hu
  | c :: t, [], x, y, ht, _, _, hy, h => by
    rw [List.nil_append] at h
    rcases hy with rfl | hy
    · simp at h
    · rw [← h] at hy; simp at hy; subst hy; simp at ht
  | c :: t, d :: u, x, y, ht, hu, hx, hy, h => by
    simp only [List.cons_append, List.cons.injEq] at h
    obtain ⟨h1, h2⟩ := cut_inj t u x y (fun e => ht (by simp [e])) (fun e => hu (by simp [e])) hx hy h.2
    exact ⟨by rw [h.1, h1], h2⟩
def Word (t : Tx) : Prop := t ≠ [] ∧ (32 : UInt8) ∉ t
theorem spell_inj : ∀ (a b : List Tx), (∀ t ∈ a, Word t) → (∀ t ∈ b, Word t) → spellL a = spellL b → a = b
  | [], [], _, _, _ => rfl
  | [], t :: r, _, hb, h => by
    obtain ⟨h1, _⟩ := hb t (by simp)
    rw [spellL, spellL] at h
    exact absurd (List.append_eq_nil_iff.1 h.symm).1 h1
  | t :: r, [], ha, _, h => by
    obtain ⟨h1, _⟩ := ha t (by simp)
    rw [spellL, spellL] at h
    exact absurd (List.append_eq_nil_iff.1 h).1 h1
  | t :: r, u :: s, ha, hb, h => by
    rw [spellL, spellL] at h
    obtain ⟨h1, h2⟩ := cut_inj t u _ _ (ha t (by simp)).2 (hb u (by simp)).2 (by split <;> simp) (by split <;> simp) h
    have : r = s := by
      by_cases hr : r = []
      · by_cases hs : s = []
        · rw [hr, hs]
        · rw [if_pos hr, if_neg hs] at h2; simp at h2
      · by_cases hs : s = []
        · rw [if_neg hr, if_pos hs] at h2; simp at h2
        · rw [if_neg hr, if_neg hs] at h2
          exact spell_inj r s (fun x hx => ha x (by simp [hx])) (fun x hx => hb x (by simp [hx])) (by simpa using h2)
    rw [h1, this]
theorem ok_word {t : Tx} (h : tokOk t) : Word t := by
  refine ⟨h.1, ?_⟩
  by_cases hr : runL t = 0
  · have ht : signL t = t := by have := h.2.2; rw [tokText, if_pos hr] at this; exact this
    have hm := signL_mem (l := t) (by rw [ht]; exact h.1)
    rw [ht] at hm
    have : ∀ p ∈ signsL, (32 : UInt8) ∉ p := by decide +kernel
    exact this t hm
  · have ht : t.take (runL t) = t := by have := h.2.2; rw [tokText, if_neg hr] at this; exact this
    have hall := run_take t
    rw [ht] at hall
    intro hc
    have := hall 32 hc
    revert this
    decide
/- a reader of expressions' tokens -/
def ifT : Tx := [105, 102]
def notT : Tx := [110, 111, 116]
def whenW : Tx := [119, 104, 101, 110]
def pList (p : List Tx → Option (Ex × List Tx)) : Nat → List Tx → Option (List Ex × List Tx)
  | 0, _ => none
  | n + 1, ts => (p ts).bind fun a => if a.2.head? = some [44] then (pList p n a.2.tail).bind fun b => some (a.1 :: b.1, b.2) else some ([a.1], a.2.tail)
def pNames : Nat → List Tx → Option (List Tx × List Tx)
  | 0, _ => none
  | n + 1, ts => if ts.tail.head? = some [44] then (pNames n ts.tail.tail).bind fun b => some (ts.headD [] :: b.1, b.2) else some ([ts.headD []], ts.tail.tail)
def pArms (p : List Tx → Option (Ex × List Tx)) : Nat → List Tx → Option (List Tx × List Ex × List Tx)
  | 0, _ => none
  | n + 1, ts => (p ts.tail.tail).bind fun a => if a.2.head? = some [124] then (pArms p n a.2.tail).bind fun b => some (ts.headD [] :: b.1, a.1 :: b.2.1, b.2.2) else some ([ts.headD []], [a.1], a.2.tail)
def opBin (s : Tx) (a b : Ex) : Ex := if s = fbyT then .mk 8 [] 0 [] [a, b] else if s = arrowT then .mk 10 [] 0 [] [a, b] else if s = everyT then .mk 15 [] 0 [] [a, b] else .mk 6 s 0 [] [a, b]
def pX : Nat → List Tx → Option (Ex × List Tx)
  | 0, _ => none
  | f + 1, ts =>
    let t := ts.headD []
    let r := ts.tail
    let u := r.headD []
    if t = [40] then
      if u = ifT then (pX f r.tail).bind fun a => (pX f a.2.tail).bind fun b => (pX f b.2.tail).bind fun c => some (.mk 7 [] 0 [] [a.1, b.1, c.1], c.2.tail)
      else if u = preT then (pX f r.tail).bind fun a => some (.mk 9 [] 0 [] [a.1], a.2.tail)
      else if u = notT ∨ u = [45] then (pX f r.tail).bind fun a => some (.mk 5 u 0 [] [a.1], a.2.tail)
      else (pX f r).bind fun a =>
        if a.2.headD [] = whenW then some (.mk 11 (a.2.getD 3 []) 0 [a.2.getD 1 []] [a.1], a.2.drop 6)
        else (pX f a.2.tail).bind fun b => some (opBin (a.2.headD []) a.1 b.1, b.2.tail)
    else if t = mergeT then (pArms (pX f) f r.tail.tail).bind fun a => some (.mk 12 u 0 a.1 a.2.1, a.2.2)
    else if t = matchT then (pArms (pX f) f r.tail.tail).bind fun a => some (.mk 13 u 0 a.1 a.2.1, a.2.2)
    else if t = trueT then some (.mk 2 [] 1 [] [], r)
    else if t = falseT then some (.mk 2 [] 0 [] [], r)
    else if digitB (t.headD 0) then some (.mk 1 [] (digV 0 t) [] [], r)
    else if greatB (t.headD 0) then some (.mk 3 t 0 [] [], r)
    else if u = [40] then (pList (pX f) f r.tail).bind fun a => some (.mk 14 t 0 [] a.1, a.2)
    else if u = [91] then (pNames f r.tail).bind fun a => (pList (pX f) f a.2.tail).bind fun b => some (.mk 14 t 0 a.1 b.1, b.2)
    else some (.mk 4 t 0 [] [], r)
/-- no bracket opens here -/
def Safe (r : List Tx) : Prop := r.headD [] ≠ [40] ∧ r.headD [] ≠ [91]
theorem Safe.cons {t : Tx} {r : List Tx} (h1 : t ≠ [40]) (h2 : t ≠ [91]) : Safe (t :: r) := ⟨h1, h2⟩
def badH : List Tx := [ifT, preT, notT, [45]]
theorem words_no : ∀ u ∈ badH ++ [[40], [91], mergeT, matchT, trueT, falseT, fbyT, arrowT, everyT, whenW], conB u = false ∧ nameB u = false ∧ (u.all (fun c => decide (48 ≤ c.toNat) && decide (c.toNat ≤ 57))) = false := by decide +kernel
theorem dig_all {u : Tx} (h : AllDig u) : u.all (fun c => decide (48 ≤ c.toNat) && decide (c.toNat ≤ 57)) = true := by
  rw [List.all_eq_true]
  intro c hc
  have := h c hc
  simp [this]
theorem name_ne {u v : Tx} (h : nameB u = true) (hv : v ∈ badH ++ [[40], [91], mergeT, matchT, trueT, falseT, fbyT, arrowT, everyT, whenW]) : u ≠ v := fun e => by
  have := (words_no v hv).2.1
  rw [← e, h] at this; cases this
theorem con_ne {u v : Tx} (h : conB u = true) (hv : v ∈ badH ++ [[40], [91], mergeT, matchT, trueT, falseT, fbyT, arrowT, everyT, whenW]) : u ≠ v := fun e => by
  have := (words_no v hv).1
  rw [← e, h] at this; cases this
theorem dig_ne {u v : Tx} (h : AllDig u) (hv : v ∈ badH ++ [[40], [91], mergeT, matchT, trueT, falseT, fbyT, arrowT, everyT, whenW]) : u ≠ v := fun e => by
  have := (words_no v hv).2.2
  rw [← e, dig_all h] at this; cases this
theorem nameM_n {l : Tx} (h : nameM false l = true) : nameB l = true := by simpa [nameM, ungenL] using h
theorem conM_c {l : Tx} (h : conM false l = true) : conB l = true := by simpa [conM, ungenL] using h
theorem name_head {u : Tx} (h : nameB u = true) : digitB (u.headD 0) = false ∧ greatB (u.headD 0) = false := by
  simp only [nameB, Bool.and_eq_true] at h
  have := h.1.2
  simp [smallB] at this
  simp [digitB, greatB]
  omega
theorem con_head {u : Tx} (h : conB u = true) : digitB (u.headD 0) = false ∧ greatB (u.headD 0) = true := by
  simp only [conB, Bool.and_eq_true] at h
  refine ⟨?_, h.2⟩
  have := h.2
  simp [greatB] at this
  simp [digitB]
  omega
theorem toks_head : ∀ x : Ex, rightX false x = true → ∃ u s, toksX x = u :: s ∧ u ∉ badH := by
  intro x hr
  obtain ⟨op, nm, n, cs, ks⟩ := x
  rw [rightX, Bool.and_eq_true] at hr
  have hs := hr.1
  have B : ∀ {u : Tx} {s : List Tx} {l : List Tx}, l = u :: s → (∀ v ∈ badH, u ≠ v) → ∃ u s, l = u :: s ∧ u ∉ badH := fun h hv => ⟨_, _, h, fun hm => hv _ hm rfl⟩
  have M : ∀ {v : Tx}, v ∈ badH → v ∈ badH ++ [[40], [91], mergeT, matchT, trueT, falseT, fbyT, arrowT, everyT, whenW] := fun h => List.mem_append_left _ h
  have D : ∀ {u : Tx}, badH.contains u = false → ∀ v ∈ badH, u ≠ v := fun h v hv e => by subst e; simp at h; exact h hv
  rw [toksX_mk]
  rcases op_case op with rfl | rfl | rfl | rfl | rfl | rfl | rfl | rfl | rfl | rfl | rfl | rfl | rfl | rfl | rfl | ⟨h1, h2, h3, h4, h5, h6, h7, h8, h9, h10, h11, h12, h13, h14, h15⟩
  · rw [show toksOf 1 nm n cs (ks.map toksX) = [Lib.itoa n] by simp [toksOf]]
    simp [shapeM] at hs
    refine B rfl fun v hv => ?_
    rw [Lib.itoa, if_neg (by omega)]
    exact dig_ne (dec_dig _).1 (M hv)
  · rw [show toksOf 2 nm n cs (ks.map toksX) = [if n = 1 then trueT else falseT] by simp [toksOf]]
    split <;> exact B rfl (D rfl)
  · rw [show toksOf 3 nm n cs (ks.map toksX) = [nm] by simp [toksOf]]
    simp [shapeM] at hs
    exact B rfl fun v hv => con_ne (conM_c hs.1.1.1) (M hv)
  · rw [show toksOf 4 nm n cs (ks.map toksX) = [nm] by simp [toksOf]]
    simp [shapeM] at hs
    exact B rfl fun v hv => name_ne (nameM_n hs.1.1.1) (M hv)
  · rw [show toksOf 5 nm n cs (ks.map toksX) = prefixT nm (ks.map toksX) by simp [toksOf]]; exact B rfl (D rfl)
  · rw [show toksOf 6 nm n cs (ks.map toksX) = infixT nm (ks.map toksX) by simp [toksOf]]; exact B rfl (D rfl)
  · rw [show toksOf 7 nm n cs (ks.map toksX) = choiceT (ks.map toksX) by simp [toksOf]]; exact B rfl (D rfl)
  · rw [show toksOf 8 nm n cs (ks.map toksX) = infixT fbyT (ks.map toksX) by simp [toksOf]]; exact B rfl (D rfl)
  · rw [show toksOf 9 nm n cs (ks.map toksX) = prefixT preT (ks.map toksX) by simp [toksOf]]; exact B rfl (D rfl)
  · rw [show toksOf 10 nm n cs (ks.map toksX) = infixT arrowT (ks.map toksX) by simp [toksOf]]; exact B rfl (D rfl)
  · rw [show toksOf 11 nm n cs (ks.map toksX) = whenT nm cs (ks.map toksX) by simp [toksOf]]; exact B rfl (D rfl)
  · rw [show toksOf 12 nm n cs (ks.map toksX) = armT mergeT nm cs (ks.map toksX) by simp [toksOf]]; exact B rfl (D rfl)
  · rw [show toksOf 13 nm n cs (ks.map toksX) = armT matchT nm cs (ks.map toksX) by simp [toksOf]]; exact B rfl (D rfl)
  · rw [show toksOf 14 nm n cs (ks.map toksX) = callT nm cs (ks.map toksX) by simp [toksOf]]
    simp [shapeM] at hs
    exact B rfl fun v hv => name_ne (nameM_n hs.1.1.1) (M hv)
  · rw [show toksOf 15 nm n cs (ks.map toksX) = infixT everyT (ks.map toksX) by simp [toksOf]]; exact B rfl (D rfl)
  · simp [shapeM, *] at hs
/-- expression x is read by the reader p, whatever stands behind it that opens no bracket -/
def Reads (p : List Tx → Option (Ex × List Tx)) (x : Ex) : Prop := ∀ r, Safe r → p (toksX x ++ r) = some (x, r)
theorem list_read {p : List Tx → Option (Ex × List Tx)} (r : List Tx) : ∀ (ks : List Ex) (n : Nat), ks ≠ [] → ks.length ≤ n → (∀ k ∈ ks, Reads p k) → pList p n (sepT [44] (ks.map toksX) ++ [41] :: r) = some (ks, r)
  | [], _, h, _, _ => absurd rfl h
  | _ :: _, 0, _, h, _ => by simp at h
  | [k], n + 1, _, _, hk => by
    have h1 := hk k (by simp) ([41] :: r) (.cons (by decide) (by decide))
    have e : sepT [44] (List.map toksX [k]) ++ [41] :: r = toksX k ++ [41] :: r := by simp [sepT]
    rw [pList, e, h1]
    simp
  | k :: k2 :: ks, n + 1, _, hn, hk => by
    have ih := list_read r (k2 :: ks) n (by simp) (by simpa using hn) (fun y hy => hk y (by simp at hy ⊢; exact .inr hy))
    have h1 := hk k (by simp) ([44] :: (sepT [44] ((k2 :: ks).map toksX) ++ [41] :: r)) (.cons (by decide) (by decide))
    have e : sepT [44] ((k :: k2 :: ks).map toksX) ++ [41] :: r = toksX k ++ [44] :: (sepT [44] ((k2 :: ks).map toksX) ++ [41] :: r) := by simp [sepT]
    rw [pList, e, h1]
    simp only [Option.bind_some, List.head?_cons, if_true, List.tail_cons, ih]
theorem names_read (r : List Tx) : ∀ (cs : List Tx) (n : Nat), cs ≠ [] → cs.length ≤ n → pNames n (namesT [44] cs ++ [93] :: r) = some (cs, r)
  | [], _, h, _ => absurd rfl h
  | _ :: _, 0, _, h => by simp at h
  | [c], n + 1, _, _ => by simp [pNames, namesT, sepT]
  | c :: c2 :: cs, n + 1, _, hn => by
    have ih := names_read r (c2 :: cs) n (by simp) (by simpa using hn)
    have e : namesT [44] (c :: c2 :: cs) ++ [93] :: r = c :: [44] :: (namesT [44] (c2 :: cs) ++ [93] :: r) := by simp [namesT, sepT]
    rw [pNames, e]
    simp only [List.tail_cons, List.head?_cons, if_true, ih, Option.bind_some, List.headD_cons]
theorem arms_read {p : List Tx → Option (Ex × List Tx)} (r : List Tx) : ∀ (cs : List Tx) (ks : List Ex) (n : Nat), ks ≠ [] → ks.length = cs.length → ks.length ≤ n → (∀ k ∈ ks, Reads p k) → pArms p n (sepT [124] (armsT cs (ks.map toksX)) ++ [41] :: r) = some (cs, ks, r)
  | _, [], _, h, _, _, _ => absurd rfl h
  | [], _ :: _, _, _, h, _, _ => by simp at h
  | _ :: _, _ :: _, 0, _, _, h, _ => by simp at h
  | [c], [k], n + 1, _, _, _, hk => by
    have h1 := hk k (by simp) ([41] :: r) (.cons (by decide) (by decide))
    have e : sepT [124] (armsT [c] (List.map toksX [k])) ++ [41] :: r = c :: [45, 62] :: (toksX k ++ [41] :: r) := by simp [armsT, sepT]
    rw [pArms, e]
    simp [h1]
  | c :: d :: cs, [k], _, _, h, _, _ => by simp at h
  | [c], k :: k2 :: ks, _, _, h, _, _ => by simp at h
  | c :: c2 :: cs, k :: k2 :: ks, n + 1, _, hl, hn, hk => by
    have ih := arms_read r (c2 :: cs) (k2 :: ks) n (by simp) (by simpa using hl) (by simpa using hn) (fun y hy => hk y (by simp at hy ⊢; exact .inr hy))
    have h1 := hk k (by simp) ([124] :: (sepT [124] (armsT (c2 :: cs) ((k2 :: ks).map toksX)) ++ [41] :: r)) (.cons (by decide) (by decide))
    have e : sepT [124] (armsT (c :: c2 :: cs) ((k :: k2 :: ks).map toksX)) ++ [41] :: r = c :: [45, 62] :: (toksX k ++ [124] :: (sepT [124] (armsT (c2 :: cs) ((k2 :: ks).map toksX)) ++ [41] :: r)) := by simp [armsT, sepT]
    rw [pArms, e]
    simp only [List.tail_cons, h1, Option.bind_some, List.head?_cons, if_true, ih, List.headD_cons]
end Go.Proofs.YthffigagnodnmaaGreatDoor
