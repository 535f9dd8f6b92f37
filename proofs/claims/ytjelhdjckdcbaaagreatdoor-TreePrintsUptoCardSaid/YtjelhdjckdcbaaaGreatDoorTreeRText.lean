/-
  Plain mathematics: the reference's texts, part by part, spell the same tokens.
-/
import Derived.Test.YtjelhdjckdcbaaaGreatDoorTreeWt
namespace Go.Proofs.YtjelhdjckdcbaaaGreatDoor

theorem spellL_one (t : Tx) : spellL [t] = t := by simp [spellL]
theorem spellL_cons {t : Tx} {r : List Tx} (h : r ≠ []) : spellL (t :: r) = t ++ 32 :: spellL r := by rw [spellL, if_neg h]
theorem spellL_app' {l m : List Tx} (hl : l ≠ []) (hm : m ≠ []) : spellL (l ++ m) = spellL l ++ (32 :: spellL m) := spellL_app hl hm
/-- texts with a sign between -/
def listL (sg : Tx) : List Tx → Tx
  | [] => []
  | x :: r => x ++ r.flatMap fun y => 32 :: (sg ++ 32 :: y)
theorem listL_snoc (sg : Tx) (l : List Tx) (x : Tx) : listL sg (l ++ [x]) = listL sg l ++ ((if l = [] then [] else 32 :: (sg ++ [32])) ++ x) := by
  cases l with
  | nil => simp [listL]
  | cons y r => simp [listL]
def padL (sg : Tx) (l : List Tx) : Tx := if l = [] then [] else 32 :: listL sg l
theorem listL_spell (sg : Tx) : ∀ (U : List (List Tx)), (∀ t ∈ U, t ≠ []) → listL sg (U.map spellL) = spellL (sepT sg U)
  | [], _ => rfl
  | x :: r, h => by
    have hx := h x (by simp)
    simp only [List.map_cons, listL, sepT]
    have : ∀ (r : List (List Tx)), (∀ t ∈ r, t ≠ []) → ∀ (x : List Tx), x ≠ [] → spellL (x ++ r.flatMap fun y => sg :: y) = spellL x ++ (r.map spellL).flatMap fun y => 32 :: (sg ++ 32 :: y) := by
      intro r
      induction r with
      | nil => intro _ x _; simp
      | cons y r ih =>
        intro h x hx
        have hy := h y (by simp)
        have := ih (fun t ht => h t (by simp [ht])) (x ++ sg :: y) (by simp)
        rw [List.append_assoc] at this
        simp only [List.flatMap_cons, List.map_cons]
        rw [this, spellL_app' hx (by simp), spellL_cons hy]
        simp
    rw [this r (fun t ht => h t (by simp [ht])) x hx]
theorem padL_spell (sg : Tx) {U : List (List Tx)} (h : ∀ t ∈ U, t ≠ []) : padL sg (U.map spellL) = if U = [] then [] else 32 :: spellL (sepT sg U) := by
  unfold padL
  rw [listL_spell sg U h]
  cases U <;> simp
theorem sepT_ne {sg : Tx} {U : List (List Tx)} (h : ∀ t ∈ U, t ≠ []) (hT : U ≠ []) : sepT sg U ≠ [] := by
  cases U with
  | nil => exact absurd rfl hT
  | cons x r => have := h x (by simp); simp [sepT, this]
theorem listL_names (sg : Tx) (l : List Tx) : listL sg l = spellL (namesT sg l) := by
  unfold namesT
  rw [← listL_spell sg _ (by simp), List.map_map]
  congr 1
  induction l with
  | nil => rfl
  | cons x r ih => simp [spellL_one, ← ih]
theorem namesT_ne {sg : Tx} {l : List Tx} (h : l ≠ []) : namesT sg l ≠ [] := by
  unfold namesT
  refine sepT_ne (by simp) (by simpa using h)
theorem padL_names (sg : Tx) (l : List Tx) : padL sg l = if l = [] then [] else 32 :: spellL (namesT sg l) := by
  unfold padL; rw [listL_names]
/-- a list of texts' parts behind what stands there -/
theorem spell_pad {a : Tx} {sg : Tx} {U : List (List Tx)} {m : List Tx} (h : ∀ t ∈ U, t ≠ []) (hm : m ≠ []) : spellL (a :: (sepT sg U ++ m)) = a ++ (padL sg (U.map spellL) ++ 32 :: spellL m) := by
  rw [spellL_cons (by simp [hm]), padL_spell sg h]
  by_cases hT : U = []
  · subst hT; simp [sepT]
  · rw [if_neg hT, spellL_app' (sepT_ne h hT) hm]; simp
theorem names_map (l : List Tx) : l = (l.map fun x => [x]).map spellL := by
  rw [List.map_map]
  induction l with
  | nil => rfl
  | cons x r ih => simp [spellL_one, ← ih]
theorem spell_padN {a : Tx} {sg : Tx} {l : List Tx} {m : List Tx} (hm : m ≠ []) : spellL (a :: (namesT sg l ++ m)) = a ++ (padL sg l ++ 32 :: spellL m) := by
  have := spell_pad (a := a) (sg := sg) (U := l.map fun x => [x]) (m := m) (by simp) hm
  rw [← names_map] at this
  exact this
def kS (K : List Tx) (i : Nat) : Tx := K.getD i [63]
theorem kS_map (U : List (List Tx)) (i : Nat) : kS (U.map spellL) i = spellL (kidT U i) := by
  unfold kS kidT
  rw [List.getD_eq_getElem?_getD, List.getD_eq_getElem?_getD, List.getElem?_map]
  cases U[i]? <;> simp [spellL_one]
theorem kidT_ne {U : List (List Tx)} (h : ∀ t ∈ U, t ≠ []) (i : Nat) : kidT U i ≠ [] := by
  unfold kidT
  rw [List.getD_eq_getElem?_getD]
  cases hi : U[i]? with
  | none => simp
  | some t => exact h t (List.mem_of_getElem? hi)
def armsS : List Tx → List Tx → List Tx
  | c :: cs, k :: ks => (c ++ [32, 45, 62, 32] ++ k) :: armsS cs ks
  | _, _ => []
theorem armsS_map : ∀ (cs : List Tx) (U : List (List Tx)), (∀ t ∈ U, t ≠ []) → armsS cs (U.map spellL) = (armsT cs U).map spellL
  | [], _, _ => by simp [armsS, armsT]
  | _ :: _, [], _ => by simp [armsS, armsT]
  | c :: cs, t :: U, h => by
    have ht := h t (by simp)
    simp only [List.map_cons, armsS, armsT, armsS_map cs U (fun t ht => h t (by simp [ht]))]
    rw [spellL_cons (by simp), spellL_cons ht]
    simp
theorem armsT_ne : ∀ (cs : List Tx) (U : List (List Tx)), ∀ t ∈ armsT cs U, t ≠ []
  | [], _, t, ht => by simp [armsT] at ht
  | _ :: _, [], t, ht => by simp [armsT] at ht
  | c :: cs, u :: U, t, ht => by
    simp only [armsT, List.mem_cons] at ht
    rcases ht with rfl | ht
    · simp
    · exact armsT_ne cs U t ht
theorem armsS_take : ∀ (cs K : List Tx) (i : Nat) (c k : Tx), cs[i]? = some c → K[i]? = some k → armsS (cs.take (i + 1)) (K.take (i + 1)) = armsS (cs.take i) (K.take i) ++ [c ++ [32, 45, 62, 32] ++ k]
  | [], _, _, _, _, h, _ => by simp at h
  | _ :: _, [], _, _, _, _, h => by simp at h
  | a :: cs, b :: K, 0, c, k, h1, h2 => by simp at h1 h2; subst h1 h2; simp [armsS]
  | a :: cs, b :: K, i + 1, c, k, h1, h2 => by
    have := armsS_take cs K i c k (by simpa using h1) (by simpa using h2)
    simp only [List.take_succ_cons, armsS, this, List.cons_append]
theorem armsS_over : ∀ (cs K : List Tx) (i : Nat), cs.length ≤ i ∨ K.length ≤ i → armsS (cs.take i) (K.take i) = armsS cs K
  | [], _, _, _ => by simp [armsS]
  | _ :: _, [], _, _ => by simp [armsS]
  | a :: cs, b :: K, 0, h => by simp at h
  | a :: cs, b :: K, i + 1, h => by
    simp only [List.take_succ_cons, armsS]
    rw [armsS_over cs K i (by simp at h; omega)]
/-- what the reference shows of an expression, from its kids' texts -/
def showS (op : Int) (nm : Tx) (n : Int) (cs : List Tx) (K : List Tx) : Tx :=
  if op = 1 then Lib.itoa n
  else if op = 2 then (if n = 1 then trueT else falseT)
  else if op = 3 then nm
  else if op = 4 then nm
  else if op = 5 then [40, 32] ++ nm ++ [32] ++ kS K 0 ++ [32, 41]
  else if op = 6 then [40, 32] ++ kS K 0 ++ [32] ++ nm ++ [32] ++ kS K 1 ++ [32, 41]
  else if op = 7 then [40, 32, 105, 102, 32] ++ kS K 0 ++ [32, 116, 104, 101, 110, 32] ++ kS K 1 ++ [32, 101, 108, 115, 101, 32] ++ kS K 2 ++ [32, 41]
  else if op = 8 then [40, 32] ++ kS K 0 ++ [32, 102, 98, 121, 32] ++ kS K 1 ++ [32, 41]
  else if op = 9 then [40, 32, 112, 114, 101, 32] ++ kS K 0 ++ [32, 41]
  else if op = 10 then [40, 32] ++ kS K 0 ++ [32, 45, 62, 32] ++ kS K 1 ++ [32, 41]
  else if op = 11 then [40, 32] ++ kS K 0 ++ [32, 119, 104, 101, 110] ++ padL [44] cs ++ [32, 40, 32] ++ nm ++ [32, 41, 32, 41]
  else if op = 12 then mergeT ++ [32] ++ nm ++ [32, 40] ++ padL [124] (armsS cs K) ++ [32, 41]
  else if op = 13 then matchT ++ [32] ++ nm ++ [32, 40] ++ padL [124] (armsS cs K) ++ [32, 41]
  else if op = 14 then (if cs = [] then nm else nm ++ ([32, 91, 32] ++ listL [44] cs ++ [32, 93])) ++ [32, 40] ++ padL [44] K ++ [32, 41]
  else if op = 15 then [40, 32] ++ kS K 0 ++ [32, 101, 118, 101, 114, 121, 32] ++ kS K 1 ++ [32, 41]
  else [63]
theorem spell_prefix {o : Tx} {U : List (List Tx)} (h : ∀ t ∈ U, t ≠ []) : spellL (prefixT o U) = [40, 32] ++ o ++ [32] ++ kS (U.map spellL) 0 ++ [32, 41] := by
  rw [kS_map, prefixT, spellL_cons (by simp), spellL_cons (by simp), spellL_app' (kidT_ne h 0) (by simp), spellL_one]
  simp
theorem spell_infix {o : Tx} {U : List (List Tx)} (h : ∀ t ∈ U, t ≠ []) : spellL (infixT o U) = [40, 32] ++ kS (U.map spellL) 0 ++ [32] ++ o ++ [32] ++ kS (U.map spellL) 1 ++ [32, 41] := by
  rw [kS_map, kS_map, infixT, spellL_cons (by simp), spellL_app' (kidT_ne h 0) (by simp), spellL_cons (by simp), spellL_app' (kidT_ne h 1) (by simp), spellL_one]
  simp
theorem spell_choice {U : List (List Tx)} (h : ∀ t ∈ U, t ≠ []) : spellL (choiceT U) = [40, 32, 105, 102, 32] ++ kS (U.map spellL) 0 ++ [32, 116, 104, 101, 110, 32] ++ kS (U.map spellL) 1 ++ [32, 101, 108, 115, 101, 32] ++ kS (U.map spellL) 2 ++ [32, 41] := by
  rw [kS_map, kS_map, kS_map, choiceT, spellL_cons (by simp), spellL_cons (by simp), spellL_app' (kidT_ne h 0) (by simp), spellL_cons (by simp), spellL_app' (kidT_ne h 1) (by simp), spellL_cons (by simp), spellL_app' (kidT_ne h 2) (by simp), spellL_one]
  simp
theorem spell_when {nm : Tx} {cs : List Tx} {U : List (List Tx)} (h : ∀ t ∈ U, t ≠ []) : spellL (whenT nm cs U) = [40, 32] ++ kS (U.map spellL) 0 ++ [32, 119, 104, 101, 110] ++ padL [44] cs ++ [32, 40, 32] ++ nm ++ [32, 41, 32, 41] := by
  rw [kS_map, whenT, spellL_cons (by simp), spellL_app' (kidT_ne h 0) (by simp), spell_padN (by simp), spellL_cons (by simp), spellL_cons (by simp), spellL_cons (by simp), spellL_one]
  simp
theorem spell_arm {w nm : Tx} {cs : List Tx} {U : List (List Tx)} (h : ∀ t ∈ U, t ≠ []) : spellL (armT w nm cs U) = w ++ [32] ++ nm ++ [32, 40] ++ padL [124] (armsS cs (U.map spellL)) ++ [32, 41] := by
  rw [armsS_map cs U h, armT, spellL_cons (by simp), spellL_cons (by simp), spell_pad (armsT_ne cs U) (by simp), spellL_one]
  simp
theorem spell_call {nm : Tx} {cs : List Tx} {U : List (List Tx)} (h : ∀ t ∈ U, t ≠ []) : spellL (callT nm cs U) = (if cs = [] then nm else nm ++ ([32, 91, 32] ++ listL [44] cs ++ [32, 93])) ++ [32, 40] ++ padL [44] (U.map spellL) ++ [32, 41] := by
  rw [callT, staticsT]
  by_cases hc : cs = []
  · rw [if_pos hc, if_pos hc, spellL_cons (by simp), List.nil_append, spell_pad h (by simp), spellL_one]
    simp
  · rw [if_neg hc, if_neg hc, spellL_cons (by simp), List.cons_append, spellL_cons (by simp), List.append_assoc, spellL_app' (namesT_ne hc) (by simp), listL_names, show [[93]] ++ [40] :: (sepT [44] U ++ [[41]]) = ([93] : Tx) :: [40] :: (sepT [44] U ++ [[41]]) from rfl, spellL_cons (by simp), spell_pad h (by simp), spellL_one]
    simp
theorem op_cases' (op : Int) : op = 1 ∨ op = 2 ∨ op = 3 ∨ op = 4 ∨ op = 5 ∨ op = 6 ∨ op = 7 ∨ op = 8 ∨ op = 9 ∨ op = 10 ∨ op = 11 ∨ op = 12 ∨ op = 13 ∨ op = 14 ∨ op = 15 ∨ (op ≠ 1 ∧ op ≠ 2 ∧ op ≠ 3 ∧ op ≠ 4 ∧ op ≠ 5 ∧ op ≠ 6 ∧ op ≠ 7 ∧ op ≠ 8 ∧ op ≠ 9 ∧ op ≠ 10 ∧ op ≠ 11 ∧ op ≠ 12 ∧ op ≠ 13 ∧ op ≠ 14 ∧ op ≠ 15) := by omega
theorem showS_eq (op : Int) (nm : Tx) (n : Int) (cs : List Tx) {U : List (List Tx)} (h : ∀ t ∈ U, t ≠ []) : showS op nm n cs (U.map spellL) = spellL (toksOf op nm n cs U) := by
  rcases op_cases' op with rfl | rfl | rfl | rfl | rfl | rfl | rfl | rfl | rfl | rfl | rfl | rfl | rfl | rfl | rfl | ⟨h1, h2, h3, h4, h5, h6, h7, h8, h9, h10, h11, h12, h13, h14, h15⟩
  · simp only [showS, toksOf, if_true]; rw [spellL_one]
  · simp only [showS, toksOf, Int.reduceEq, if_true, if_false]; rw [spellL_one]
  · simp only [showS, toksOf, Int.reduceEq, if_true, if_false]; rw [spellL_one]
  · simp only [showS, toksOf, Int.reduceEq, if_true, if_false]; rw [spellL_one]
  · simp only [showS, toksOf, Int.reduceEq, if_true, if_false]; rw [spell_prefix h]
  · simp only [showS, toksOf, Int.reduceEq, if_true, if_false]; rw [spell_infix h]
  · simp only [showS, toksOf, Int.reduceEq, if_true, if_false]; rw [spell_choice h]
  · simp only [showS, toksOf, Int.reduceEq, if_true, if_false]; rw [spell_infix h]; simp [fbyT]
  · simp only [showS, toksOf, Int.reduceEq, if_true, if_false]; rw [spell_prefix h]; simp [preT]
  · simp only [showS, toksOf, Int.reduceEq, if_true, if_false]; rw [spell_infix h]; simp [arrowT]
  · simp only [showS, toksOf, Int.reduceEq, if_true, if_false]; rw [spell_when h]
  · simp only [showS, toksOf, Int.reduceEq, if_true, if_false]; rw [spell_arm h]
  · simp only [showS, toksOf, Int.reduceEq, if_true, if_false]; rw [spell_arm h]
  · simp only [showS, toksOf, Int.reduceEq, if_true, if_false]; rw [spell_call h]
  · simp only [showS, toksOf, Int.reduceEq, if_true, if_false]; rw [spell_infix h]; simp [everyT]
  · simp only [showS, toksOf, h1, h2, h3, h4, h5, h6, h7, h8, h9, h10, h11, h12, h13, h14, h15, if_false]; rw [spellL_one]
theorem showS_X (op : Int) (nm : Tx) (n : Int) (cs : List Tx) (ks : List Ex) : showS op nm n cs (ks.map fun k => spellL (toksX k)) = spellL (toksX (.mk op nm n cs ks)) := by
  rw [toksX_mk, ← showS_eq op nm n cs (U := ks.map toksX) (by intro t ht; obtain ⟨k, _, rfl⟩ := List.mem_map.1 ht; exact toksX_ne k), List.map_map]
  rfl
/- A node's, an item's, a program's. -/
def namesS (l : List Tx) : Tx := [40] ++ padL [44] l ++ [32, 41]
def eqS (q : QEq) : Tx := (match q.names with | [x] => x | l => namesS l) ++ [32, 61, 32] ++ spellL (toksX q.e) ++ [32, 59]
theorem namesS_spell (l m : List Tx) : spellL ([40] :: (namesT [44] l ++ [41] :: m)) = namesS l ++ (if m = [] then [] else 32 :: spellL m) := by
  rw [spell_padN (by simp)]
  by_cases hm : m = []
  · subst hm; simp [namesS, spellL_one]
  · rw [if_neg hm, spellL_cons hm]; simp [namesS]
theorem eqS_spell (q : QEq) : eqS q = spellL (eqT q) := by
  obtain ⟨l, e⟩ := q
  have htl : spellL ([61] :: (toksX e ++ [[59]])) = [61, 32] ++ spellL (toksX e) ++ [32, 59] := by
    rw [spellL_cons (by simp), spellL_app' (toksX_ne _) (by simp), spellL_one]; simp
  have hmany : ∀ l : List Tx, namesS l ++ [32, 61, 32] ++ spellL (toksX e) ++ [32, 59] = spellL ([40] :: (namesT [44] l ++ [[41]]) ++ [61] :: (toksX e ++ [[59]])) := by
    intro l
    have e2 : ([40] : Tx) :: (namesT [44] l ++ [[41]]) ++ [61] :: (toksX e ++ [[59]]) = [40] :: (namesT [44] l ++ [41] :: [61] :: (toksX e ++ [[59]])) := by simp
    rw [e2, namesS_spell, if_neg (by simp), htl]
    simp
  match l with
  | [] => exact hmany []
  | [x] =>
    show x ++ [32, 61, 32] ++ spellL (toksX e) ++ [32, 59] = spellL (x :: [61] :: (toksX e ++ [[59]]))
    rw [spellL_cons (by simp), htl]
    simp
  | x :: y :: r => exact hmany (x :: y :: r)
theorem eqT_ne (q : QEq) : eqT q ≠ [] := by
  unfold eqT; simp
def wayS (y : QWay) : Tx := [32, 117, 110, 116, 105, 108, 32] ++ spellL (toksX y.cond) ++ [32, 116, 104, 101, 110, 32] ++ y.to ++ [32, 59]
theorem wayS_spell (y : QWay) : wayS y = 32 :: spellL (wayT y) := by
  unfold wayS wayT
  rw [spellL_cons (by simp), spellL_app' (toksX_ne _) (by simp), spellL_cons (by simp), spellL_cons (by simp), spellL_one]
  simp
/-- texts, each behind a blank -/
def blankL (l : List Tx) : Tx := l.flatMap fun x => 32 :: x
theorem blankL_snoc (l : List Tx) (x : Tx) : blankL (l ++ [x]) = blankL l ++ 32 :: x := by simp [blankL]
theorem spell_flat {X : Type} (f : X → List Tx) : ∀ (l : List X) (a : List Tx), (∀ x ∈ l, f x ≠ []) → a ≠ [] → spellL (a ++ l.flatMap f) = spellL a ++ blankL (l.map fun x => spellL (f x))
  | [], a, _, _ => by simp [blankL]
  | x :: r, a, h, ha => by
    have hx := h x (by simp)
    rw [List.flatMap_cons, ← List.append_assoc, spell_flat f r (a ++ f x) (fun y hy => h y (by simp [hy])) (by simp [ha]), spellL_app' ha hx]
    simp [blankL]
def stateS (s : QState) : Tx := [32, 115, 116, 97, 116, 101, 32] ++ s.name ++ [32, 58] ++ blankL (s.eqs.map eqS) ++ (s.ways.map wayS).flatten
theorem stateT_ne (s : QState) : stateT s ≠ [] := by simp [stateT]
theorem wayT_ne (y : QWay) : wayT y ≠ [] := by simp [wayT]
theorem stateS_spell (s : QState) : stateS s = 32 :: spellL (stateT s) := by
  unfold stateS stateT
  have e : ([115, 116, 97, 116, 101] : Tx) :: s.name :: [58] :: (s.eqs.flatMap eqT ++ s.ways.flatMap wayT) = ([[115, 116, 97, 116, 101], s.name, [58]] ++ s.eqs.flatMap eqT) ++ s.ways.flatMap wayT := by simp
  rw [e, spell_flat wayT _ _ (fun y _ => wayT_ne y) (by simp), spell_flat eqT _ _ (fun q _ => eqT_ne q) (by simp)]
  rw [spellL_cons (by simp), spellL_cons (by simp), spellL_one]
  have h1 : (s.eqs.map eqS) = s.eqs.map fun q => spellL (eqT q) := by congr 1; funext q; exact eqS_spell q
  have h2 : (s.ways.map wayS).flatten = blankL (s.ways.map fun y => spellL (wayT y)) := by
    simp only [blankL, List.flatMap_map, ← List.flatMap_def]
    congr 1; funext y; exact wayS_spell y
  rw [h1, h2]
  simp
def itemS (i : QItem) : Tx := if i.states = [] then eqS i.eq else [97, 117, 116, 111, 109, 97, 116, 111, 110] ++ (i.states.map stateS).flatten ++ [32, 101, 110, 100, 32, 59]
theorem itemT_ne (i : QItem) : itemT i ≠ [] := by
  unfold itemT
  split
  · exact eqT_ne _
  · simp
theorem itemS_spell (i : QItem) : itemS i = spellL (itemT i) := by
  unfold itemS itemT
  by_cases h : i.states = []
  · rw [if_pos h, if_pos h]; exact eqS_spell _
  · rw [if_neg h, if_neg h]
    have e : ([97, 117, 116, 111, 109, 97, 116, 111, 110] : Tx) :: (i.states.flatMap stateT ++ [[101, 110, 100], [59]]) = ([[97, 117, 116, 111, 109, 97, 116, 111, 110]] ++ i.states.flatMap stateT) ++ [[101, 110, 100], [59]] := by simp
    rw [e, spellL_app' (by simp) (by simp), spell_flat stateT _ _ (fun s _ => stateT_ne s) (by simp), spellL_one, spellL_cons (by simp), spellL_one]
    have h2 : (i.states.map stateS).flatten = blankL (i.states.map fun y => spellL (stateT y)) := by
      simp only [blankL, List.flatMap_map, ← List.flatMap_def]
      congr 1; funext y; exact stateS_spell y
    rw [h2]
    simp
def enumS (e : QEnum) : Tx := [116, 121, 112, 101, 32] ++ e.name ++ [32, 61, 32] ++ listL [124] e.cons ++ [32, 59]
def headS (n : QNode) : Tx := if n.funs = [] then [110, 111, 100, 101, 32] ++ n.name else ([110, 111, 100, 101, 32] ++ n.name) ++ ([32, 91, 32] ++ listL [44] n.funs ++ [32, 93])
def nodeS (n : QNode) : Tx := headS n ++ ([32] ++ namesS n.ins ++ [32, 61, 32] ++ namesS n.outs ++ [32, 119, 104, 101, 114, 101]) ++ blankL (n.items.map itemS) ++ [32, 101, 110, 100]
theorem nodeS_spell (n : QNode) : nodeS n = spellL (nodeT n) := by
  unfold nodeS nodeT
  have hit : ∀ m : List Tx, m ≠ [] → spellL (m ++ n.items.flatMap itemT) = spellL m ++ blankL (n.items.map itemS) := by
    intro m hm
    rw [spell_flat itemT _ _ (fun i _ => itemT_ne i) hm]
    congr 3; funext i; exact (itemS_spell i).symm
  have htail : ∀ a : List Tx, a ≠ [] → spellL (a ++ ([40] :: (namesT [44] n.ins ++ [41] :: [61] :: [40] :: (namesT [44] n.outs ++ [41] :: [119, 104, 101, 114, 101] :: (n.items.flatMap itemT ++ [[101, 110, 100]]))))) = spellL a ++ ([32] ++ namesS n.ins ++ [32, 61, 32] ++ namesS n.outs ++ [32, 119, 104, 101, 114, 101]) ++ blankL (n.items.map itemS) ++ [32, 101, 110, 100] := by
    intro a ha
    have e : a ++ ([40] :: (namesT [44] n.ins ++ [41] :: [61] :: [40] :: (namesT [44] n.outs ++ [41] :: [119, 104, 101, 114, 101] :: (n.items.flatMap itemT ++ [[101, 110, 100]])))) = ((a ++ ([40] :: (namesT [44] n.ins ++ [41] :: [61] :: [40] :: (namesT [44] n.outs ++ [41] :: [[119, 104, 101, 114, 101]])))) ++ n.items.flatMap itemT) ++ [[101, 110, 100]] := by simp
    rw [e, spellL_app' (by simp) (by simp), hit _ (by simp), spellL_app' ha (by simp), namesS_spell, if_neg (by simp), spellL_cons (by simp), namesS_spell, if_neg (by simp), spellL_one, spellL_one]
    simp
  unfold headS staticsT
  by_cases hf : n.funs = []
  · rw [if_pos hf, if_pos hf]
    have := htail [[110, 111, 100, 101], n.name] (by simp)
    rw [spellL_cons (by simp), spellL_one] at this
    rw [List.nil_append]
    refine Eq.trans ?_ this.symm
    simp
  · rw [if_neg hf, if_neg hf]
    have := htail ([110, 111, 100, 101] :: n.name :: [91] :: (namesT [44] n.funs ++ [[93]])) (by simp)
    rw [spellL_cons (by simp), spellL_cons (by simp), spellL_cons (by simp), spellL_app' (namesT_ne hf) (by simp), spellL_one, ← listL_names] at this
    refine Eq.trans ?_ (Eq.trans this.symm ?_)
    · simp
    · simp
theorem enumS_spell (e : QEnum) (h : e.cons ≠ []) : enumS e = spellL (enumT e) := by
  unfold enumS enumT
  rw [spellL_cons (by simp), spellL_cons (by simp), spellL_cons (by simp [namesT_ne h]), spellL_app' (namesT_ne h) (by simp), spellL_one, listL_names]
  simp
/-- the parts of a program's text -/
def progL (p : QProg) : List Tx := p.enums.map enumS ++ p.nodes.map nodeS
def joinB : List Tx → Tx
  | [] => []
  | x :: r => x ++ blankL r
theorem joinB_snoc (l : List Tx) (x : Tx) : joinB (l ++ [x]) = joinB l ++ ((if l = [] then [] else [32]) ++ x) := by
  cases l with
  | nil => simp [joinB, blankL]
  | cons y r => simp [joinB, blankL]
theorem nodeT_ne (n : QNode) : nodeT n ≠ [] := by simp [nodeT]
theorem enumT_ne (e : QEnum) : enumT e ≠ [] := by simp [enumT]
theorem joinB_spell : ∀ (l : List (List Tx)), (∀ t ∈ l, t ≠ []) → joinB (l.map spellL) = spellL l.flatten
  | [], _ => rfl
  | x :: r, h => by
    have hx := h x (by simp)
    have := spell_flat (fun t : List Tx => t) r x (fun t ht => h t (by simp [ht])) hx
    rw [List.map_cons, joinB, List.flatten_cons]
    rw [← this]
    simp [List.flatMap_def]
theorem progL_spell (p : QProg) (h : ∀ e ∈ p.enums, e.cons ≠ []) : joinB (progL p) = spellL (progT p) := by
  have e1 : progL p = (p.enums.map enumT ++ p.nodes.map nodeT).map spellL := by
    unfold progL
    rw [List.map_append, List.map_map, List.map_map]
    congr 1
    · exact List.map_congr_left fun e he => enumS_spell e (h e he)
    · exact List.map_congr_left fun n _ => nodeS_spell n
  rw [e1, joinB_spell]
  · simp [progT, List.flatMap_def]
  · intro t ht
    rcases List.mem_append.1 ht with ht | ht
    · obtain ⟨e, _, rfl⟩ := List.mem_map.1 ht; exact enumT_ne e
    · obtain ⟨n, _, rfl⟩ := List.mem_map.1 ht; exact nodeT_ne n
end Go.Proofs.YtjelhdjckdcbaaaGreatDoor
