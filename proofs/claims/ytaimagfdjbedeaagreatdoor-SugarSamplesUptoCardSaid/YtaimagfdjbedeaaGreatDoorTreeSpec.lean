/-
  Plain mathematics of trees: expressions and programs as data, their sizes, depths, texts, and which may be. Nothing of the program stands here.
-/
import Derived.Test.YtaimagfdjbedeaaGreatDoorSpec
import Derived.Lib.ItoaNum
namespace Go.Proofs.YtaimagfdjbedeaaGreatDoor
open Go.RowKit (wrap64)

abbrev Tx := List UInt8
/-- an expression -/
inductive Ex where
  | mk (op : Int) (name : Tx) (n : Int) (cons : List Tx) (kids : List Ex)
def Ex.op : Ex → Int | .mk o _ _ _ _ => o
def Ex.kids : Ex → List Ex | .mk _ _ _ _ k => k
structure QEq where
  names : List Tx
  e : Ex
structure QWay where
  cond : Ex
  to : Tx
structure QState where
  name : Tx
  eqs : List QEq
  ways : List QWay
structure QItem where
  eq : QEq
  states : List QState
structure QEnum where
  name : Tx
  cons : List Tx
structure QNode where
  name : Tx
  funs : List Tx
  ins : List Tx
  outs : List Tx
  items : List QItem
structure QProg where
  enums : List QEnum
  nodes : List QNode

theorem Ex.ind {P : Ex → Prop} (h : ∀ op nm n cs ks, (∀ k ∈ ks, P k) → P (.mk op nm n cs ks)) : ∀ x, P x
  | .mk op nm n cs ks => h op nm n cs ks fun k _ => Ex.ind h k
termination_by x => SizeOf.sizeOf x
decreasing_by
  have := List.sizeOf_lt_of_mem ‹k ∈ ks›
  simp
  omega

/- Sizes and depths, as 64-bit sums. -/
mutual
def sizeW : Ex → Int
  | .mk _ _ _ _ ks => sizeF 1 ks
def sizeF : Int → List Ex → Int
  | n, [] => n
  | n, k :: r => sizeF (wrap64 (n + sizeW k)) r
end
mutual
def depthW : Ex → Int
  | .mk _ _ _ _ ks => wrap64 (depthF 0 ks + 1)
def depthF : Int → List Ex → Int
  | n, [] => n
  | n, k :: r => depthF (max n (depthW k)) r
end
theorem sizeF_app (l m : List Ex) : ∀ n, sizeF n (l ++ m) = sizeF (sizeF n l) m := by
  induction l with
  | nil => intro n; simp [sizeF]
  | cons k r ih => intro n; simp [sizeF, ih]
theorem sizeF_snoc (n : Int) (l : List Ex) (k : Ex) : sizeF n (l ++ [k]) = wrap64 (sizeF n l + sizeW k) := by
  rw [sizeF_app]; simp [sizeF]
theorem depthF_app (l m : List Ex) : ∀ n, depthF n (l ++ m) = depthF (depthF n l) m := by
  induction l with
  | nil => intro n; simp [depthF]
  | cons k r ih => intro n; simp [depthF, ih]
theorem depthF_snoc (n : Int) (l : List Ex) (k : Ex) : depthF n (l ++ [k]) = max (depthF n l) (depthW k) := by
  rw [depthF_app]; simp [depthF]

/- Which are the same. -/
mutual
def sameX : Ex → Ex → Bool
  | .mk o a n c k, .mk o' a' n' c' k' => o == o' && a == a' && n == n' && c == c' && sameXs k k'
def sameXs : List Ex → List Ex → Bool
  | [], [] => true
  | [], _ :: _ => false
  | _ :: _, [] => false
  | x :: r, y :: s => sameX x y && sameXs r s
end
theorem sameX_iff : ∀ x y, sameX x y = true ↔ x = y := by
  intro x
  induction x using Ex.ind with
  | h o a n c ks ih =>
    rintro ⟨o', a', n', c', ks'⟩
    have hl : ∀ (l : List Ex), (∀ k ∈ l, ∀ y, sameX k y = true ↔ k = y) → ∀ l', sameXs l l' = true ↔ l = l' := by
      intro l
      induction l with
      | nil => intro _ l'; cases l' <;> simp [sameXs]
      | cons x r ih2 =>
        intro hk l'
        cases l' with
        | nil => simp [sameXs]
        | cons y s => simp [sameXs, hk x (by simp), ih2 (fun k hk' => hk k (by simp [hk']))]
    have := hl ks ih ks'
    simp [sameX, this, and_assoc]
theorem sameXs_iff (l l' : List Ex) : sameXs l l' = true ↔ l = l' := by
  induction l generalizing l' with
  | nil => cases l' <;> simp [sameXs]
  | cons x r ih => cases l' <;> simp [sameXs, ih, sameX_iff]
/-- two lists, element by element -/
def sameBy {X : Type} (f : X → X → Bool) : List X → List X → Bool
  | [], [] => true
  | [], _ :: _ => false
  | _ :: _, [] => false
  | x :: r, y :: s => f x y && sameBy f r s
theorem sameBy_iff {X : Type} {f : X → X → Bool} (hf : ∀ x y, f x y = true ↔ x = y) (l l' : List X) : sameBy f l l' = true ↔ l = l' := by
  induction l generalizing l' with
  | nil => cases l' <;> simp [sameBy]
  | cons x r ih => cases l' <;> simp [sameBy, ih, hf]
theorem sameXs_by (l l' : List Ex) : sameXs l l' = sameBy sameX l l' := by
  induction l generalizing l' with
  | nil => cases l' <;> simp [sameXs, sameBy]
  | cons x r ih => cases l' <;> simp [sameXs, sameBy, ih]
theorem sameBy_len {X : Type} {f : X → X → Bool} {l l' : List X} (h : l.length ≠ l'.length) : sameBy f l l' = false := by
  induction l generalizing l' with
  | nil => cases l' <;> simp_all [sameBy]
  | cons x r ih =>
    cases l' with
    | nil => simp [sameBy]
    | cons y s =>
      have : sameBy f r s = false := ih (fun e => h (by simp [e]))
      simp [sameBy, this]
theorem sameBy_all {X : Type} {f : X → X → Bool} {l l' : List X} (hl : l.length = l'.length) (h : ∀ (i : Nat) x y, l[i]? = some x → l'[i]? = some y → f x y = true) : sameBy f l l' = true := by
  induction l generalizing l' with
  | nil => cases l' <;> simp_all [sameBy]
  | cons x r ih =>
    cases l' with
    | nil => simp at hl
    | cons y s => simp only [sameBy, h 0 x y rfl rfl, Bool.true_and]; exact ih (by simpa using hl) (fun i a b ha hb => h (i + 1) a b ha hb)
theorem sameBy_no {X : Type} {f : X → X → Bool} {l l' : List X} {i : Nat} {x y : X} (hx : l[i]? = some x) (hy : l'[i]? = some y) (h : f x y = false) : sameBy f l l' = false := by
  induction l generalizing l' i with
  | nil => simp at hx
  | cons a r ih =>
    cases l' with
    | nil => simp at hy
    | cons b s =>
      cases i with
      | zero => simp at hx hy; subst hx hy; simp [sameBy, h]
      | succ i => simp at hx hy; simp [sameBy, ih hx hy]
def sameQEq (a b : QEq) : Bool := a.names == b.names && sameX a.e b.e
def sameQWay (a b : QWay) : Bool := a.to == b.to && sameX a.cond b.cond
def sameQState (a b : QState) : Bool := a.name == b.name && (sameBy sameQEq a.eqs b.eqs && sameBy sameQWay a.ways b.ways)
def sameQItem (a b : QItem) : Bool := sameQEq a.eq b.eq && sameBy sameQState a.states b.states
def sameQEnum (a b : QEnum) : Bool := a.name == b.name && a.cons == b.cons
def sameQNode (a b : QNode) : Bool := a.name == b.name && (a.funs == b.funs && (a.ins == b.ins && (a.outs == b.outs && sameBy sameQItem a.items b.items)))
def sameQProg (a b : QProg) : Bool := sameBy sameQEnum a.enums b.enums && sameBy sameQNode a.nodes b.nodes
theorem sameQEq_iff (a b : QEq) : sameQEq a b = true ↔ a = b := by cases a; cases b; simp [sameQEq, sameX_iff]
theorem sameQWay_iff (a b : QWay) : sameQWay a b = true ↔ a = b := by cases a; cases b; simp [sameQWay, sameX_iff, and_comm]
theorem sameQState_iff (a b : QState) : sameQState a b = true ↔ a = b := by cases a; cases b; simp [sameQState, sameBy_iff sameQEq_iff, sameBy_iff sameQWay_iff]
theorem sameQItem_iff (a b : QItem) : sameQItem a b = true ↔ a = b := by cases a; cases b; simp [sameQItem, sameQEq_iff, sameBy_iff sameQState_iff]
theorem sameQEnum_iff (a b : QEnum) : sameQEnum a b = true ↔ a = b := by cases a; cases b; simp [sameQEnum]
theorem sameQNode_iff (a b : QNode) : sameQNode a b = true ↔ a = b := by cases a; cases b; simp [sameQNode, sameBy_iff sameQItem_iff]
theorem sameQProg_iff (a b : QProg) : sameQProg a b = true ↔ a = b := by cases a; cases b; simp [sameQProg, sameBy_iff sameQEnum_iff, sameBy_iff sameQNode_iff]

/- The tokens of a text. -/
def sepT (s : Tx) : List (List Tx) → List Tx
  | [] => []
  | x :: r => x ++ r.flatMap fun y => s :: y
theorem sepT_snoc (s : Tx) (l : List (List Tx)) (x : List Tx) : sepT s (l ++ [x]) = sepT s l ++ ((if l = [] then [] else [s]) ++ x) := by
  cases l with
  | nil => simp [sepT]
  | cons y r => simp [sepT]
def namesT (s : Tx) (l : List Tx) : List Tx := sepT s (l.map fun x => [x])
def staticsT (l : List Tx) : List Tx := if l = [] then [] else [91] :: (namesT [44] l ++ [[93]])
def kidT (T : List (List Tx)) (i : Nat) : List Tx := T.getD i [[63]]
def armsT : List Tx → List (List Tx) → List (List Tx)
  | c :: cs, t :: ts => (c :: [45, 62] :: t) :: armsT cs ts
  | _, _ => []
def prefixT (o : Tx) (T : List (List Tx)) : List Tx := [40] :: o :: (kidT T 0 ++ [[41]])
def infixT (o : Tx) (T : List (List Tx)) : List Tx := [40] :: (kidT T 0 ++ o :: (kidT T 1 ++ [[41]]))
def choiceT (T : List (List Tx)) : List Tx := [40] :: [105, 102] :: (kidT T 0 ++ [116, 104, 101, 110] :: (kidT T 1 ++ [101, 108, 115, 101] :: (kidT T 2 ++ [[41]])))
def whenT (nm : Tx) (cs : List Tx) (T : List (List Tx)) : List Tx := [40] :: (kidT T 0 ++ [119, 104, 101, 110] :: (namesT [44] cs ++ [[40], nm, [41], [41]]))
def armT (word nm : Tx) (cs : List Tx) (T : List (List Tx)) : List Tx := word :: nm :: [40] :: (sepT [124] (armsT cs T) ++ [[41]])
def callT (nm : Tx) (cs : List Tx) (T : List (List Tx)) : List Tx := nm :: (staticsT cs ++ [40] :: (sepT [44] T ++ [[41]]))
def trueT : Tx := [116, 114, 117, 101]
def falseT : Tx := [102, 97, 108, 115, 101]
def fbyT : Tx := [102, 98, 121]
def preT : Tx := [112, 114, 101]
def arrowT : Tx := [45, 62]
def mergeT : Tx := [109, 101, 114, 103, 101]
def matchT : Tx := [109, 97, 116, 99, 104]
def everyT : Tx := [101, 118, 101, 114, 121]
def toksOf (op : Int) (nm : Tx) (n : Int) (cs : List Tx) (T : List (List Tx)) : List Tx :=
  if op = 1 then [Lib.itoa n]
  else if op = 2 then [if n = 1 then trueT else falseT]
  else if op = 3 then [nm]
  else if op = 4 then [nm]
  else if op = 5 then prefixT nm T
  else if op = 6 then infixT nm T
  else if op = 7 then choiceT T
  else if op = 8 then infixT fbyT T
  else if op = 9 then prefixT preT T
  else if op = 10 then infixT arrowT T
  else if op = 11 then whenT nm cs T
  else if op = 12 then armT mergeT nm cs T
  else if op = 13 then armT matchT nm cs T
  else if op = 14 then callT nm cs T
  else if op = 15 then infixT everyT T
  else [[63]]
mutual
def toksX : Ex → List Tx
  | .mk op nm n cs ks => toksOf op nm n cs (toksXs ks)
def toksXs : List Ex → List (List Tx)
  | [] => []
  | k :: r => toksX k :: toksXs r
end
theorem toksXs_map (l : List Ex) : toksXs l = l.map toksX := by
  induction l with
  | nil => rfl
  | cons k r ih => simp [toksXs, ih]
theorem toksX_mk (op : Int) (nm : Tx) (n : Int) (cs : List Tx) (ks : List Ex) : toksX (.mk op nm n cs ks) = toksOf op nm n cs (ks.map toksX) := by rw [toksX, toksXs_map]
def eqT (q : QEq) : List Tx := (match q.names with | [x] => [x] | l => [40] :: (namesT [44] l ++ [[41]])) ++ [61] :: (toksX q.e ++ [[59]])
def wayT (y : QWay) : List Tx := [117, 110, 116, 105, 108] :: (toksX y.cond ++ [[116, 104, 101, 110], y.to, [59]])
def stateT (s : QState) : List Tx := [115, 116, 97, 116, 101] :: s.name :: [58] :: (s.eqs.flatMap eqT ++ s.ways.flatMap wayT)
def itemT (i : QItem) : List Tx := if i.states = [] then eqT i.eq else [97, 117, 116, 111, 109, 97, 116, 111, 110] :: (i.states.flatMap stateT ++ [[101, 110, 100], [59]])
def enumT (e : QEnum) : List Tx := [116, 121, 112, 101] :: e.name :: [61] :: (namesT [124] e.cons ++ [[59]])
def nodeT (n : QNode) : List Tx := [110, 111, 100, 101] :: n.name :: (staticsT n.funs ++ [40] :: (namesT [44] n.ins ++ [41] :: [61] :: [40] :: (namesT [44] n.outs ++ [41] :: [119, 104, 101, 114, 101] :: (n.items.flatMap itemT ++ [[101, 110, 100]]))))
def progT (p : QProg) : List Tx := p.enums.flatMap enumT ++ p.nodes.flatMap nodeT

/-- what putting tokens lays behind what is there; g: something is there -/
def putL : Bool → List Tx → Tx
  | _, [] => []
  | false, t :: r => t ++ putL true r
  | true, t :: r => 32 :: (t ++ putL true r)
theorem putL_app (l m : List Tx) : ∀ g, putL g (l ++ m) = putL g l ++ putL (g || !l.isEmpty) m := by
  induction l with
  | nil => intro g; simp [putL]
  | cons t r ih => intro g; cases g <;> simp [putL, ih]
theorem putL_spell (l : List Tx) : putL true l = if l = [] then [] else 32 :: spellL l := by
  induction l with
  | nil => rfl
  | cons t r ih => simp only [putL, spellL, ih]; simp
theorem putL_false (l : List Tx) : putL false l = spellL l := by
  cases l with
  | nil => rfl
  | cons t r => simp only [putL, spellL, putL_spell]
theorem spellL_app {l m : List Tx} (hl : l ≠ []) (hm : m ≠ []) : spellL (l ++ m) = spellL l ++ 32 :: spellL m := by
  have e : l.isEmpty = false := by cases l <;> simp_all
  rw [← putL_false, putL_app, putL_false, e, Bool.not_false, Bool.or_true, putL_spell, if_neg hm]
theorem ite_ne {X : Type} {c : Prop} [Decidable c] {a b z : X} (ha : a ≠ z) (hb : b ≠ z) : (if c then a else b) ≠ z := by split <;> assumption
theorem toksOf_ne (op : Int) (nm : Tx) (n : Int) (cs : List Tx) (T : List (List Tx)) : toksOf op nm n cs T ≠ [] := by
  unfold toksOf
  repeat' apply ite_ne
  all_goals simp [prefixT, infixT, choiceT, whenT, armT, callT]
theorem toksX_ne (x : Ex) : toksX x ≠ [] := by
  obtain ⟨op, nm, n, cs, ks⟩ := x
  rw [toksX]
  exact toksOf_ne op nm n cs _

/- Which may be. -/
def ungenL (made : Bool) (l : Tx) : Tx := if made && [95].isPrefixOf l then l.drop 1 else l
def nameM (made : Bool) (l : Tx) : Bool := nameB (ungenL made l)
def conM (made : Bool) (l : Tx) : Bool := conB (ungenL made l)
def allM {X : Type} (l : List X) (least most : Nat) (f : X → Bool) : Bool := decide (least ≤ l.length) && decide (l.length ≤ most) && l.all f
def binsL : List Tx := [[43], [45], [42], [47], [37], [60], [60, 61], [61], [60, 62], [97, 110, 100], [111, 114]]
/-- the fields of an expression -/
def shapeM (made : Bool) (op : Int) (nm : Tx) (n : Int) (cs : List Tx) (ks : List Ex) : Bool :=
  if op = 1 then nm == [] && decide (0 ≤ n) && cs.isEmpty && ks.isEmpty
  else if op = 2 then nm == [] && (decide (0 ≤ n) && decide (n ≤ 1)) && cs.isEmpty && ks.isEmpty
  else if op = 3 then conM made nm && n == 0 && cs.isEmpty && ks.isEmpty
  else if op = 4 then nameM made nm && n == 0 && cs.isEmpty && ks.isEmpty
  else if op = 5 then [[110, 111, 116], [45]].contains nm && n == 0 && cs.isEmpty && ks.length == 1
  else if op = 6 then binsL.contains nm && n == 0 && cs.isEmpty && ks.length == 2
  else if op = 7 then nm == [] && n == 0 && cs.isEmpty && ks.length == 3
  else if op = 8 then nm == [] && n == 0 && cs.isEmpty && ks.length == 2
  else if op = 9 then nm == [] && n == 0 && cs.isEmpty && ks.length == 1
  else if op = 10 then nm == [] && n == 0 && cs.isEmpty && ks.length == 2
  else if op = 11 then nameM made nm && n == 0 && allM cs 1 1 (conM made) && ks.length == 1
  else if op = 12 then nameM made nm && n == 0 && allM cs 1 8 (conM made) && ks.length == cs.length
  else if op = 13 then nameM made nm && n == 0 && allM cs 1 8 (conM made) && ks.length == cs.length
  else if op = 14 then nameM made nm && n == 0 && allM cs 0 6 (nameM made) && (decide (1 ≤ ks.length) && decide (ks.length ≤ 6))
  else if op = 15 then nm == [] && n == 0 && cs.isEmpty && (ks.length == 2 && (ks.headD (.mk 0 [] 0 [] [])).op == 14)
  else false
mutual
def rightX (made : Bool) : Ex → Bool
  | .mk op nm n cs ks => shapeM made op nm n cs ks && rightXs made ks
def rightXs (made : Bool) : List Ex → Bool
  | [] => true
  | k :: r => rightX made k && rightXs made r
end
theorem rightXs_all (made : Bool) (l : List Ex) : rightXs made l = l.all (rightX made) := by
  induction l with
  | nil => rfl
  | cons k r ih => simp [rightXs, ih]
def rightEq (made : Bool) (q : QEq) : Bool := allM q.names 1 6 (nameM made) && rightX made q.e
def rightWay (made : Bool) (y : QWay) : Bool := conM made y.to && rightX made y.cond
def rightState (made : Bool) (s : QState) : Bool := conM made s.name && (allM s.eqs 0 24 (rightEq made) && allM s.ways 0 4 (rightWay made))
def noneX : Ex := .mk 0 [] 0 [] []
def rightItem (made : Bool) (i : QItem) : Bool := if i.states = [] then rightEq made i.eq else i.eq.names.isEmpty && (sameX i.eq.e noneX && allM i.states 1 8 (rightState made))
def rightEnum (made : Bool) (e : QEnum) : Bool := nameM made e.name && allM e.cons 1 8 (conM made)
def itemsM (made : Bool) : Nat := if made then 9223372036854775807 else 24
def enumsM (made : Bool) : Nat := if made then 32 else 8
def rightNode (made : Bool) (n : QNode) : Bool := nameM made n.name && (allM n.funs 0 6 (nameM made) && (allM n.ins 1 6 (nameM made) && (allM n.outs 1 6 (nameM made) && allM n.items 0 (itemsM made) (rightItem made))))
def rightP (made : Bool) (p : QProg) : Bool := allM p.enums 0 (enumsM made) (rightEnum made) && allM p.nodes 1 16 (rightNode made)
/-- a node's expressions -/
def stateX (s : QState) : List Ex := s.eqs.map QEq.e ++ s.ways.map QWay.cond
def itemX (i : QItem) : List Ex := (if i.states = [] then [i.eq.e] else []) ++ i.states.flatMap stateX
def nodeX (n : QNode) : List Ex := n.items.flatMap itemX
def largeF : Int → List Ex → Bool
  | s, [] => decide (300 < s)
  | s, x :: r => if 40 < depthW x then true else largeF (wrap64 (s + sizeW x)) r
def largeN (n : QNode) : Bool := largeF 0 (nodeX n)
def rightL (made : Bool) (p : QProg) : Int := if rightP made p then (if p.nodes.any largeN then 9 else 0) else 10
end Go.Proofs.YtaimagfdjbedeaaGreatDoor
