/-
  Texts joined.
-/
import Derived.Lib.ItoaNum
import Derived.Test.YtlhmdjhfmhkllaaGreatDoorKb01
namespace Go.Proofs.YtlhmdjhfmhkllaaGreatDoor
open Go.RowKit (wrap64)
abbrev Tx := List UInt8
/-- an expression -/
inductive Ex where
  | mk (op : Int) (name : Tx) (n : Int) (cons : List Tx) (kids : List Ex)
def Ex.op : Ex → Int | .mk o _ _ _ _ => o
def Ex.kids : Ex → List Ex | .mk _ _ _ _ k => k
structure QEq where
  names : List Tx
  e : Ex
structure QWay where
  cond : Ex
  to : Tx
structure QState where
  name : Tx
  eqs : List QEq
  ways : List QWay
structure QItem where
  eq : QEq
  states : List QState
structure QEnum where
  name : Tx
  cons : List Tx
structure QNode where
  name : Tx
  funs : List Tx
  ins : List Tx
  outs : List Tx
  items : List QItem
structure QProg where
  enums : List QEnum
  nodes : List QNode
theorem Ex.ind {P : Ex → Prop} (h : ∀ op nm n cs ks, (∀ k ∈ ks, P k) → P (.mk op nm n cs ks)) : ∀ x, P x
  | .mk op nm n cs ks => h op nm n cs ks fun k _ => Ex.ind h k
termination_by x => SizeOf.sizeOf x
decreasing_by
  have := List.sizeOf_lt_of_mem ‹k ∈ ks›
  simp
  omega
/- Sizes and depths, as 64-bit sums. -/
mutual
def sizeW : Ex → Int
  | .mk _ _ _ _ ks => sizeF 1 ks
def sizeF : Int → List Ex → Int
  | n, [] => n
  | n, k :: r => sizeF (wrap64 (n + sizeW k)) r
end
mutual
def depthW : Ex → Int
  | .mk _ _ _ _ ks => wrap64 (depthF 0 ks + 1)
def depthF : Int → List Ex → Int
  | n, [] => n
  | n, k :: r => depthF (max n (depthW k)) r
end
theorem sizeF_app (l m : List Ex) : ∀ n, sizeF n (l ++ m) = sizeF (sizeF n l) m := by
  induction l with
  | nil => intro n; simp [sizeF]
  | cons k r ih => intro n; simp [sizeF, ih]
theorem sizeF_snoc (n : Int) (l : List Ex) (k : Ex) : sizeF n (l ++ [k]) = wrap64 (sizeF n l + sizeW k) := by
  rw [sizeF_app]; simp [sizeF]
theorem depthF_app (l m : List Ex) : ∀ n, depthF n (l ++ m) = depthF (depthF n l) m := by
  induction l with
  | nil => intro n; simp [depthF]
  | cons k r ih => intro n; simp [depthF, ih]
theorem depthF_snoc (n : Int) (l : List Ex) (k : Ex) : depthF n (l ++ [k]) = max (depthF n l) (depthW k) := by
  rw [depthF_app]; simp [depthF]
/- Which are the same. -/
mutual
def sameX : Ex → Ex → Bool
  | .mk o a n c k, .mk o' a' n' c' k' => o == o' && a == a' && n == n' && c == c' && sameXs k k'
def sameXs : List Ex → List Ex → Bool
  | [], [] => true
  | [], _ :: _ => false
  | _ :: _, [] => false
  | x :: r, y :: s => sameX x y && sameXs r s
end
theorem sameX_iff : ∀ x y, sameX x y = true ↔ x = y := by
  intro x; induction x using Ex.ind with
  | h o a n c ks ih =>
    rintro ⟨o', a', n', c', ks'⟩; have hl : ∀ (l : List Ex), (∀ k ∈ l, ∀ y, sameX k y = true ↔ k = y) → ∀ l', sameXs l l' = true ↔ l = l' := by
      intro l; induction l with
      | nil => intro _ l'; cases l' <;> simp [sameXs]
      | cons x r ih2 =>
        intro hk l'; cases l' with
        | nil => simp [sameXs]
        | cons y s => simp [sameXs, hk x (by simp), ih2 (fun k hk' => hk k (by simp [hk']))]
    have := hl ks ih ks'; simp [sameX, this, and_assoc]
/-- two lists, element by element -/
def sameBy {X : Type} (f : X → X → Bool) : List X → List X → Bool
  | [], [] => true
  | [], _ :: _ => false
  | _ :: _, [] => false
  | x :: r, y :: s => f x y && sameBy f r s
theorem sameBy_iff {X : Type} {f : X → X → Bool} (hf : ∀ x y, f x y = true ↔ x = y) (l l' : List X) : sameBy f l l' = true ↔ l = l' := by
  induction l generalizing l' with
  | nil => cases l' <;> simp [sameBy]
  | cons x r ih => cases l' <;> simp [sameBy, ih, hf]
theorem sameXs_by (l l' : List Ex) : sameXs l l' = sameBy sameX l l' := by
  induction l generalizing l' with
  | nil => cases l' <;> simp [sameXs, sameBy]
  | cons x r ih => cases l' <;> simp [sameXs, sameBy, ih]
theorem sameBy_len {X : Type} {f : X → X → Bool} {l l' : List X} (h : l.length ≠ l'.length) : sameBy f l l' = false := by
  induction l generalizing l' with
  | nil => cases l' <;> simp_all [sameBy]
  | cons x r ih =>
    cases l' with
    | nil => simp [sameBy]
    | cons y s =>
      have : sameBy f r s = false := ih (fun e => h (by simp [e])); simp [sameBy, this]
theorem sameBy_all {X : Type} {f : X → X → Bool} {l l' : List X} (hl : l.length = l'.length) (h : ∀ (i : Nat) x y, l[i]? = some x → l'[i]? = some y → f x y = true) : sameBy f l l' = true := by
  induction l generalizing l' with
  | nil => cases l' <;> simp_all [sameBy]
  | cons x r ih =>
    cases l' with
    | nil => simp at hl
    | cons y s => simp only [sameBy, h 0 x y rfl rfl, Bool.true_and]; exact ih (by simpa using hl) (fun i a b ha hb => h (i + 1) a b ha hb)
theorem sameBy_no {X : Type} {f : X → X → Bool} {l l' : List X} {i : Nat} {x y : X} (hx : l[i]? = some x) (hy : l'[i]? = some y) (h : f x y = false) : sameBy f l l' = false := by
  induction l generalizing l' i with
  | nil => simp at hx
  | cons a r ih =>
    cases l' with
    | nil => simp at hy
    | cons b s =>
      cases i with
      | zero => simp at hx hy; subst hx hy; simp [sameBy, h]
      | succ i => simp at hx hy; simp [sameBy, ih hx hy]
/- The tokens of a text. -/
def sepT (s : Tx) : List (List Tx) → List Tx
  | [] => []
  | x :: r => x ++ r.flatMap fun y => s :: y
theorem sepT_snoc (s : Tx) (l : List (List Tx)) (x : List Tx) : sepT s (l ++ [x]) = sepT s l ++ ((if l = [] then [] else [s]) ++ x) := by
  cases l with
  | nil => simp [sepT]
  | cons y r => simp [sepT]
def namesT (s : Tx) (l : List Tx) : List Tx := sepT s (l.map fun x => [x])
def staticsT (l : List Tx) : List Tx := if l = [] then [] else [91] :: (namesT [44] l ++ [[93]])
def kidT (T : List (List Tx)) (i : Nat) : List Tx := T.getD i [[63]]
def armsT : List Tx → List (List Tx) → List (List Tx)
  | c :: cs, t :: ts => (c :: [45, 62] :: t) :: armsT cs ts
  | _, _ => []
def prefixT (o : Tx) (T : List (List Tx)) : List Tx := [40] :: o :: (kidT T 0 ++ [[41]])
def infixT (o : Tx) (T : List (List Tx)) : List Tx := [40] :: (kidT T 0 ++ o :: (kidT T 1 ++ [[41]]))
def choiceT (T : List (List Tx)) : List Tx := [40] :: [105, 102] :: (kidT T 0 ++ [116, 104, 101, 110] :: (kidT T 1 ++ [101, 108, 115, 101] :: (kidT T 2 ++ [[41]])))
def whenT (nm : Tx) (cs : List Tx) (T : List (List Tx)) : List Tx := [40] :: (kidT T 0 ++ [119, 104, 101, 110] :: (namesT [44] cs ++ [[40], nm, [41], [41]]))
def armT (word nm : Tx) (cs : List Tx) (T : List (List Tx)) : List Tx := word :: nm :: [40] :: (sepT [124] (armsT cs T) ++ [[41]])
def callT (nm : Tx) (cs : List Tx) (T : List (List Tx)) : List Tx := nm :: (staticsT cs ++ [40] :: (sepT [44] T ++ [[41]]))
def trueT : Tx := [116, 114, 117, 101]
def falseT : Tx := [102, 97, 108, 115, 101]
def fbyT : Tx := [102, 98, 121]
def preT : Tx := [112, 114, 101]
def arrowT : Tx := [45, 62]
def mergeT : Tx := [109, 101, 114, 103, 101]
def matchT : Tx := [109, 97, 116, 99, 104]
def everyT : Tx := [101, 118, 101, 114, 121]
def toksOf (op : Int) (nm : Tx) (n : Int) (cs : List Tx) (T : List (List Tx)) : List Tx :=
  if op = 1 then [Lib.itoa n]
  else if op = 2 then [if n = 1 then trueT else falseT]
  else if op = 3 then [nm]
  else if op = 4 then [nm]
  else if op = 5 then prefixT nm T
  else if op = 6 then infixT nm T
  else if op = 7 then choiceT T
  else if op = 8 then infixT fbyT T
  else if op = 9 then prefixT preT T
  else if op = 10 then infixT arrowT T
  else if op = 11 then whenT nm cs T
  else if op = 12 then armT mergeT nm cs T
  else if op = 13 then armT matchT nm cs T
  else if op = 14 then callT nm cs T
  else if op = 15 then infixT everyT T
  else [[63]]
mutual
def toksX : Ex → List Tx
  | .mk op nm n cs ks => toksOf op nm n cs (toksXs ks)
def toksXs : List Ex → List (List Tx)
  | [] => []
  | k :: r => toksX k :: toksXs r
end
theorem toksXs_map (l : List Ex) : toksXs l = l.map toksX := by
  induction l with
  | nil => rfl
  | cons k r ih => simp [toksXs, ih]
theorem toksX_mk (op : Int) (nm : Tx) (n : Int) (cs : List Tx) (ks : List Ex) : toksX (.mk op nm n cs ks) = toksOf op nm n cs (ks.map toksX) := by rw [toksX, toksXs_map]
def eqT (q : QEq) : List Tx := (match q.names with | [x] => [x] | l => [40] :: (namesT [44] l ++ [[41]])) ++ [61] :: (toksX q.e ++ [[59]])
def wayT (y : QWay) : List Tx := [117, 110, 116, 105, 108] :: (toksX y.cond ++ [[116, 104, 101, 110], y.to, [59]])
def stateT (s : QState) : List Tx := [115, 116, 97, 116, 101] :: s.name :: [58] :: (s.eqs.flatMap eqT ++ s.ways.flatMap wayT)
def itemT (i : QItem) : List Tx := if i.states = [] then eqT i.eq else [97, 117, 116, 111, 109, 97, 116, 111, 110] :: (i.states.flatMap stateT ++ [[101, 110, 100], [59]])
def enumT (e : QEnum) : List Tx := [116, 121, 112, 101] :: e.name :: [61] :: (namesT [124] e.cons ++ [[59]])
def nodeT (n : QNode) : List Tx := [110, 111, 100, 101] :: n.name :: (staticsT n.funs ++ [40] :: (namesT [44] n.ins ++ [41] :: [61] :: [40] :: (namesT [44] n.outs ++ [41] :: [119, 104, 101, 114, 101] :: (n.items.flatMap itemT ++ [[101, 110, 100]]))))
def progT (p : QProg) : List Tx := p.enums.flatMap enumT ++ p.nodes.flatMap nodeT
/-- what putting tokens lays behind what is there; g: something is there -/
def putL : Bool → List Tx → Tx
  | _, [] => []
  | false, t :: r => t ++ putL true r
  | true, t :: r => 32 :: (t ++ putL true r)
theorem putL_app (l m : List Tx) : ∀ g, putL g (l ++ m) = putL g l ++ putL (g || !l.isEmpty) m := by
  induction l with
  | nil => intro g; simp [putL]
  | cons t r ih => intro g; cases g <;> simp [putL, ih]
theorem putL_spell (l : List Tx) : putL true l = if l = [] then [] else 32 :: spellL l := by
  induction l with
  | nil => rfl
  | cons t r ih => simp only [putL, spellL, ih]; simp
theorem putL_false (l : List Tx) : putL false l = spellL l := by
  cases l with
  | nil => rfl
  | cons t r => simp only [putL, spellL, putL_spell]
/- Which may be. -/
def ungenL (made : Bool) (l : Tx) : Tx := if made && [95].isPrefixOf l then l.drop 1 else l
def nameM (made : Bool) (l : Tx) : Bool := nameB (ungenL made l)
def conM (made : Bool) (l : Tx) : Bool := conB (ungenL made l)
def allM {X : Type} (l : List X) (least most : Nat) (f : X → Bool) : Bool := decide (least ≤ l.length) && decide (l.length ≤ most) && l.all f
def binsL : List Tx := [[43], [45], [42], [47], [37], [60], [60, 61], [61], [60, 62], [97, 110, 100], [111, 114]]
/-- the fields of an expression -/
def shapeM (made : Bool) (op : Int) (nm : Tx) (n : Int) (cs : List Tx) (ks : List Ex) : Bool :=
  if op = 1 then nm == [] && decide (0 ≤ n) && cs.isEmpty && ks.isEmpty
  else if op = 2 then nm == [] && (decide (0 ≤ n) && decide (n ≤ 1)) && cs.isEmpty && ks.isEmpty
  else if op = 3 then conM made nm && n == 0 && cs.isEmpty && ks.isEmpty
  else if op = 4 then nameM made nm && n == 0 && cs.isEmpty && ks.isEmpty
  else if op = 5 then [[110, 111, 116], [45]].contains nm && n == 0 && cs.isEmpty && ks.length == 1
  else if op = 6 then binsL.contains nm && n == 0 && cs.isEmpty && ks.length == 2
  else if op = 7 then nm == [] && n == 0 && cs.isEmpty && ks.length == 3
  else if op = 8 then nm == [] && n == 0 && cs.isEmpty && ks.length == 2
  else if op = 9 then nm == [] && n == 0 && cs.isEmpty && ks.length == 1
  else if op = 10 then nm == [] && n == 0 && cs.isEmpty && ks.length == 2
  else if op = 11 then nameM made nm && n == 0 && allM cs 1 1 (conM made) && ks.length == 1
  else if op = 12 then nameM made nm && n == 0 && allM cs 1 8 (conM made) && ks.length == cs.length
  else if op = 13 then nameM made nm && n == 0 && allM cs 1 8 (conM made) && ks.length == cs.length
  else if op = 14 then nameM made nm && n == 0 && allM cs 0 6 (nameM made) && (decide (1 ≤ ks.length) && decide (ks.length ≤ 6))
  else if op = 15 then nm == [] && n == 0 && cs.isEmpty && (ks.length == 2 && (ks.headD (.mk 0 [] 0 [] [])).op == 14)
  else false
mutual
def rightX (made : Bool) : Ex → Bool
  | .mk op nm n cs ks => shapeM made op nm n cs ks && rightXs made ks
def rightXs (made : Bool) : List Ex → Bool
  | [] => true
  | k :: r => rightX made k && rightXs made r
end
theorem rightXs_all (made : Bool) (l : List Ex) : rightXs made l = l.all (rightX made) := by
  induction l with
  | nil => rfl
  | cons k r ih => simp [rightXs, ih]
def rightEq (made : Bool) (q : QEq) : Bool := allM q.names 1 6 (nameM made) && rightX made q.e
def rightWay (made : Bool) (y : QWay) : Bool := conM made y.to && rightX made y.cond
def rightState (made : Bool) (s : QState) : Bool := conM made s.name && (allM s.eqs 0 24 (rightEq made) && allM s.ways 0 4 (rightWay made))
def noneX : Ex := .mk 0 [] 0 [] []
def rightItem (made : Bool) (i : QItem) : Bool := if i.states = [] then rightEq made i.eq else i.eq.names.isEmpty && (sameX i.eq.e noneX && allM i.states 1 8 (rightState made))
def rightEnum (made : Bool) (e : QEnum) : Bool := nameM made e.name && allM e.cons 1 8 (conM made)
def itemsM (made : Bool) : Nat := if made then 9223372036854775807 else 24
def enumsM (made : Bool) : Nat := if made then 32 else 8
def rightNode (made : Bool) (n : QNode) : Bool := nameM made n.name && (allM n.funs 0 6 (nameM made) && (allM n.ins 1 6 (nameM made) && (allM n.outs 1 6 (nameM made) && allM n.items 0 (itemsM made) (rightItem made))))
def rightP (made : Bool) (p : QProg) : Bool := allM p.enums 0 (enumsM made) (rightEnum made) && allM p.nodes 1 16 (rightNode made)
/-- a node's expressions -/
def stateX (s : QState) : List Ex := s.eqs.map QEq.e ++ s.ways.map QWay.cond
def itemX (i : QItem) : List Ex := (if i.states = [] then [i.eq.e] else []) ++ i.states.flatMap stateX
def nodeX (n : QNode) : List Ex := n.items.flatMap itemX
def largeF : Int → List Ex → Bool
  | s, [] => decide (300 < s)
  | s, x :: r => if 40 < depthW x then true else largeF (wrap64 (s + sizeW x)) r
def largeN (n : QNode) : Bool := largeF 0 (nodeX n)
def rightL (made : Bool) (p : QProg) : Int := if rightP made p then (if p.nodes.any largeN then 9 else 0) else 10
end Go.Proofs.YtlhmdjhfmhkllaaGreatDoor

namespace Go.Proofs.YtlhmdjhfmhkllaaGreatDoor
abbrev Flt := Int × Int × Int
/-- what comes of tokens: a thing and the tokens behind it, or a fault -/
inductive Out (X : Type) where
  | ok (x : X) (ts : List Tok)
  | bad (f : Flt)
/-- nothing: no fuel, or no token left -/
abbrev Pr (X : Type) := Option (Out X)
def bindP {X Y : Type} (a : Pr X) (k : X → List Tok → Pr Y) : Pr Y :=
  match a with
  | none => none
  | some (.bad f) => some (.bad f)
  | some (.ok x ts) => k x ts
theorem bindP_some {X Y : Type} {a : Pr X} {k : X → List Tok → Pr Y} {o : Out Y} (h : bindP a k = some o) : (∃ f, a = some (.bad f) ∧ o = .bad f) ∨ ∃ x ts, a = some (.ok x ts) ∧ k x ts = some o := by
  cases a with
  | none => cases h
  | some q =>
    cases q with
    | bad f => exact .inl ⟨f, rfl, (Option.some.inj h).symm⟩
    | ok x ts => exact .inr ⟨x, ts, rfl, h⟩
theorem bindP_ok {X Y : Type} {x : X} {ts : List Tok} {k : X → List Tok → Pr Y} : bindP (some (.ok x ts)) k = k x ts := rfl
def faultT (e : Int) (t : Tok) : Flt := (e, t.line, t.col)
/-- a sign or a word -/
def wantP (s : Tx) : List Tok → Pr Unit
  | [] => none
  | t :: r => if t.text = s then (if r = [] then none else some (.ok () r)) else some (.bad (faultT 3 t))
/-- a token of a sort: its text -/
def textP (k : Int) : List Tok → Pr Tx
  | [] => none
  | t :: r => if t.sort = k then (if r = [] then none else some (.ok t.text r)) else some (.bad (faultT 3 t))
/-- is the next token this sign or word? it is passed, if so -/
def atP (s : Tx) : List Tok → Bool
  | [] => false
  | t :: _ => decide (t.text = s)
def notT : Tx := [110, 111, 116]
def minusT : Tx := [45]
def ifT : Tx := [105, 102]
def thenT : Tx := [116, 104, 101, 110]
def elseT : Tx := [101, 108, 115, 101]
def whenT' : Tx := [119, 104, 101, 110]
def orT : Tx := [111, 114]
def andT : Tx := [97, 110, 100]
def openT : Tx := [40]
def shutT : Tx := [41]
def openB : Tx := [91]
def shutB : Tx := [93]
def commaT : Tx := [44]
def barT : Tx := [124]
/-- how strong an operator binds -/
def strongT (s : Tx) : Nat :=
  if s = arrowT then 1
  else if s = fbyT then 2
  else if s = orT then 3
  else if s = andT then 4
  else if s = [60] then 5
  else if s = [60, 61] then 5
  else if s = [61] then 5
  else if s = [60, 62] then 5
  else if s = [43] then 6
  else if s = [45] then 6
  else if s = [42] then 7
  else if s = [47] then 7
  else if s = [37] then 7
  else 0
/-- the tree of an operator -/
def operE (s : Tx) (a b : Ex) : Ex :=
  if s = arrowT then .mk 10 [] 0 [] [a, b]
  else if s = fbyT then .mk 8 [] 0 [] [a, b]
  else .mk 6 s 0 [] [a, b]
/-- a part, and another one behind each sign -/
def sepP {X : Type} (s : Tx) (E : List Tok → Pr X) : Nat → List X → List Tok → Pr (List X)
  | 0, _, _ => none
  | g + 1, acc, ts =>
    match ts with
    | [] => none
    | t :: r => if t.text = s then (if r = [] then none else bindP (E r) fun x ts' => sepP s E g (acc ++ [x]) ts') else some (.ok acc (t :: r))
def separatedP {X : Type} (s : Tx) (E : List Tok → Pr X) (ts : List Tok) : Pr (List X) := bindP (E ts) fun x ts' => sepP s E (ts.length + 1) [x] ts'
/-- parts, as long as one can begin -/
def repeatP {X : Type} (B : List Tok → Bool) (E : List Tok → Pr X) : Nat → List X → List Tok → Pr (List X)
  | 0, _, _ => none
  | g + 1, acc, ts => if ts = [] then none else if B ts = true then bindP (E ts) fun x ts' => repeatP B E g (acc ++ [x]) ts' else some (.ok acc ts)
def repeatedP {X : Type} (B : List Tok → Bool) (E : List Tok → Pr X) (ts : List Tok) : Pr (List X) := repeatP B E (ts.length + 1) [] ts
/-- a part between two signs -/
def enclosedP {X : Type} (l : Tx) (E : List Tok → Pr X) (r : Tx) (ts : List Tok) : Pr X :=
  bindP (wantP l ts) fun _ ts => bindP (E ts) fun x ts => bindP (wantP r ts) fun _ ts => some (.ok x ts)
def nameP : List Tok → Pr Tx := textP 1
def conP : List Tok → Pr Tx := textP 2
def namesP : List Tok → Pr (List Tx) := separatedP commaT nameP
def staticsP (ts : List Tok) : Pr (List Tx) := if ts = [] then none else if atP openB ts = true then enclosedP openB namesP shutB ts else some (.ok [] ts)
/-- what parses an expression, a unary: tokens, how many unary are open -/
abbrev PrX := List Tok → Nat → Pr Ex
def namedP (E : PrX) (o : Nat) (ts : List Tok) : Pr Ex :=
  bindP (nameP ts) fun n ts =>
    if ts = [] then none else if atP openB ts = false ∧ atP openT ts = false then some (.ok (.mk 4 n 0 [] []) ts)
    else bindP (staticsP ts) fun cs ts => bindP (enclosedP openT (separatedP commaT fun ts => E ts o) shutT ts) fun ks ts => some (.ok (.mk 14 n 0 cs ks) ts)
def armP (E : PrX) (o : Nat) (ts : List Tok) : Pr (Tx × Ex) :=
  bindP (conP ts) fun c ts => bindP (wantP arrowT ts) fun _ ts => bindP (E ts o) fun e ts => some (.ok (c, e) ts)
def choicesP (E : PrX) (op : Int) (o : Nat) (ts : List Tok) : Pr Ex :=
  bindP (nameP ts) fun n ts => bindP (enclosedP openT (separatedP barT (armP E o)) shutT ts) fun l ts => some (.ok (.mk op n 0 (l.map Prod.fst) (l.map Prod.snd)) ts)
def atomP (E : PrX) (o : Nat) : List Tok → Pr Ex
  | [] => none
  | t :: r =>
    if t.sort = 3 then (if r = [] then none else some (.ok (.mk 1 [] t.num [] []) r))
    else if t.sort = 2 then bindP (conP (t :: r)) fun c ts => some (.ok (.mk 3 c 0 [] []) ts)
    else if t.sort = 1 then namedP E o (t :: r)
    else if t.text = trueT then (if r = [] then none else some (.ok (.mk 2 [] 1 [] []) r))
    else if t.text = falseT then (if r = [] then none else some (.ok (.mk 2 [] 0 [] []) r))
    else if t.text = mergeT then (if r = [] then none else choicesP E 12 o r)
    else if t.text = matchT then (if r = [] then none else choicesP E 13 o r)
    else if t.text = openT then enclosedP openT (fun ts => E ts o) shutT (t :: r)
    else some (.bad (faultT 3 t))
def whenP : Nat → Ex → List Tok → Pr Ex
  | 0, _, _ => none
  | g + 1, e, ts =>
    match ts with
    | [] => none
    | t :: r =>
      if t.text = whenT' then (if r = [] then none else
        bindP (conP r) fun c ts => bindP (enclosedP openT nameP shutT ts) fun x ts => whenP g (.mk 11 x 0 [c] [e]) ts)
      else some (.ok e (t :: r))
def sampledP (U E : PrX) (o : Nat) (ts : List Tok) : Pr Ex :=
  bindP (atomP E o ts) fun e ts =>
    if e.op = 14 ∧ atP everyT ts = true then (if ts.tail = [] then none else bindP (U ts.tail o) fun k ts => whenP (ts.length + 1) (.mk 15 [] 0 [] [e, k]) ts)
    else whenP (ts.length + 1) e ts
def choiceP (E : PrX) (o : Nat) (ts : List Tok) : Pr Ex :=
  bindP (wantP ifT ts) fun _ ts => bindP (E ts o) fun a ts => bindP (wantP thenT ts) fun _ ts => bindP (E ts o) fun b ts => bindP (wantP elseT ts) fun _ ts => bindP (E ts o) fun c ts => some (.ok (.mk 7 [] 0 [] [a, b, c]) ts)
def prefixedP (U E : PrX) (o : Nat) : List Tok → Pr Ex
  | [] => none
  | t :: r =>
    if t.text = notT then (if r = [] then none else bindP (U r o) fun k ts => some (.ok (.mk 5 t.text 0 [] [k]) ts))
    else if t.text = minusT then (if r = [] then none else bindP (U r o) fun k ts => some (.ok (.mk 5 t.text 0 [] [k]) ts))
    else if t.text = preT then (if r = [] then none else bindP (U r o) fun k ts => some (.ok (.mk 9 [] 0 [] [k]) ts))
    else if t.text = ifT then choiceP E o (t :: r)
    else sampledP U E o (t :: r)
mutual
/-- operands of more than a strength, with operators of this strength between them -/
def opX : Nat → Nat → PrX
  | 0, _, _, _ => none
  | f + 1, s, ts, o => if s = 8 then unX f ts o else bindP (opX f (s + 1) ts o) fun e ts => loopX f s e ts o
def loopX : Nat → Nat → Ex → PrX
  | 0, _, _, _, _ => none
  | f + 1, s, e, ts, o =>
    match ts with
    | [] => none
    | t :: r =>
      if strongT t.text = s then (if r = [] then none
        else if s = 1 ∨ s = 2 then bindP (opX f s r o) fun k ts => some (.ok (operE t.text e k) ts)
        else if s = 5 then bindP (opX f (s + 1) r o) fun k ts => some (.ok (operE t.text e k) ts)
        else bindP (opX f (s + 1) r o) fun k ts => loopX f s (operE t.text e k) ts o)
      else some (.ok e (t :: r))
def unX : Nat → PrX
  | 0, _, _ => none
  | f + 1, ts, o =>
    match ts with
    | [] => none
    | t :: r => if o = 100 then some (.bad (faultT 9 t)) else prefixedP (unX f) (opX f 1) (o + 1) (t :: r)
end
end Go.Proofs.YtlhmdjhfmhkllaaGreatDoor

namespace Go.Proofs.YtlhmdjhfmhkllaaGreatDoor
theorem bindP_mono {X Y : Type} {a a' : Pr X} {k k' : X → List Tok → Pr Y} (ha : ∀ o, a = some o → a' = some o) (hk : ∀ x ts o, k x ts = some o → k' x ts = some o) : ∀ o, bindP a k = some o → bindP a' k' = some o := by
  intro o h; rcases bindP_some h with ⟨f, h1, rfl⟩ | ⟨x, ts, h1, h2⟩
  · rw [ha _ h1]; rfl
  · rw [ha _ h1]; exact hk _ _ _ h2
def LeE {X : Type} (E E' : List Tok → Pr X) : Prop := ∀ ts o, E ts = some o → E' ts = some o
def LeX (U U' : PrX) : Prop := ∀ ts n o, U ts n = some o → U' ts n = some o
theorem sepP_mono {X : Type} {s : Tx} {E E' : List Tok → Pr X} (h : LeE E E') : ∀ g acc, LeE (sepP s E g acc) (sepP s E' g acc) := by
  intro g; induction g with
  | zero => intro acc ts o h; cases h
  | succ g ih =>
    intro acc ts o h1; cases ts with
    | nil => cases h1
    | cons t r =>
      rw [sepP] at h1 ⊢; split at h1
      · rename_i hs; rw [if_pos hs]; split at h1
        · cases h1
        · rename_i hr; rw [if_neg hr]; exact bindP_mono (h r) (fun x ts => ih _ ts) o h1
      · rename_i hs; rw [if_neg hs]; exact h1
theorem separatedP_mono {X : Type} {s : Tx} {E E' : List Tok → Pr X} (h : LeE E E') : LeE (separatedP s E) (separatedP s E') := fun ts o h1 => bindP_mono (h ts) (fun _ ts' => sepP_mono h _ _ ts') o h1
theorem enclosedP_mono {X : Type} {l r : Tx} {E E' : List Tok → Pr X} (h : LeE E E') : LeE (enclosedP l E r) (enclosedP l E' r) := fun _ o h1 =>
  bindP_mono (fun _ h => h) (fun _ ts => bindP_mono (h ts) (fun _ _ _ h => h)) o h1
theorem namedP_mono {E E' : PrX} (h : LeX E E') (n : Nat) : LeE (namedP E n) (namedP E' n) := by
  intro ts o h1; refine bindP_mono (fun _ h => h) (fun x ts o h2 => ?_) o h1; split at h2
  · cases h2
  rename_i h0; rw [if_neg h0]; split at h2
  · rename_i hc; rw [if_pos hc]; exact h2
  · rename_i hc; rw [if_neg hc]; exact bindP_mono (fun _ h => h) (fun cs ts => bindP_mono (enclosedP_mono (separatedP_mono (fun ts => h ts n)) ts) (fun _ _ _ h => h)) o h2
theorem armP_mono {E E' : PrX} (h : LeX E E') (n : Nat) : LeE (armP E n) (armP E' n) := fun _ o h1 =>
  bindP_mono (fun _ h => h) (fun _ _ => bindP_mono (fun _ h => h) (fun _ ts => bindP_mono (h ts n) (fun _ _ _ h => h))) o h1
theorem choicesP_mono {E E' : PrX} (h : LeX E E') (op : Int) (n : Nat) : LeE (choicesP E op n) (choicesP E' op n) := fun _ o h1 =>
  bindP_mono (fun _ h => h) (fun _ ts => bindP_mono (enclosedP_mono (separatedP_mono (armP_mono h n)) ts) (fun _ _ _ h => h)) o h1
theorem atomP_mono {E E' : PrX} (h : LeX E E') (n : Nat) : LeE (atomP E n) (atomP E' n) := by
  intro ts o h1; cases ts with
  | nil => cases h1
  | cons t r =>
    unfold atomP at h1 ⊢; simp only at h1 ⊢; split at h1
    · rename_i hc; rw [if_pos hc]; exact h1
    rename_i hc; rw [if_neg hc]; clear hc; split at h1
    · rename_i hc; rw [if_pos hc]; exact h1
    rename_i hc; rw [if_neg hc]; clear hc; split at h1
    · rename_i hc; rw [if_pos hc]; exact namedP_mono h n _ _ h1
    rename_i hc; rw [if_neg hc]; clear hc; split at h1
    · rename_i hc; rw [if_pos hc]; exact h1
    rename_i hc; rw [if_neg hc]; clear hc; split at h1
    · rename_i hc; rw [if_pos hc]; exact h1
    rename_i hc; rw [if_neg hc]; clear hc; split at h1
    · rename_i hc; rw [if_pos hc]; split at h1
      · cases h1
      · rename_i hr; rw [if_neg hr]; exact choicesP_mono h _ n _ _ h1
    rename_i hc; rw [if_neg hc]; clear hc; split at h1
    · rename_i hc; rw [if_pos hc]; split at h1
      · cases h1
      · rename_i hr; rw [if_neg hr]; exact choicesP_mono h _ n _ _ h1
    rename_i hc; rw [if_neg hc]; clear hc; split at h1
    · rename_i hc; rw [if_pos hc]; exact enclosedP_mono (fun ts => h ts n) _ _ h1
    rename_i hc; rw [if_neg hc]; exact h1
theorem sampledP_mono {U U' E E' : PrX} (hU : LeX U U') (h : LeX E E') (n : Nat) : LeE (sampledP U E n) (sampledP U' E' n) := by
  intro ts o h1; refine bindP_mono (atomP_mono h n ts) (fun e ts o h2 => ?_) o h1; split at h2
  · rename_i hc; rw [if_pos hc]; split at h2
    · cases h2
    · rename_i hr; rw [if_neg hr]; exact bindP_mono (hU _ n) (fun _ _ _ h => h) o h2
  · rename_i hc; rw [if_neg hc]; exact h2
theorem choiceP_mono {E E' : PrX} (h : LeX E E') (n : Nat) : LeE (choiceP E n) (choiceP E' n) := fun _ o h1 =>
  bindP_mono (fun _ h => h) (fun _ ts => bindP_mono (h ts n) (fun _ _ => bindP_mono (fun _ h => h) (fun _ ts => bindP_mono (h ts n) (fun _ _ => bindP_mono (fun _ h => h) (fun _ ts => bindP_mono (h ts n) (fun _ _ _ h => h)))))) o h1
theorem prefixedP_mono {U U' E E' : PrX} (hU : LeX U U') (h : LeX E E') (n : Nat) : LeE (prefixedP U E n) (prefixedP U' E' n) := by
  intro ts o h1; cases ts with
  | nil => cases h1
  | cons t r =>
    unfold prefixedP at h1 ⊢; simp only at h1 ⊢; split at h1
    · rename_i hc; rw [if_pos hc]; split at h1
      · cases h1
      · rename_i hr; rw [if_neg hr]; exact bindP_mono (hU _ n) (fun _ _ _ h => h) o h1
    rename_i hc; rw [if_neg hc]; clear hc; split at h1
    · rename_i hc; rw [if_pos hc]; split at h1
      · cases h1
      · rename_i hr; rw [if_neg hr]; exact bindP_mono (hU _ n) (fun _ _ _ h => h) o h1
    rename_i hc; rw [if_neg hc]; clear hc; split at h1
    · rename_i hc; rw [if_pos hc]; split at h1
      · cases h1
      · rename_i hr; rw [if_neg hr]; exact bindP_mono (hU _ n) (fun _ _ _ h => h) o h1
    rename_i hc; rw [if_neg hc]; clear hc; split at h1
    · rename_i hc; rw [if_pos hc]; exact choiceP_mono h n _ _ h1
    rename_i hc; rw [if_neg hc]; exact sampledP_mono hU h n _ _ h1
theorem fuel_more : ∀ f, (∀ s, LeX (opX f s) (opX (f + 1) s)) ∧ (∀ s e, LeX (loopX f s e) (loopX (f + 1) s e)) ∧ LeX (unX f) (unX (f + 1)) := by
  intro f; induction f with
  | zero => exact ⟨fun s ts n o h => (by rw [opX] at h; cases h), fun s e ts n o h => (by rw [loopX] at h; cases h), fun ts n o h => (by rw [unX] at h; cases h)⟩
  | succ f ih =>
    obtain ⟨h1, h2, h3⟩ := ih; refine ⟨fun s ts n o h => ?_, fun s e ts n o h => ?_, fun ts n o h => ?_⟩
    · rw [opX] at h ⊢; split at h
      · rename_i hc; rw [if_pos hc]; exact h3 _ _ _ h
      · rename_i hc; rw [if_neg hc]; exact bindP_mono (h1 _ ts n) (fun e ts => h2 s e ts n) o h
    · cases ts with
      | nil => rw [loopX] at h; cases h
      | cons t r =>
        rw [loopX] at h ⊢; split at h
        · rename_i hc; rw [if_pos hc]; split at h
          · cases h
          · rename_i hr; rw [if_neg hr]; split at h
            · rename_i hd; rw [if_pos hd]; exact bindP_mono (h1 _ r n) (fun _ _ _ h => h) o h
            · rename_i hd; rw [if_neg hd]; split at h
              · rename_i hd; rw [if_pos hd]; exact bindP_mono (h1 _ r n) (fun _ _ _ h => h) o h
              · rename_i hd; rw [if_neg hd]; exact bindP_mono (h1 _ r n) (fun k ts => h2 s _ ts n) o h
        · rename_i hc; rw [if_neg hc]; exact h
    · cases ts with
      | nil => rw [unX] at h; cases h
      | cons t r =>
        rw [unX] at h ⊢; split at h
        · rename_i hc; rw [if_pos hc]; exact h
        · rename_i hc; rw [if_neg hc]; exact prefixedP_mono h3 (h1 1) _ _ _ h
theorem opX_le {f g : Nat} (hfg : f ≤ g) (s : Nat) : LeX (opX f s) (opX g s) := by
  obtain ⟨k, rfl⟩ := Nat.exists_eq_add_of_le hfg; induction k with
  | zero => exact fun _ _ _ h => h
  | succ k ih => exact fun ts n o h => (fuel_more _).1 s _ _ _ (ih (by omega) ts n o h)
/-- tokens that an end token ends -/
def Ended : List Tok → Prop
  | [] => False
  | [t] => t.sort = 6 ∧ t.text = []
  | _ :: u :: r => Ended (u :: r)
theorem Ended.tail {t : Tok} {r : List Tok} (h : Ended (t :: r)) (ht : t.text ≠ [] ∨ t.sort ≠ 6) : r ≠ [] ∧ Ended r := by
  cases r with
  | nil => obtain ⟨h1, h2⟩ := h; exact absurd h2 (ht.resolve_right (fun e => e h1))
  | cons u r => exact ⟨by simp, h⟩
theorem Ended.pos {ts : List Tok} (h : Ended ts) : ts ≠ [] := by intro e; subst e; exact h
/-- an answer, and at most n tokens behind it -/
def Fine {X : Type} (n : Nat) (p : Pr X) : Prop := ∃ o, p = some o ∧ ∀ x r, o = .ok x r → Ended r ∧ r.length ≤ n
theorem Fine.ok {X : Type} {n : Nat} {x : X} {r : List Tok} (h : Ended r) (hn : r.length ≤ n) : Fine n (some (.ok x r)) := ⟨_, rfl, fun y s e => by injection e with _ e; subst e; exact ⟨h, hn⟩⟩
theorem Fine.bad {X : Type} {n : Nat} {f : Flt} : Fine (X := X) n (some (.bad f)) := ⟨_, rfl, fun y s e => by cases e⟩
theorem Fine.mono {X : Type} {n m : Nat} {p : Pr X} (h : Fine n p) (hm : n ≤ m) : Fine m p := by
  obtain ⟨o, h1, h2⟩ := h; exact ⟨o, h1, fun x r e => ⟨(h2 x r e).1, Nat.le_trans (h2 x r e).2 hm⟩⟩
theorem Fine.bind {X Y : Type} {n m : Nat} {a : Pr X} {k : X → List Tok → Pr Y} (h : Fine n a) (hk : ∀ x r, Ended r → r.length ≤ n → Fine m (k x r)) : Fine m (bindP a k) := by
  obtain ⟨o, rfl, h2⟩ := h; cases o with
  | bad f => exact Fine.bad
  | ok x r => exact hk x r (h2 x r rfl).1 (h2 x r rfl).2
theorem want_fine {s : Tx} (hs : s ≠ []) {ts : List Tok} {n : Nat} (h : Ended ts) (hn : ts.length ≤ n + 1) : Fine n (wantP s ts) := by
  cases ts with
  | nil => exact absurd h id
  | cons t r =>
    show Fine n (if t.text = s then (if r = [] then none else some (.ok () r)) else some (.bad (faultT 3 t))); split
    · rename_i e; obtain ⟨h1, h2⟩ := h.tail (.inl (by rw [e]; exact hs)); rw [if_neg h1]; exact Fine.ok h2 (by simpa using hn)
    · exact Fine.bad
theorem text_fine {k : Int} (hk : k ≠ 6) {ts : List Tok} {n : Nat} (h : Ended ts) (hn : ts.length ≤ n + 1) : Fine n (textP k ts) := by
  cases ts with
  | nil => exact absurd h id
  | cons t r =>
    show Fine n (if t.sort = k then (if r = [] then none else some (.ok t.text r)) else some (.bad (faultT 3 t))); split
    · rename_i e; obtain ⟨h1, h2⟩ := h.tail (.inr (by rw [e]; exact hk)); rw [if_neg h1]; exact Fine.ok h2 (by simpa using hn)
    · exact Fine.bad
/-- of at most n tokens there is an answer, and at least one token is passed -/
def TotE {X : Type} (n : Nat) (E : List Tok → Pr X) : Prop := ∀ ts m, ts.length ≤ m + 1 → m + 1 ≤ n → Ended ts → Fine m (E ts)
def TotU (n : Nat) (U : PrX) : Prop := ∀ o, TotE n fun ts => U ts o
theorem TotE.le {X : Type} {n : Nat} {E : List Tok → Pr X} (h : TotE n E) {ts : List Tok} (hl : ts.length ≤ n) (he : Ended ts) : Fine (ts.length - 1) (E ts) := by
  have := List.length_pos_iff.2 he.pos; exact h ts (ts.length - 1) (by omega) (by omega) he
theorem name_tot (n : Nat) : TotE n nameP := fun _ _ h _ he => text_fine (by decide) he h
theorem con_tot (n : Nat) : TotE n conP := fun _ _ h _ he => text_fine (by decide) he h
theorem sep_fine {X : Type} {s : Tx} (hs : s ≠ []) {E : List Tok → Pr X} {n : Nat} (hE : TotE n E) : ∀ g acc ts, ts.length < g → ts.length ≤ n → Ended ts → Fine ts.length (sepP s E g acc ts) := by
  intro g; induction g with
  | zero => intro acc ts h; omega
  | succ g ih =>
    intro acc ts hg hn he; cases ts with
    | nil => exact absurd he id
    | cons t r =>
      simp only [List.length_cons] at hg hn ⊢; rw [sepP]; split
      · rename_i e; obtain ⟨h1, h2⟩ := he.tail (.inl (by rw [e]; exact hs)); rw [if_neg h1]; refine (hE.le (by omega) h2).bind fun x ts' h3 h4 => ?_; exact (ih _ ts' (by omega) (by omega) h3).mono (by omega)
      · exact Fine.ok he (by simp)
theorem separated_tot {X : Type} {s : Tx} (hs : s ≠ []) {E : List Tok → Pr X} {n : Nat} (hE : TotE n E) : TotE n (separatedP s E) := fun ts m h hm he =>
  (hE.le (by omega) he).bind fun x ts' h3 h4 => (sep_fine hs hE _ _ ts' (by omega) (by omega) h3).mono (by omega)
theorem enclosed_tot {X : Type} {l r : Tx} (hl : l ≠ []) (hr : r ≠ []) {E : List Tok → Pr X} {n : Nat} (hE : TotE n E) : TotE (n + 1) (enclosedP l E r) := fun ts m h hm he =>
  (want_fine hl he (n := m) (by omega)).bind fun _ ts1 h1 h2 => (hE.le (by omega) h1).bind fun x ts2 h3 h4 => (want_fine hr h3 (n := m) (by omega)).bind fun _ ts3 h5 h6 => Fine.ok h5 h6
theorem enclosed_tot' {X : Type} {l r : Tx} (hl : l ≠ []) (hr : r ≠ []) {E : List Tok → Pr X} {n : Nat} (hE : TotE n E) : TotE n (enclosedP l E r) := by
  cases n with
  | zero => exact fun ts m h hm => by omega
  | succ n => exact enclosed_tot hl hr (fun ts m h hm he => hE ts m h (by omega) he)
theorem statics_fine {ts : List Tok} (he : Ended ts) : Fine ts.length (staticsP ts) := by
  unfold staticsP; rw [if_neg he.pos]; split
  · exact ((enclosed_tot' (by decide) (by decide) (separated_tot (by decide) (name_tot ts.length))).le (Nat.le_refl _) he).mono (by omega)
  · exact Fine.ok he (Nat.le_refl _)
theorem named_tot {E : PrX} {n : Nat} (hE : TotU n E) (o : Nat) : TotE (n + 1) (namedP E o) := by
  intro ts m h hm he; refine (name_tot (n + 1) ts m h hm he).bind fun x ts1 h1 h2 => ?_; rw [if_neg h1.pos]; split
  · exact Fine.ok h1 h2
  · refine (statics_fine h1).bind fun cs ts2 h3 h4 => ?_; refine ((enclosed_tot' (by decide) (by decide) (separated_tot (by decide) (hE o))).le (by omega) h3).bind fun ks ts3 h5 h6 => ?_; exact Fine.ok h5 (by omega)
theorem arm_tot {E : PrX} {n : Nat} (hE : TotU n E) (o : Nat) : TotE n (armP E o) := by
  intro ts m h hm he; refine (con_tot n ts m h hm he).bind fun x ts1 h1 h2 => ?_; refine (want_fine (by decide) h1 (n := m) (by omega)).bind fun _ ts2 h3 h4 => ?_; refine ((hE o).le (by omega) h3).bind fun e ts3 h5 h6 => ?_; exact Fine.ok h5 (by omega)
theorem choices_tot {E : PrX} {n : Nat} (hE : TotU n E) (op : Int) (o : Nat) : TotE n (choicesP E op o) := by
  intro ts m h hm he; refine (name_tot n ts m h hm he).bind fun x ts1 h1 h2 => ?_; refine ((enclosed_tot' (by decide) (by decide) (separated_tot (by decide) (arm_tot hE o))).le (by omega) h1).bind fun l ts2 h3 h4 => ?_; exact Fine.ok h3 (by omega)
theorem atom_tot {E : PrX} {n : Nat} (hE : TotU n E) (o : Nat) : TotE (n + 1) (atomP E o) := by
  intro ts m h hm he; cases ts with
  | nil => exact absurd he id
  | cons t r =>
    simp only [List.length_cons] at h; have hp : ∀ {s : Tx}, s ≠ [] → t.text = s → r ≠ [] ∧ Ended r := fun hs e => he.tail (.inl (by rw [e]; exact hs)); have hk : ∀ {k : Int}, k ≠ 6 → t.sort = k → r ≠ [] ∧ Ended r := fun hs e => he.tail (.inr (by rw [e]; exact hs)); rw [atomP]; split
    · rename_i e; obtain ⟨h1, h2⟩ := hk (by decide) e; rw [if_neg h1]; exact Fine.ok h2 (by omega)
    split
    · exact (con_tot (n + 1) (t :: r) m (by simpa using h) hm he).bind fun c ts1 h1 h2 => Fine.ok h1 h2
    split
    · exact named_tot hE o (t :: r) m (by simpa using h) hm he
    split
    · rename_i e; obtain ⟨h1, h2⟩ := hp (by decide) e; rw [if_neg h1]; exact Fine.ok h2 (by omega)
    split
    · rename_i e; obtain ⟨h1, h2⟩ := hp (by decide) e; rw [if_neg h1]; exact Fine.ok h2 (by omega)
    split
    · rename_i e; obtain ⟨h1, h2⟩ := hp (by decide) e; rw [if_neg h1]; exact ((choices_tot hE 12 o).le (by omega) h2).mono (by omega)
    split
    · rename_i e; obtain ⟨h1, h2⟩ := hp (by decide) e; rw [if_neg h1]; exact ((choices_tot hE 13 o).le (by omega) h2).mono (by omega)
    split
    · exact enclosed_tot (by decide) (by decide) (hE o) (t :: r) m (by simpa using h) hm he
    · exact Fine.bad
theorem when_fine : ∀ g e ts, ts.length < g → Ended ts → Fine ts.length (whenP g e ts) := by
  intro g; induction g with
  | zero => intro e ts h; omega
  | succ g ih =>
    intro e ts hg he; cases ts with
    | nil => exact absurd he id
    | cons t r =>
      simp only [List.length_cons] at hg ⊢; rw [whenP]; split
      · rename_i e1; obtain ⟨h1, h2⟩ := he.tail (.inl (by rw [e1]; decide)); rw [if_neg h1]; refine ((con_tot r.length).le (Nat.le_refl _) h2).bind fun c ts1 h3 h4 => ?_; refine ((enclosed_tot' (by decide) (by decide) (name_tot ts1.length)).le (Nat.le_refl _) h3).bind fun x ts2 h5 h6 => ?_; exact (ih _ ts2 (by omega) h5).mono (by omega)
      · exact Fine.ok he (by simp)
theorem sampled_tot {U E : PrX} {n : Nat} (hU : TotU n U) (hE : TotU n E) (o : Nat) : TotE (n + 1) (sampledP U E o) := by
  intro ts m h hm he; refine (atom_tot hE o ts m h hm he).bind fun e ts1 h1 h2 => ?_; split
  · rename_i hc; cases ts1 with
    | nil => exact absurd h1 id
    | cons t r =>
      have ht : t.text = everyT := (by have := hc.2; unfold atP at this; simpa using this); obtain ⟨h3, h4⟩ := h1.tail (.inl (by rw [ht]; decide)); simp only [List.length_cons] at h2; rw [List.tail_cons, if_neg h3]; refine ((hU o).le (by omega) h4).bind fun k ts2 h5 h6 => ?_; exact (when_fine _ _ ts2 (by omega) h5).mono (by omega)
  · exact (when_fine _ _ ts1 (by omega) h1).mono h2
theorem choice_tot {E : PrX} {n : Nat} (hE : TotU n E) (o : Nat) : TotE (n + 1) (choiceP E o) := by
  intro ts m h hm he; refine (want_fine (by decide) he (n := m) (by omega)).bind fun _ ts1 h1 h2 => ?_; refine ((hE o).le (by omega) h1).bind fun a ts2 h3 h4 => ?_; refine (want_fine (by decide) h3 (n := m) (by omega)).bind fun _ ts3 h5 h6 => ?_; refine ((hE o).le (by omega) h5).bind fun b ts4 h7 h8 => ?_; refine (want_fine (by decide) h7 (n := m) (by omega)).bind fun _ ts5 h9 h10 => ?_; refine ((hE o).le (by omega) h9).bind fun c ts6 h11 h12 => ?_; exact Fine.ok h11 (by omega)
theorem prefixed_tot {U E : PrX} {n : Nat} (hU : TotU n U) (hE : TotU n E) (o : Nat) : TotE (n + 1) (prefixedP U E o) := by
  intro ts m h hm he; cases ts with
  | nil => exact absurd he id
  | cons t r =>
    simp only [List.length_cons] at h; have hp : ∀ {s : Tx}, s ≠ [] → t.text = s → r ≠ [] ∧ Ended r := fun hs e => he.tail (.inl (by rw [e]; exact hs)); rw [prefixedP]; split
    · rename_i e; obtain ⟨h1, h2⟩ := hp (by decide) e; rw [if_neg h1]; exact ((hU o).le (by omega) h2).bind fun k ts1 h3 h4 => Fine.ok h3 (by omega)
    split
    · rename_i e; obtain ⟨h1, h2⟩ := hp (by decide) e; rw [if_neg h1]; exact ((hU o).le (by omega) h2).bind fun k ts1 h3 h4 => Fine.ok h3 (by omega)
    split
    · rename_i e; obtain ⟨h1, h2⟩ := hp (by decide) e; rw [if_neg h1]; exact ((hU o).le (by omega) h2).bind fun k ts1 h3 h4 => Fine.ok h3 (by omega)
    split
    · exact choice_tot hE o (t :: r) m (by simpa using h) hm he
    · exact sampled_tot hU hE o (t :: r) m (by simpa using h) hm he
theorem unX_tot {f n : Nat} (hU : TotU n (unX f)) (hE : TotU n (opX f 1)) : TotU (n + 1) (unX (f + 1)) := by
  intro o ts m h hm he; cases ts with
  | nil => exact absurd he id
  | cons t r =>
    show Fine m (unX (f + 1) (t :: r) o); rw [unX]; split
    · exact Fine.bad
    · exact prefixed_tot hU hE (o + 1) (t :: r) m h hm he
theorem strong_text {s : Tx} {k : Nat} (h : strongT s = k) (hk : 0 < k) : s ≠ [] := by
  intro e; subst e; have : strongT [] = 0 := by decide
  omega
/-- the loop: of shorter tokens all is there -/
theorem loopX_fine {n s F : Nat} (hs : 0 < s) (h0 : TotU n (opX F s)) (h1 : TotU n (opX F (s + 1))) : ∀ l f e ts o, ts.length ≤ l → l ≤ n + 1 → F + l < f → Ended ts → Fine ts.length (loopX f s e ts o) := by
  intro l; induction l with
  | zero => intro f e ts o h _ _ he; exact absurd (List.eq_nil_of_length_eq_zero (by omega)) he.pos
  | succ l ih =>
    intro f e ts o h hl hf he; cases f with
    | zero => omega
    | succ f =>
      cases ts with
      | nil => exact absurd he id
      | cons t r =>
        simp only [List.length_cons] at h ⊢; have g0 : ∀ ts, ts.length ≤ n → Ended ts → Fine (ts.length - 1) (opX f s ts o) := fun ts h3 h4 => by
          obtain ⟨q, h5, h6⟩ := (h0 o).le h3 h4; exact ⟨q, opX_le (by omega) s _ _ _ h5, h6⟩
        have g1 : ∀ ts, ts.length ≤ n → Ended ts → Fine (ts.length - 1) (opX f (s + 1) ts o) := fun ts h3 h4 => by
          obtain ⟨q, h5, h6⟩ := (h1 o).le h3 h4; exact ⟨q, opX_le (by omega) (s + 1) _ _ _ h5, h6⟩
        rw [loopX]; split
        · rename_i hc; obtain ⟨h2, h3⟩ := he.tail (.inl (strong_text hc hs)); rw [if_neg h2]; split
          · exact (g0 r (by omega) h3).bind fun k ts1 h4 h5 => Fine.ok h4 (by omega)
          · split
            · exact (g1 r (by omega) h3).bind fun k ts1 h4 h5 => Fine.ok h4 (by omega)
            · refine (g1 r (by omega) h3).bind fun k ts1 h4 h5 => ?_; exact (ih f _ ts1 o (by omega) (by omega) (by omega) h4).mono (by omega)
        · exact Fine.ok he (by simp)
theorem all_tot : ∀ n, ∃ F, ∀ f, F ≤ f → TotU n (unX f) ∧ ∀ s, 0 < s → s ≤ 8 → TotU n (opX f s) := by
  intro n; induction n with
  | zero => exact ⟨0, fun f _ => ⟨fun o ts m h hm => by omega, fun s _ _ o ts m h hm => by omega⟩⟩
  | succ n ih =>
    obtain ⟨F, hF⟩ := ih; have hu : ∀ f, F + 1 ≤ f → TotU (n + 1) (unX f) := fun f hf => by
      cases f with
      | zero => omega
      | succ f => exact unX_tot (hF f (by omega)).1 ((hF f (by omega)).2 1 (by omega) (by omega))
    -- from the strongest one on: k steps below 8
    have hk : ∀ k, k ≤ 7 → ∃ G, ∀ f, G ≤ f → TotU (n + 1) (opX f (8 - k)) := by
      intro k; induction k with
      | zero => exact fun _ => ⟨F + 2, fun f hf o ts m h hm he => by
          cases f with
          | zero => omega
          | succ f =>
            show Fine m (opX (f + 1) 8 ts o); rw [opX, if_pos rfl]; exact hu f (by omega) o ts m h hm he⟩
      | succ k ihk =>
        intro hk7; obtain ⟨G, hG⟩ := ihk (by omega); refine ⟨F + G + n + 5, fun f hf o ts m h hm he => ?_⟩; cases f with
        | zero => omega
        | succ f =>
          show Fine m (opX (f + 1) (8 - (k + 1)) ts o); rw [opX, if_neg (by omega), show 8 - (k + 1) + 1 = 8 - k by omega]; refine (hG f (by omega) o ts m h hm he).bind fun e ts1 h1 h2 => ?_; have h3 := hF F (Nat.le_refl _); refine (loopX_fine (n := n) (F := F) (by omega) (h3.2 _ (by omega) (by omega)) (h3.2 _ (by omega) (by omega)) ts1.length f e ts1 o (Nat.le_refl _) (by omega) (by omega) h1).mono h2
    obtain ⟨G0, h0⟩ := hk 0 (by omega); obtain ⟨G1, h1⟩ := hk 1 (by omega); obtain ⟨G2, h2⟩ := hk 2 (by omega); obtain ⟨G3, h3⟩ := hk 3 (by omega); obtain ⟨G4, h4⟩ := hk 4 (by omega); obtain ⟨G5, h5⟩ := hk 5 (by omega); obtain ⟨G6, h6⟩ := hk 6 (by omega); obtain ⟨G7, h7⟩ := hk 7 (by omega); refine ⟨F + 1 + G0 + G1 + G2 + G3 + G4 + G5 + G6 + G7, fun f hf => ⟨hu f (by omega), fun s hs1 hs2 => ?_⟩⟩; have : s = 8 - 0 ∨ s = 8 - 1 ∨ s = 8 - 2 ∨ s = 8 - 3 ∨ s = 8 - 4 ∨ s = 8 - 5 ∨ s = 8 - 6 ∨ s = 8 - 7 := by omega
    rcases this with rfl | rfl | rfl | rfl | rfl | rfl | rfl | rfl
    · exact h0 f (by omega)
    · exact h1 f (by omega)
    · exact h2 f (by omega)
    · exact h3 f (by omega)
    · exact h4 f (by omega)
    · exact h5 f (by omega)
    · exact h6 f (by omega)
    · exact h7 f (by omega)
end Go.Proofs.YtlhmdjhfmhkllaaGreatDoor
