/-
  Plain mathematics of parsing: what is made of tokens, or the first token that can't stand; by fuel. Nothing of the program stands here.
-/
import Derived.Test.YtaimagfdjbedeaaGreatDoorTreeSpec
namespace Go.Proofs.YtaimagfdjbedeaaGreatDoor

abbrev Flt := Int × Int × Int
/-- what comes of tokens: a thing and the tokens behind it, or a fault -/
inductive Out (X : Type) where
  | ok (x : X) (ts : List Tok)
  | bad (f : Flt)
/-- nothing: no fuel, or no token left -/
abbrev Pr (X : Type) := Option (Out X)
def bindP {X Y : Type} (a : Pr X) (k : X → List Tok → Pr Y) : Pr Y :=
  match a with
  | none => none
  | some (.bad f) => some (.bad f)
  | some (.ok x ts) => k x ts
theorem bindP_some {X Y : Type} {a : Pr X} {k : X → List Tok → Pr Y} {o : Out Y} (h : bindP a k = some o) : (∃ f, a = some (.bad f) ∧ o = .bad f) ∨ ∃ x ts, a = some (.ok x ts) ∧ k x ts = some o := by
  cases a with
  | none => cases h
  | some q =>
    cases q with
    | bad f => exact .inl ⟨f, rfl, (Option.some.inj h).symm⟩
    | ok x ts => exact .inr ⟨x, ts, rfl, h⟩
theorem bindP_ok {X Y : Type} {x : X} {ts : List Tok} {k : X → List Tok → Pr Y} : bindP (some (.ok x ts)) k = k x ts := rfl
theorem bindP_bad {X Y : Type} {f : Flt} {k : X → List Tok → Pr Y} : bindP (some (.bad f)) k = some (.bad f) := rfl
def faultT (e : Int) (t : Tok) : Flt := (e, t.line, t.col)
/-- a sign or a word -/
def wantP (s : Tx) : List Tok → Pr Unit
  | [] => none
  | t :: r => if t.text = s then (if r = [] then none else some (.ok () r)) else some (.bad (faultT 3 t))
/-- a token of a sort: its text -/
def textP (k : Int) : List Tok → Pr Tx
  | [] => none
  | t :: r => if t.sort = k then (if r = [] then none else some (.ok t.text r)) else some (.bad (faultT 3 t))
/-- is the next token this sign or word? it is passed, if so -/
def atP (s : Tx) : List Tok → Bool
  | [] => false
  | t :: _ => decide (t.text = s)
def notT : Tx := [110, 111, 116]
def minusT : Tx := [45]
def ifT : Tx := [105, 102]
def thenT : Tx := [116, 104, 101, 110]
def elseT : Tx := [101, 108, 115, 101]
def whenT' : Tx := [119, 104, 101, 110]
def orT : Tx := [111, 114]
def andT : Tx := [97, 110, 100]
def openT : Tx := [40]
def shutT : Tx := [41]
def openB : Tx := [91]
def shutB : Tx := [93]
def commaT : Tx := [44]
def barT : Tx := [124]
/-- how strong an operator binds -/
def strongT (s : Tx) : Nat :=
  if s = arrowT then 1
  else if s = fbyT then 2
  else if s = orT then 3
  else if s = andT then 4
  else if s = [60] then 5
  else if s = [60, 61] then 5
  else if s = [61] then 5
  else if s = [60, 62] then 5
  else if s = [43] then 6
  else if s = [45] then 6
  else if s = [42] then 7
  else if s = [47] then 7
  else if s = [37] then 7
  else 0
/-- the tree of an operator -/
def operE (s : Tx) (a b : Ex) : Ex :=
  if s = arrowT then .mk 10 [] 0 [] [a, b]
  else if s = fbyT then .mk 8 [] 0 [] [a, b]
  else .mk 6 s 0 [] [a, b]
/-- a part, and another one behind each sign -/
def sepP {X : Type} (s : Tx) (E : List Tok → Pr X) : Nat → List X → List Tok → Pr (List X)
  | 0, _, _ => none
  | g + 1, acc, ts =>
    match ts with
    | [] => none
    | t :: r => if t.text = s then (if r = [] then none else bindP (E r) fun x ts' => sepP s E g (acc ++ [x]) ts') else some (.ok acc (t :: r))
def separatedP {X : Type} (s : Tx) (E : List Tok → Pr X) (ts : List Tok) : Pr (List X) := bindP (E ts) fun x ts' => sepP s E (ts.length + 1) [x] ts'
/-- parts, as long as one can begin -/
def repeatP {X : Type} (B : List Tok → Bool) (E : List Tok → Pr X) : Nat → List X → List Tok → Pr (List X)
  | 0, _, _ => none
  | g + 1, acc, ts => if ts = [] then none else if B ts = true then bindP (E ts) fun x ts' => repeatP B E g (acc ++ [x]) ts' else some (.ok acc ts)
def repeatedP {X : Type} (B : List Tok → Bool) (E : List Tok → Pr X) (ts : List Tok) : Pr (List X) := repeatP B E (ts.length + 1) [] ts
/-- a part between two signs -/
def enclosedP {X : Type} (l : Tx) (E : List Tok → Pr X) (r : Tx) (ts : List Tok) : Pr X :=
  bindP (wantP l ts) fun _ ts => bindP (E ts) fun x ts => bindP (wantP r ts) fun _ ts => some (.ok x ts)
def nameP : List Tok → Pr Tx := textP 1
def conP : List Tok → Pr Tx := textP 2
def namesP : List Tok → Pr (List Tx) := separatedP commaT nameP
def staticsP (ts : List Tok) : Pr (List Tx) := if ts = [] then none else if atP openB ts = true then enclosedP openB namesP shutB ts else some (.ok [] ts)
/-- what parses an expression, a unary: tokens, how many unary are open -/
abbrev PrX := List Tok → Nat → Pr Ex
def namedP (E : PrX) (o : Nat) (ts : List Tok) : Pr Ex :=
  bindP (nameP ts) fun n ts =>
    if ts = [] then none else if atP openB ts = false ∧ atP openT ts = false then some (.ok (.mk 4 n 0 [] []) ts)
    else bindP (staticsP ts) fun cs ts => bindP (enclosedP openT (separatedP commaT fun ts => E ts o) shutT ts) fun ks ts => some (.ok (.mk 14 n 0 cs ks) ts)
def armP (E : PrX) (o : Nat) (ts : List Tok) : Pr (Tx × Ex) :=
  bindP (conP ts) fun c ts => bindP (wantP arrowT ts) fun _ ts => bindP (E ts o) fun e ts => some (.ok (c, e) ts)
def choicesP (E : PrX) (op : Int) (o : Nat) (ts : List Tok) : Pr Ex :=
  bindP (nameP ts) fun n ts => bindP (enclosedP openT (separatedP barT (armP E o)) shutT ts) fun l ts => some (.ok (.mk op n 0 (l.map Prod.fst) (l.map Prod.snd)) ts)
def atomP (E : PrX) (o : Nat) : List Tok → Pr Ex
  | [] => none
  | t :: r =>
    if t.sort = 3 then (if r = [] then none else some (.ok (.mk 1 [] t.num [] []) r))
    else if t.sort = 2 then bindP (conP (t :: r)) fun c ts => some (.ok (.mk 3 c 0 [] []) ts)
    else if t.sort = 1 then namedP E o (t :: r)
    else if t.text = trueT then (if r = [] then none else some (.ok (.mk 2 [] 1 [] []) r))
    else if t.text = falseT then (if r = [] then none else some (.ok (.mk 2 [] 0 [] []) r))
    else if t.text = mergeT then (if r = [] then none else choicesP E 12 o r)
    else if t.text = matchT then (if r = [] then none else choicesP E 13 o r)
    else if t.text = openT then enclosedP openT (fun ts => E ts o) shutT (t :: r)
    else some (.bad (faultT 3 t))
def whenP : Nat → Ex → List Tok → Pr Ex
  | 0, _, _ => none
  | g + 1, e, ts =>
    match ts with
    | [] => none
    | t :: r =>
      if t.text = whenT' then (if r = [] then none else
        bindP (conP r) fun c ts => bindP (enclosedP openT nameP shutT ts) fun x ts => whenP g (.mk 11 x 0 [c] [e]) ts)
      else some (.ok e (t :: r))
def sampledP (U E : PrX) (o : Nat) (ts : List Tok) : Pr Ex :=
  bindP (atomP E o ts) fun e ts =>
    if e.op = 14 ∧ atP everyT ts = true then (if ts.tail = [] then none else bindP (U ts.tail o) fun k ts => whenP (ts.length + 1) (.mk 15 [] 0 [] [e, k]) ts)
    else whenP (ts.length + 1) e ts
def choiceP (E : PrX) (o : Nat) (ts : List Tok) : Pr Ex :=
  bindP (wantP ifT ts) fun _ ts => bindP (E ts o) fun a ts => bindP (wantP thenT ts) fun _ ts => bindP (E ts o) fun b ts => bindP (wantP elseT ts) fun _ ts => bindP (E ts o) fun c ts => some (.ok (.mk 7 [] 0 [] [a, b, c]) ts)
def prefixedP (U E : PrX) (o : Nat) : List Tok → Pr Ex
  | [] => none
  | t :: r =>
    if t.text = notT then (if r = [] then none else bindP (U r o) fun k ts => some (.ok (.mk 5 t.text 0 [] [k]) ts))
    else if t.text = minusT then (if r = [] then none else bindP (U r o) fun k ts => some (.ok (.mk 5 t.text 0 [] [k]) ts))
    else if t.text = preT then (if r = [] then none else bindP (U r o) fun k ts => some (.ok (.mk 9 [] 0 [] [k]) ts))
    else if t.text = ifT then choiceP E o (t :: r)
    else sampledP U E o (t :: r)
mutual
/-- operands of more than a strength, with operators of this strength between them -/
def opX : Nat → Nat → PrX
  | 0, _, _, _ => none
  | f + 1, s, ts, o => if s = 8 then unX f ts o else bindP (opX f (s + 1) ts o) fun e ts => loopX f s e ts o
def loopX : Nat → Nat → Ex → PrX
  | 0, _, _, _, _ => none
  | f + 1, s, e, ts, o =>
    match ts with
    | [] => none
    | t :: r =>
      if strongT t.text = s then (if r = [] then none
        else if s = 1 ∨ s = 2 then bindP (opX f s r o) fun k ts => some (.ok (operE t.text e k) ts)
        else if s = 5 then bindP (opX f (s + 1) r o) fun k ts => some (.ok (operE t.text e k) ts)
        else bindP (opX f (s + 1) r o) fun k ts => loopX f s (operE t.text e k) ts o)
      else some (.ok e (t :: r))
def unX : Nat → PrX
  | 0, _, _ => none
  | f + 1, ts, o =>
    match ts with
    | [] => none
    | t :: r => if o = 100 then some (.bad (faultT 9 t)) else prefixedP (unX f) (opX f 1) (o + 1) (t :: r)
end
end Go.Proofs.YtaimagfdjbedeaaGreatDoor
