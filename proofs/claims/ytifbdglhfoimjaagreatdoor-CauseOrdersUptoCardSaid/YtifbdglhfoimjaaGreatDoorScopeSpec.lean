/-
  Plain mathematics of scope: what a program may use, and the first place where it uses what is not there. Nothing of the program stands here.
-/
import Derived.Test.YtifbdglhfoimjaaGreatDoorTreeSpec
namespace Go.Proofs.YtifbdglhfoimjaaGreatDoor

/-- may all these names be recorded, one behind the other, beside those that are there? -/
def recOk : List Tx → List Tx → Bool
  | _, [] => true
  | m, s :: r => !m.contains s && recOk (m ++ [s]) r
theorem recOk_cons (m : List Tx) (s : Tx) (r : List Tx) : recOk m (s :: r) = (!m.contains s && recOk (m ++ [s]) r) := rfl
theorem recOk_app (a b : List Tx) : ∀ m, recOk m (a ++ b) = (recOk m a && recOk (m ++ a) b) := by
  induction a with
  | nil => intro m; simp [recOk]
  | cons x r ih => intro m; simp [recOk, ih, Bool.and_assoc]
theorem recOk_iff (l : List Tx) : ∀ m, m.Nodup → (recOk m l = true ↔ (m ++ l).Nodup) := by
  induction l with
  | nil => intro m hm; simp [recOk, hm]
  | cons x r ih =>
    intro m hm
    rw [recOk_cons, Bool.and_eq_true, Bool.not_eq_true', ← Bool.not_eq_true, List.contains_iff_mem]
    constructor
    · rintro ⟨h1, h2⟩
      have := (ih (m ++ [x]) (by rw [List.nodup_append]; exact ⟨hm, by simp, fun a ha b hb => by simp at hb; subst hb; intro e; subst e; exact h1 ha⟩)).1 h2
      simpa using this
    · intro h
      have h1 : x ∉ m := by
        rw [List.nodup_append] at h
        intro hx
        exact h.2.2 x hx x (by simp) rfl
      refine ⟨h1, (ih (m ++ [x]) ?_).2 (by simpa using h)⟩
      rw [List.nodup_append]
      exact ⟨hm, by simp, fun a ha b hb => by simp at hb; subst hb; intro e; subst e; exact h1 ha⟩
/-- the names that an item defines -/
def definedQ (i : QItem) : List Tx :=
  match i.states with
  | [] => i.eq.names
  | s :: _ => s.eqs.flatMap QEq.names
def varsQ (n : QNode) : List Tx := n.ins ++ n.items.flatMap definedQ
/-- the names that a state defines, each by one equation -/
def onceF : List Tx → List QEq → Option (List Tx)
  | m, [] => some m
  | m, q :: r => if q.names.length = 1 ∧ recOk m q.names = true then onceF (m ++ q.names) r else none
def onceQ (s : QState) : Option (List Tx) := onceF [] s.eqs
def sameSet (a b : List Tx) : Bool := a.length == b.length && a.all b.contains
def leadsQ (s : QState) (names : List Tx) : Bool := s.ways.all fun y => names.contains y.to
/-- the enums so far, their constructors with all that stand beside them, the nodes ahead, the states so far -/
structure SProg where
  enums : List Tx
  cons : List (Tx × List Tx)
  nodes : List (Tx × QNode)
  states : List Tx
def SProg.conKeys (s : SProg) : List Tx := s.cons.map Prod.fst
def SProg.nodeKeys (s : SProg) : List Tx := s.nodes.map Prod.fst
def boolsL : List Tx := [[70, 97, 108, 115, 101], [84, 114, 117, 101]]
def SProg.new : SProg := ⟨[], boolsL.map fun c => (c, boolsL), [], []⟩
def SProg.addEnum (s : SProg) (e : QEnum) : SProg := { s with enums := s.enums ++ [e.name], cons := s.cons ++ e.cons.map fun c => (c, e.cons) }
def enumOk (s : SProg) (e : QEnum) : Bool := recOk s.enums [e.name] && recOk s.conKeys e.cons
def headOk (s : SProg) (n : QNode) : Bool :=
  !s.nodeKeys.contains n.name && (recOk [] (n.funs ++ n.ins) && (recOk [] n.outs && !n.funs.any fun f => f == n.name || s.nodeKeys.contains f))
def statesOk (s : SProg) (l : List QState) : Bool :=
  !((l.map QState.name).any s.conKeys.contains) && (recOk s.states (l.map QState.name) && l.all fun q =>
    match onceQ q with
    | none => false
    | some own => sameSet own (((l.head?.bind onceQ).getD [])) && leadsQ q (l.map QState.name))
def itemOk (s : SProg) (vars : List Tx) (i : QItem) : Bool :=
  recOk vars (definedQ i) && (if i.states = [] then i.eq.names.length == 1 || (i.eq.e.op == 14 || i.eq.e.op == 15) else statesOk s i.states)
def SProg.addItem (s : SProg) (i : QItem) : SProg := { s with states := s.states ++ i.states.map QState.name }
/-- what the items define, item by item; the first that may not -/
def itemsF (b : Int) : SProg → List Tx → List QItem → (SProg × List Tx) ⊕ Int
  | s, vars, [] => .inl (s, vars)
  | s, vars, i :: r => if itemOk s vars i = true then itemsF (b + 1) (s.addItem i) (vars ++ definedQ i) r else .inr b
/-- what an expression may use: static parameters, variables, the program's -/
structure SNode where
  prog : SProg
  funs : List Tx
  vars : List Tx
def getA {X : Type} (l : List (Tx × X)) (s : Tx) : Option X := (l.find? fun p => p.1 == s).map Prod.snd
def passQ (s : SNode) (f : Tx) : Bool := s.funs.contains f || (match getA s.prog.nodes f with | some n => n.funs.isEmpty | none => false)
def completeQ (s : SNode) (l : List Tx) : Bool :=
  match l with
  | [] => false
  | c :: _ => match getA s.prog.cons c with | some cs => l == cs | none => false
def callQ (s : SNode) (nm : Tx) (cs : List Tx) (k : Nat) (results : Int) : Bool :=
  if s.funs.contains nm then cs.isEmpty
  else match getA s.prog.nodes nm with
    | none => false
    | some n => n.ins.length == k && (n.funs.length == cs.length && ((n.outs.length : Int) == results && cs.all (passQ s)))
def usesName (s : SNode) (op : Int) (nm : Tx) (cs : List Tx) (k : Nat) (results : Int) (uns : Bool) : Bool :=
  if op = 4 then s.vars.contains nm
  else if op = 3 then s.prog.conKeys.contains nm
  else if op = 11 then !uns && (s.vars.contains nm && s.prog.conKeys.contains (cs.headD []))
  else if op = 12 then !uns && (s.vars.contains nm && completeQ s cs)
  else if op = 13 then !uns && (s.vars.contains nm && completeQ s cs)
  else if op = 14 then callQ s nm cs k results
  else true
mutual
def usesX (s : SNode) (results : Int) (uns : Bool) : Ex → Bool
  | .mk op nm _ cs ks => usesName s op nm cs ks.length results uns && usesXs s op results (uns || op == 13) true ks
def usesXs (s : SNode) (op results : Int) (uns first : Bool) : List Ex → Bool
  | [] => true
  | k :: r => usesX s (if op = 15 ∧ first = true then results else 1) uns k && usesXs s op results uns false r
end
def usesItem (s : SNode) (i : QItem) : Bool :=
  if i.states = [] then usesX s i.eq.names.length false i.eq.e
  else i.states.all fun q => (q.eqs.all fun e => usesX s 1 true e.e) && q.ways.all fun y => usesX s 1 true y.cond
def usesF (s : SNode) (b : Int) : List QItem → Option Int
  | [] => none
  | i :: r => if usesItem s i = true then usesF s (b + 1) r else some b
/-- a node: the program's scope behind it, or the item where it may not be -/
def nodeStep (s : SProg) (n : QNode) : SProg ⊕ Int :=
  if headOk s n = true then
    match itemsF 0 s n.ins n.items with
    | .inr b => .inr b
    | .inl (s', vars) =>
      if (n.outs.all fun o => (n.items.flatMap definedQ).contains o) = true then
        match usesF ⟨s', n.funs, vars⟩ 0 n.items with
        | some b => .inr b
        | none => .inl { s' with nodes := s'.nodes ++ [(n.name, n)] }
      else .inr (-1)
  else .inr (-1)
def nodesF (k : Int) : SProg → List QNode → Int × Int × Int
  | _, [] => (0, 0, 0)
  | s, n :: r => match nodeStep s n with | .inr b => (4, k, b) | .inl s' => nodesF (k + 1) s' r
def enumsF (k : Int) : SProg → List QEnum → SProg ⊕ Int
  | s, [] => .inl s
  | s, e :: r => if enumOk s e = true then enumsF (k + 1) (s.addEnum e) r else .inr k
def checkQ (made : Bool) (p : QProg) : Int × Int × Int :=
  if rightL made p = 0 then
    match enumsF 0 .new p.enums with
    | .inr i => (4, -1, i)
    | .inl s => nodesF 0 s p.nodes
  else (rightL made p, 0, 0)
end Go.Proofs.YtifbdglhfoimjaaGreatDoor
