/-
  The reference's Check, plain mathematics: the scope behind the first enums, behind the first nodes and items, read off the lists by index, is the one that Check's scope grows to.
  The reference's Check: Unlike, all, enum, head.
  The reference's Check: head.
  The reference's Check: States.
  The reference's Check: automaton.
  The reference's Check: call.
-/
import Derived.Test.YtbpbnebcbjacdaaGreatScopeFinds0
import Derived.Test.YtbpbnebcbjacdaaGreatTreeRR
namespace Go.Proofs.YtbpbnebcbjacdaaGreat
open Go.RowKit

theorem recOk_split (l : List Tx) : ∀ m a, recOk (m ++ a) l = (l.all (fun x => !m.contains x) && recOk a l) := by
  induction l with
  | nil => intro m a; simp [recOk]
  | cons x r ih =>
    intro m a
    rw [recOk_cons, recOk_cons, List.append_assoc, ih m (a ++ [x]), List.contains_append, List.all_cons]
    cases m.contains x <;> cases a.contains x <;> cases recOk (a ++ [x]) r <;> cases r.all (fun x => !m.contains x) <;> rfl
theorem recOk_two (m l : List Tx) : recOk m l = (l.all (fun x => !m.contains x) && recOk [] l) := by
  have := recOk_split l m []
  rwa [List.append_nil] at this
/-- the names of the states of an item -/
def stNames (i : QItem) : List Tx := i.states.map QState.name
def stBefore (ns : List QNode) (is : List QItem) : List Tx := (ns.flatMap fun n => n.items.flatMap stNames) ++ is.flatMap stNames
def consOf (l : List QEnum) : List (Tx × List Tx) := boolsL.map (fun c => (c, boolsL)) ++ l.flatMap (fun e => e.cons.map fun c => (c, e.cons))
/-- the scope behind these enums, nodes, items -/
def envS (es : List QEnum) (ns : List QNode) (is : List QItem) : SProg := ⟨es.map QEnum.name, consOf es, ns.map (fun n => (n.name, n)), stBefore ns is⟩
theorem env_new : envS [] [] [] = SProg.new := rfl
theorem env_enum (es : List QEnum) (e : QEnum) : (envS es [] []).addEnum e = envS (es ++ [e]) [] [] := by
  simp [envS, SProg.addEnum, consOf, stBefore]
theorem env_item (es : List QEnum) (ns : List QNode) (is : List QItem) (i : QItem) : (envS es ns is).addItem i = envS es ns (is ++ [i]) := by
  simp [envS, SProg.addItem, stBefore, stNames]
theorem env_node (es : List QEnum) (ns : List QNode) (n : QNode) : ({ envS es ns n.items with nodes := (envS es ns n.items).nodes ++ [(n.name, n)] } : SProg) = envS es (ns ++ [n]) [] := by
  simp [envS, stBefore]
theorem env_enumKeys (es : List QEnum) (ns : List QNode) (is : List QItem) : (envS es ns is).enums = es.map QEnum.name := rfl
theorem env_conKeys (es : List QEnum) (ns : List QNode) (is : List QItem) : (envS es ns is).conKeys = boolsL ++ es.flatMap QEnum.cons := by
  simp [envS, SProg.conKeys, consOf, List.map_flatMap, Function.comp_def]
theorem env_nodeKeys (es : List QEnum) (ns : List QNode) (is : List QItem) : (envS es ns is).nodeKeys = ns.map QNode.name := by
  simp [envS, SProg.nodeKeys, Function.comp_def]
/-- enums: fold from a place -/
theorem enumsF_env (r : List QEnum) : ∀ (l : List QEnum) (k : Int) (s : SProg), enumsF k (envS l [] []) r = .inl s → s = envS (l ++ r) [] [] := by
  induction r with
  | nil => intro l k s h; rw [List.append_nil]; exact (Sum.inl.inj h).symm
  | cons e r ih =>
    intro l k s h
    rw [enumsF_cons] at h
    by_cases he : enumOk (envS l [] []) e = true
    · rw [if_pos he, env_enum] at h
      have := ih _ _ _ h
      rwa [List.append_assoc] at this
    · rw [if_neg he] at h; cases h
theorem enums_keys (r : List QEnum) : ∀ (l : List QEnum) (k : Int) (s : SProg), (boolsL ++ l.flatMap QEnum.cons).Nodup → enumsF k (envS l [] []) r = .inl s → (boolsL ++ (l ++ r).flatMap QEnum.cons).Nodup := by
  induction r with
  | nil => intro l k s hn h; simpa using hn
  | cons e r ih =>
    intro l k s hn h
    rw [enumsF_cons] at h
    by_cases he : enumOk (envS l [] []) e = true
    · rw [if_pos he, env_enum] at h
      have h1 : recOk (boolsL ++ l.flatMap QEnum.cons) e.cons = true := by
        unfold enumOk at he
        rw [Bool.and_eq_true, env_conKeys] at he
        exact he.2
      have h2 := (recOk_iff _ _ hn).1 h1
      have := ih (l ++ [e]) _ _ (by simpa using h2) h
      simpa using this
    · rw [if_neg he] at h; cases h
theorem keys_nodup {p : QProg} {s : SProg} (h : enumsF 0 .new p.enums = .inl s) : (boolsL ++ p.enums.flatMap QEnum.cons).Nodup := by
  have := enums_keys p.enums [] 0 s (by decide) (by rw [env_new]; exact h)
  simpa using this
/-- is a name a constructor? -/
theorem conF_is (s : Tx) (l : List QEnum) : ∀ k, (conF k s l).2.2 = (l.flatMap QEnum.cons).contains s := by
  induction l with
  | nil => intro k; simp [conF]
  | cons e r ih =>
    intro k
    rw [conF, List.flatMap_cons, List.contains_append, ← idxF_pos s e.cons 0 (by omega)]
    by_cases h : 0 ≤ idxL e.cons s
    · have h' : 0 ≤ idxF 0 s e.cons := h
      rw [if_pos h]; simp [h']
    · have h' : ¬ 0 ≤ idxF 0 s e.cons := h
      rw [if_neg h, ih]; simp [h']
theorem conQ_is (p : QProg) (s : Tx) : (conQ p s).2.2 = (boolsL ++ p.enums.flatMap QEnum.cons).contains s := by
  rw [conQ, List.contains_append, ← idxF_pos s boolsL 0 (by omega)]
  by_cases h : 0 ≤ idxL boolsL s
  · have h' : 0 ≤ idxF 0 s boolsL := h
    rw [if_pos h]; simp [h']
  · have h' : ¬ 0 ≤ idxF 0 s boolsL := h
    rw [if_neg h, conF_is]; simp [h']
theorem conQ_env (es : List QEnum) (ns : List QNode) (is : List QItem) (ns' : List QNode) (s : Tx) : (conQ ⟨es, ns'⟩ s).2.2 = (envS es ns is).conKeys.contains s := by
  rw [conQ_is, env_conKeys]
/-- is a name a node's? -/
theorem nodeF_is (s : Tx) (l : List QNode) : ∀ k : Int, (nodeF k s l).2 = (l.map QNode.name).contains s := by
  induction l with
  | nil => intro k; simp [nodeF]
  | cons n r ih =>
    intro k
    rw [nodeF, List.map_cons, List.contains_cons]
    by_cases h : n.name = s
    · rw [if_pos h]; simp [h]
    · rw [if_neg h, ih]
      have : (s == n.name) = false := by simpa using fun e => h e.symm
      rw [this, Bool.false_or]
theorem nodeF_env (es : List QEnum) (ns : List QNode) (is : List QItem) (s : Tx) : (nodeF 0 s ns).2 = (envS es ns is).nodeKeys.contains s := by
  rw [nodeF_is, env_nodeKeys]
theorem nodeF_get (s : Tx) (l : List QNode) : ∀ k : Nat, (match nodeF k s l with | (i, true) => ∃ j : Nat, ∃ n, i = (k + j : Nat) ∧ l[j]? = some n ∧ getA (l.map fun n => (n.name, n)) s = some n | (_, false) => getA (l.map fun n => (n.name, n)) s = none) := by
  induction l with
  | nil => intro k; simp [nodeF, getA]
  | cons n r ih =>
    intro k
    rw [nodeF]
    by_cases h : n.name = s
    · rw [if_pos h]
      refine ⟨0, n, by simp, rfl, ?_⟩
      simp [getA, h]
    · rw [if_neg h]
      have hg : getA ((n :: r).map fun n => (n.name, n)) s = getA (r.map fun n => (n.name, n)) s := by
        have : (n.name == s) = false := by simpa using h
        simp [getA, this]
      have h1 := ih (k + 1)
      rw [show ((k : Int) + 1) = ((k + 1 : Nat) : Int) by omega, hg]
      revert h1
      cases nodeF ((k + 1 : Nat) : Int) s r with
      | mk i b =>
        cases b with
        | false => exact id
        | true => rintro ⟨j, m, h2, h3, h4⟩; exact ⟨j + 1, m, by rw [h2]; omega, h3, h4⟩
theorem node_get {p : List QNode} {s : Tx} {i : Int} {b : Bool} (h : nodeF 0 s p = (i, b)) : (b = true → ∃ j : Nat, ∃ n, i = j ∧ p[j]? = some n ∧ getA (p.map fun n => (n.name, n)) s = some n) ∧ (b = false → getA (p.map fun n => (n.name, n)) s = none) := by
  have := nodeF_get s p 0
  rw [show ((0 : Nat) : Int) = 0 from rfl, h] at this
  cases b with
  | false => exact ⟨fun e => (by cases e), fun _ => this⟩
  | true => obtain ⟨j, n, h1, h2, h3⟩ := this; exact ⟨fun _ => ⟨j, n, by rw [h1]; omega, h2, h3⟩, fun e => by cases e⟩
theorem head_env (es : List QEnum) (ns : List QNode) (is : List QItem) (n : QNode) : headOk (envS es ns is) n =
    (!((nodeF 0 n.name ns).2 || (!recOk [] (n.funs ++ n.ins) || (!recOk [] n.outs || n.funs.contains n.name))) && n.funs.all fun f => !(nodeF 0 f ns).2) := by
  unfold headOk
  rw [nodeF_env es ns is]
  simp only [nodeF_env es ns is]
  have h : (n.funs.any fun f => f == n.name || (envS es ns is).nodeKeys.contains f) = (n.funs.contains n.name || n.funs.any (envS es ns is).nodeKeys.contains) := by
    induction n.funs with
    | nil => rfl
    | cons f r ih =>
      rw [List.any_cons, ih, List.contains_cons, List.any_cons, Bool.beq_comm]
      cases n.name == f <;> cases (envS es ns is).nodeKeys.contains f <;> cases r.contains n.name <;> rfl
  have h2 : (n.funs.all fun f => !(envS es ns is).nodeKeys.contains f) = !n.funs.any (envS es ns is).nodeKeys.contains := by
    induction n.funs with
    | nil => rfl
    | cons f r ih => rw [List.all_cons, ih, List.any_cons, Bool.not_or]
  rw [h, h2]
  cases (envS es ns is).nodeKeys.contains n.name <;> cases recOk [] (n.funs ++ n.ins) <;> cases recOk [] n.outs <;> cases n.funs.contains n.name <;> rfl
/-- one enum, behind the earlier ones -/
theorem enum_env (es : List QEnum) (e : QEnum) : enumOk (envS es [] []) e = ((es.all fun x => !(x.name == e.name)) && ((e.cons.all fun c => !(conQ ⟨es, []⟩ c).2.2) && recOk [] e.cons)) := by
  unfold enumOk
  rw [recOk_two, recOk_two _ e.cons]
  simp only [conQ_env es [] []]
  have h : ([e.name].all fun x => !(envS es [] []).enums.contains x) = es.all fun x => !(x.name == e.name) := by
    rw [env_enumKeys, List.all_cons, List.all_nil, Bool.and_true]
    induction es with
    | nil => rfl
    | cons x r ih => rw [List.map_cons, List.contains_cons, List.all_cons, ← ih, Bool.beq_comm]; cases x.name == e.name <;> simp
  rw [h, show recOk [] [e.name] = true from rfl, Bool.and_true]
/-- what a state defines: each by one equation -/
def oneEach (l : List QEq) : Bool := l.all fun q => q.names.length == 1
theorem once_is (l : List QEq) : ∀ m, onceF m l = if (oneEach l && recOk m (l.flatMap QEq.names)) = true then some (m ++ l.flatMap QEq.names) else none := by
  induction l with
  | nil => intro m; simp [onceF, oneEach, recOk]
  | cons q r ih =>
    intro m
    rw [onceF, List.flatMap_cons, recOk_app, ih]
    have h : oneEach (q :: r) = (q.names.length == 1 && oneEach r) := rfl
    rw [h]
    by_cases h1 : q.names.length = 1
    · cases h2 : recOk m q.names
      · simp
      · cases oneEach r <;> cases recOk (m ++ q.names) (r.flatMap QEq.names) <;> simp [h1, List.append_assoc]
    · have h3 : (q.names.length == 1) = false := by simpa using h1
      rw [if_neg (fun h => h1 h.1), h3]; simp
def stateOk (first names : List Tx) (q : QState) : Bool :=
  oneEach q.eqs && ((q.eqs.flatMap QEq.names).all first.contains && (((q.eqs.flatMap QEq.names).length == first.length && recOk [] (q.eqs.flatMap QEq.names)) && q.ways.all fun y => names.contains y.to))
theorem all_congr' {X : Type} {f g : X → Bool} (l : List X) (h : ∀ x ∈ l, f x = g x) : l.all f = l.all g := by
  induction l with
  | nil => rfl
  | cons x r ih => rw [List.all_cons, List.all_cons, h x (by simp), ih (fun y hy => h y (by simp [hy]))]
def stateTry (first names : List Tx) (q : QState) : Bool :=
  match onceQ q with
  | none => false
  | some own => sameSet own first && leadsQ q names
theorem states_try (s : SProg) (l : List QState) : statesOk s l = (!((l.map QState.name).any s.conKeys.contains) && (recOk s.states (l.map QState.name) && l.all (stateTry ((l.head?.bind onceQ).getD []) (l.map QState.name)))) := rfl
theorem state_all (z : QState) (r : List QState) (names : List Tx) : (z :: r).all (stateTry (((z :: r).head?.bind onceQ).getD []) names) = (z :: r).all (stateOk (z.eqs.flatMap QEq.names) names) := by
  unfold stateTry
  have hz : (z :: r).head?.bind onceQ = onceQ z := rfl
  rw [hz]
  cases hc : (oneEach z.eqs && recOk [] (z.eqs.flatMap QEq.names))
  · have h1 : onceQ z = none := by unfold onceQ; rw [once_is, hc]; rfl
    have h2 : stateOk (z.eqs.flatMap QEq.names) names z = false := by
      unfold stateOk
      revert hc
      cases oneEach z.eqs <;> cases recOk [] (z.eqs.flatMap QEq.names) <;> simp
    rw [List.all_cons, List.all_cons, h1, h2]; rfl
  · have h1 : onceQ z = some (z.eqs.flatMap QEq.names) := by unfold onceQ; rw [once_is, hc]; rfl
    rw [h1]
    refine all_congr' _ fun q _ => ?_
    have h2 : onceQ q = if (oneEach q.eqs && recOk [] (q.eqs.flatMap QEq.names)) = true then some (q.eqs.flatMap QEq.names) else none := by unfold onceQ; rw [once_is]; rfl
    rw [h2]
    unfold stateOk leadsQ sameSet
    cases oneEach q.eqs <;> cases recOk [] (q.eqs.flatMap QEq.names) <;> simp <;> cases (q.eqs.flatMap QEq.names).all (z.eqs.flatMap QEq.names).contains <;> simp [Bool.and_comm, Bool.and_assoc, Bool.and_left_comm]
theorem states_env (es : List QEnum) (ns : List QNode) (is : List QItem) (ns' : List QNode) (z : QState) (r : List QState) : statesOk (envS es ns is) (z :: r) =
    (((z :: r).all fun q => !((conQ ⟨es, ns'⟩ q.name).2.2 || (stBefore ns is).contains q.name)) && (recOk [] ((z :: r).map QState.name) && (z :: r).all (stateOk (z.eqs.flatMap QEq.names) ((z :: r).map QState.name)))) := by
  rw [states_try, state_all, recOk_two, show (envS es ns is).states = stBefore ns is from rfl]
  simp only [conQ_env es ns is]
  generalize (envS es ns is).conKeys = ck
  generalize stBefore ns is = sb
  have h : ((z :: r).all fun q => !(ck.contains q.name || sb.contains q.name)) = (!((z :: r).map QState.name).any ck.contains && ((z :: r).map QState.name).all fun x => !sb.contains x) := by
    induction (z :: r) with
    | nil => rfl
    | cons q l ih =>
      rw [List.all_cons, ih, List.map_cons, List.any_cons, List.all_cons]
      cases ck.contains q.name <;> cases sb.contains q.name <;> cases (l.map QState.name).any ck.contains <;> cases (l.map QState.name).all (fun x => !sb.contains x) <;> rfl
  rw [h, Bool.and_assoc, Bool.and_assoc]
/-- what an item defines -/
theorem item_env (es : List QEnum) (ns : List QNode) (is : List QItem) (vars : List Tx) (i : QItem) : itemOk (envS es ns is) vars i =
    (((definedQ i).all fun x => !vars.contains x) && (recOk [] (definedQ i) && (if i.states = [] then i.eq.names.length == 1 || (i.eq.e.op == 14 || i.eq.e.op == 15) else statesOk (envS es ns is) i.states))) := by
  unfold itemOk
  rw [recOk_two, Bool.and_assoc]
/-- are these all constructors of an enum? -/
def allCons (es : List QEnum) (l : List Tx) : Bool := l == boolsL || es.any fun e => l == e.cons
theorem getA_mem {X : Type} {l : List (Tx × X)} {s : Tx} {v : X} (h : getA l s = some v) : (s, v) ∈ l := by
  unfold getA at h
  cases hf : l.find? (fun p => p.1 == s) with
  | none => rw [hf] at h; cases h
  | some q =>
    rw [hf] at h
    cases h
    have h1 := List.find?_some hf
    have h2 := List.mem_of_find?_eq_some hf
    have h3 : q.1 = s := by simpa using h1
    rw [← h3]; exact h2
theorem getA_of {X : Type} {l : List (Tx × X)} {s : Tx} {v : X} (hn : (l.map Prod.fst).Nodup) (h : (s, v) ∈ l) : getA l s = some v := by
  induction l with
  | nil => cases h
  | cons q r ih =>
    rw [List.map_cons, List.nodup_cons] at hn
    rcases List.mem_cons.1 h with h1 | h1
    · subst h1; simp [getA]
    · have hne : (q.1 == s) = false := by
        rw [beq_eq_false_iff_ne]
        intro e
        exact hn.1 (List.mem_map.2 ⟨(s, v), h1, e.symm⟩)
      have := ih hn.2 h1
      unfold getA at this ⊢
      rw [List.find?_cons, hne]
      exact this
theorem mem_consOf {es : List QEnum} {s : Tx} {cs : List Tx} : (s, cs) ∈ consOf es ↔ (s ∈ boolsL ∧ cs = boolsL) ∨ ∃ e ∈ es, s ∈ e.cons ∧ cs = e.cons := by
  unfold consOf
  rw [List.mem_append, List.mem_map, List.mem_flatMap]
  constructor
  · rintro (⟨c, h1, h2⟩ | ⟨e, h1, h2⟩)
    · cases h2; exact .inl ⟨h1, rfl⟩
    · obtain ⟨c, h3, h4⟩ := List.mem_map.1 h2
      cases h4
      exact .inr ⟨e, h1, h3, rfl⟩
  · rintro (⟨h1, rfl⟩ | ⟨e, h1, h2, rfl⟩)
    · exact .inl ⟨s, h1, rfl⟩
    · exact .inr ⟨e, h1, List.mem_map.2 ⟨s, h2, rfl⟩⟩
theorem complete_env {es : List QEnum} (hn : (boolsL ++ es.flatMap QEnum.cons).Nodup) (ns : List QNode) (is : List QItem) (f v : List Tx) {l : List Tx} (hl : l ≠ []) : completeQ ⟨envS es ns is, f, v⟩ l = allCons es l := by
  cases l with
  | nil => exact absurd rfl hl
  | cons c r =>
    have hk : ((consOf es).map Prod.fst).Nodup := by
      have := env_conKeys es ns is
      unfold SProg.conKeys at this
      rw [show (envS es ns is).cons = consOf es from rfl] at this
      rw [this]; exact hn
    show (match getA (consOf es) c with | some cs => (c :: r) == cs | none => false) = allCons es (c :: r)
    have h1 : ∀ cs, (c :: r) = cs → (c, cs) ∈ consOf es → getA (consOf es) c = some (c :: r) := by
      intro cs e h; subst e; exact getA_of hk h
    by_cases ha : allCons es (c :: r) = true
    · rw [ha]
      unfold allCons at ha
      rw [Bool.or_eq_true, List.any_eq_true] at ha
      have h2 : getA (consOf es) c = some (c :: r) := by
        rcases ha with h | ⟨e, he, h⟩
        · have h3 : c :: r = boolsL := by simpa using h
          exact h1 _ h3 (mem_consOf.2 (.inl ⟨by rw [← h3]; simp, rfl⟩))
        · have h3 : c :: r = e.cons := by simpa using h
          exact h1 _ h3 (mem_consOf.2 (.inr ⟨e, he, by rw [← h3]; simp, rfl⟩))
      rw [h2]; simp
    · have ha' : allCons es (c :: r) = false := by simpa using ha
      rw [ha']
      cases hg : getA (consOf es) c with
      | none => rfl
      | some cs =>
        show ((c :: r) == cs) = false
        rw [beq_eq_false_iff_ne]
        intro e
        subst e
        apply ha
        unfold allCons
        rw [Bool.or_eq_true, List.any_eq_true]
        rcases mem_consOf.1 (getA_mem hg) with ⟨_, h⟩ | ⟨e, he, _, h⟩
        · exact .inl (by rw [h]; simp)
        · exact .inr ⟨e, he, by rw [h]; simp⟩
end Go.Proofs.YtbpbnebcbjacdaaGreat
namespace Go.Proofs.YtbpbnebcbjacdaaGreat
open Go.RowKit

/-- an append of strings, beside other operations -/
theorem step_strs {ops : Array Oper} {o : Oper} {a : Act} {W : World} {K : Act → World → Prop} {Q : Exit → Act → World → Prop} {D : Prop} {B : Nat} {v : Value} {xs ys : List Tx} {A : Option Addr} {n c : Nat} (hg : o.guard = none) (s x : Operand)
    (hop : o.op = .call { callee := .builtin .append, args := #[s, x], argTypes := #[37, 37] })
    (hs : a.eval s = v) (hx : a.eval x = .slice A n c) (hO : OwnS B W v xs) (hS : StrsAt W (.slice A n c) ys) (hl : xs.length + ys.length ≤ 4194304) (hB : B ≤ W.heap.size)
    (hK : ∀ v' w', AppSS B (xs ++ ys) v W v' w' → K (a.put o.dst v') w') : if Region.wanted o (yielded ops a.tmps) = true then Oper.wp Tryz.prog o a W K Q else D := by
  have hw : Region.wanted o (yielded ops a.tmps) = true := by simp [Region.wanted, hg]
  rw [if_pos hw]
  exact wp_strs s x hop hs hx hO hS hl hB hK
set_option maxHeartbeats 2000000 in
theorem rUnlike_any {w0 : World} {va : Value} {l : List Tx} (ha : StrsAt w0 va l) : ∀ w, Below w0.heap.size w0 w → Calls Tryz.prog 49 #[va] w (BoolPost (recOk [] l) w) := by
  intro w hb
  have HL := Lib.hid (ha.under hb)
  obtain ⟨A, c, rfl, hlc, hmc, he⟩ := ha.under hb
  have hll : l.length ≤ 9223372036854775807 := by unfold maxLen at hmc; omega
  have hcap : l.length ≤ c := hlc
  have HE := Lib.hid he
  clear he hlc hmc hb ha
  go_enter Tryz.func49, Tryz.ntmps49
  go_wp2_with fail
  go_loopg [3] l.length (fun g v wr => ∃ i : Nat, i + g = l.length ∧ v = .int .i64 i ∧ recOk [] l = recOk (l.take i) (l.drop i) ∧ Below w.heap.size w wr)
  case atStart => exact ⟨0, by omega, rfl, rfl, Below.refl _ _⟩
  case round =>
    obtain ⟨wi, rfl⟩ : ∃ W, W = wr := ⟨_, rfl⟩
    obtain ⟨i, hig, rfl, hr, hbi⟩ := hrel
    have HI := Lib.hid hig
    have HR := Lib.hid hr
    have HWI := Lib.hid hbi
    have hil : i ≤ l.length := by omega
    clear hig hbi hr
    by_cases hlti : i < l.length
    · obtain ⟨x, hx⟩ : ∃ x, l[i]? = some x := ⟨_, List.getElem?_eq_getElem hlti⟩
      have HDR := Lib.hid (drop_consS hx)
      have HTS := Lib.hid (take_snoc hx)
      obtain ⟨Lx, hEx, rfl, _⟩ := HE.out i x hx
      obtain ⟨b, eb, hb, hbb, c0⟩ := elem1 (hEx.under HWI.out)
      subst eb
      rw [Nat.mul_one] at c0 hbb
      have HTK := Lib.hid (show StrsAt wi (.slice (some b) i c) (l.take i) from SliceAt.take (HL.out.under HWI.out) hil)
      have hik : i ≤ c := by omega
      have HREC := Lib.hid (show recOk [] l = (!(l.take i).contains x && recOk (l.take (i + 1)) (l.drop (i + 1))) by rw [HR.out, HDR.out, recOk_cons, HTS.out])
      obtain ⟨t, ht⟩ : ∃ t, (l.take i).contains x = t := ⟨_, rfl⟩
      rw [ht] at HREC
      have HT := Lib.hid ht
      clear hx hEx ht
      cases t
      · go_wp2_with fail
        refine wp_region_held_drew (S := (fun W => W.cell? (b.add i) = some (.string (str x)))) (by kernel_rfl) ?_ (fun hHeld => ?_)
        · (try dsimp only); go_keep
        refine take_now 0 rfl ?_
        try simp only [Act.put, setA, setZ, setS]
        refine take_now 1 rfl ?_
        try simp only [Act.put, setA, setZ, setS]
        refine take_now 2 rfl ?_
        try simp only [Act.put, setA, setZ, setS]
        refine take_now 3 rfl ?_
        try simp only [Act.put, setA, setZ, setS]
        refine take_now 4 rfl ?_
        try simp only [Act.put, setA, setZ, setS]
        refine take_now 5 rfl ?_
        try simp only [Act.put, setA, setZ, setS]
        refine take_now 6 rfl ?_
        try simp only [Act.put, setA, setZ, setS]
        refine only_at 7 (by kernel_rfl) rfl (fun K hK => ?_)
        go_simp
        (go_at_call 21
         (with_reducible refine (has_any (HTK.out.under (Below.refl _ wi).drew) x).mono ?_)
         rintro e w10 ⟨he, rfl⟩
         rw [HT.out] at he
         subst he)
        refine hK.out _ _ ?_ (fun hHeld => ?_)
        · (try dsimp only); go_keep
        clear hK K
        refine wpAnyH_done (by kernel_rfl) ?_ _
        go_wp2_with fail
        go_roundg (l.length - (i + 1))
        case measure => have := HI.out; omega
        case rel => exact ⟨i + 1, by omega, by go_num, by rw [HREC.out]; rfl, HWI.out.drew⟩
      · go_wp2_with fail
        refine wp_region_held_drew (S := (fun W => W.cell? (b.add i) = some (.string (str x)))) (by kernel_rfl) ?_ (fun hHeld => ?_)
        · (try dsimp only); go_keep
        refine take_now 0 rfl ?_
        try simp only [Act.put, setA, setZ, setS]
        refine take_now 1 rfl ?_
        try simp only [Act.put, setA, setZ, setS]
        refine take_now 2 rfl ?_
        try simp only [Act.put, setA, setZ, setS]
        refine take_now 3 rfl ?_
        try simp only [Act.put, setA, setZ, setS]
        refine take_now 4 rfl ?_
        try simp only [Act.put, setA, setZ, setS]
        refine take_now 5 rfl ?_
        try simp only [Act.put, setA, setZ, setS]
        refine take_now 6 rfl ?_
        try simp only [Act.put, setA, setZ, setS]
        refine only_at 7 (by kernel_rfl) rfl (fun K hK => ?_)
        go_simp
        (go_at_call 21
         (with_reducible refine (has_any (HTK.out.under (Below.refl _ wi).drew) x).mono ?_)
         rintro e w10 ⟨he, rfl⟩
         rw [HT.out] at he
         subst he)
        refine hK.out _ _ ?_ (fun hHeld => ?_)
        · (try dsimp only); go_keep
        clear hK K
        refine wpAnyH_done (by kernel_rfl) ?_ _
        go_wp2_with fail
        go_ret
        exact ⟨ret_bool (by rw [HREC.out]; rfl), HWI.out.drew⟩
    · have hie : i = l.length := by omega
      have HN := Lib.hid (show recOk [] l = true by rw [HR.out, hie, List.drop_length]; rfl)
      clear hie
      go_wp2_with fail
      go_ret
      exact ⟨ret_bool HN.out.symm, HWI.out⟩
theorem allCons_any {es : List QEnum} {l : List Tx} (h : (l == boolsL) = false) : allCons es l = es.any fun e => l == e.cons := by unfold allCons; rw [h, Bool.false_or]
theorem allCons_bools {es : List QEnum} {l : List Tx} (h : (l == boolsL) = true) : allCons es l = true := by unfold allCons; rw [h, Bool.true_or]
set_option maxHeartbeats 2000000 in
set_option maxRecDepth 100000 in
theorem rAll_any {w0 : World} {L : List Value} {p : QProg} (hL : ProgAt w0 L p) {va : Value} {l : List Tx} (ha : StrsAt w0 va l) : ∀ w, Below w0.heap.size w0 w → Calls Tryz.prog 104 #[.agg L.toArray, va] w (BoolPost (allCons p.enums l) w) := by
  intro w hb
  have HB := Lib.hid hb
  have hsz := hb.size
  have HA := Lib.hid ha
  obtain ⟨lA, ln, lk, rfl⟩ := SliceAt.shape ha
  obtain ⟨ev, nv, rfl, he, hn⟩ := hL
  obtain ⟨C, cn, ck, rfl⟩ := SliceAt.shape hn
  obtain ⟨E, ek, rfl, hec, hem, hee⟩ := he
  have hel : p.enums.length ≤ 9223372036854775807 := by have h : p.enums.length ≤ ek := hec; unfold maxLen at hem; omega
  have HEE := Lib.hid hee
  have hal := Lib.hid ((Below.refl w.heap.size w).alloc (Nat.le_refl _) (.cells #[.slice E p.enums.length ek, .slice C cn ck] 25))
  have HV := Lib.hid (show Below w.heap.size w ((w.alloc (.cells #[.slice E p.enums.length ek, .slice C cn ck] 25)).alloc (.cells #[.string ⟨#[70, 97, 108, 115, 101]⟩, .string ⟨#[84, 114, 117, 101]⟩] 9)) from hal.out.alloc hal.out.size boolsV)
  have BP := Lib.hid (show ((w.alloc (.cells #[.slice E p.enums.length ek, .slice C cn ck] 25)).alloc (.cells #[.string ⟨#[70, 97, 108, 115, 101]⟩, .string ⟨#[84, 114, 117, 101]⟩] 9)).heap[w.heap.size]? = some (.cells #[.slice E p.enums.length ek, .slice C cn ck] 25 (0, 0)) from alloc_below (heap_alloc_new w _))
  have HBO := Lib.hid (show StrsAt ((w.alloc (.cells #[.slice E p.enums.length ek, .slice C cn ck] 25)).alloc (.cells #[.string ⟨#[70, 97, 108, 115, 101]⟩, .string ⟨#[84, 114, 117, 101]⟩] 9)) (.slice (some ⟨w.heap.size + 1, 0, none⟩) 2 2) boolsL from by
    have := bools_at (w.alloc (.cells #[.slice E p.enums.length ek, .slice C cn ck] 25))
    rw [World.size_alloc] at this
    exact this)
  have HSN := Lib.hid (rSameNames_any (HA.out.under (HB.out.trans (HV.out.mono hsz))) HBO.out _ (Below.refl _ _))
  clear hb hec hem hee hn ha
  obtain ⟨t, ht⟩ : ∃ t, (l == boolsL) = t := ⟨_, rfl⟩
  rw [ht] at HSN
  have HT := Lib.hid ht
  clear ht
  cases t
  · go_enter Tryz.func104, Tryz.ntmps104
    go_wp2_with (go_at_call 16
                 (with_reducible refine HSN.out.mono ?_)
                 rintro e w7 ⟨rfl, hb7⟩
                 obtain ⟨Y, rfl⟩ : ∃ W, W = w7 := ⟨_, rfl⟩
                 have HY := Lib.hid (HV.out.trans (hb7.mono HV.out.size))
                 have BY := Lib.hid (box_next hb7 BP.out)
                 clear hb7)
    go_loopg [5] p.enums.length (fun g v wr => ∃ k : Nat, k + g = p.enums.length ∧ v = .int .i64 k ∧ (p.enums.any fun e => l == e.cons) = ((p.enums.drop k).any fun e => l == e.cons) ∧ Below Y.heap.size Y wr)
    case atStart => exact ⟨0, by omega, rfl, rfl, Below.refl _ _⟩
    case round =>
      obtain ⟨wq, rfl⟩ : ∃ W, W = wr := ⟨_, rfl⟩
      obtain ⟨k, hkg, rfl, hr, hbw⟩ := hrel
      have HK := Lib.hid hkg
      have HR := Lib.hid hr
      have HW := Lib.hid hbw
      have HVW := Lib.hid (HY.out.trans (hbw.mono HY.out.size))
      have HBQ := Lib.hid (HB.out.trans (HVW.out.mono hsz))
      obtain ⟨p0, p1⟩ := row2 (box_next hbw BY.out)
      have hkl : k ≤ p.enums.length := by omega
      clear hkg hr hbw
      by_cases hlt : k < p.enums.length
      · obtain ⟨q, hq⟩ : ∃ q, p.enums[k]? = some q := ⟨_, List.getElem?_eq_getElem hlt⟩
        have HDR := Lib.hid (drop_consS hq)
        obtain ⟨Lq, hEq, cv, rfl, _, hcs⟩ := HEE.out k q hq
        have HCS := Lib.hid hcs
        obtain ⟨cA, cm, cc, rfl⟩ := SliceAt.shape hcs
        obtain ⟨a, ea, ha, haa, d0, d1⟩ := elem2 (hEq.under HBQ.out)
        subst ea
        have HS1 := Lib.hid (rSameNames_any (HA.out.under HBQ.out) (HCS.out.under HBQ.out) _ (Below.refl _ _))
        have HX := Lib.hid (show (p.enums.any fun e => l == e.cons) = ((l == q.cons) || (p.enums.drop (k + 1)).any fun e => l == e.cons) by rw [HR.out, HDR.out, List.any_cons])
        obtain ⟨t, ht⟩ : ∃ t, (l == q.cons) = t := ⟨_, rfl⟩
        rw [ht] at HS1 HX
        clear hq hEq hcs ht
        cases t
        · go_wp2_with (go_at_call 16
                       (with_reducible refine HS1.out.mono ?_)
                       rintro e w7 ⟨rfl, hb7⟩
                       have HB7 := Lib.hid (HW.out.trans (hb7.mono HW.out.size))
                       clear hb7)
          go_roundg (p.enums.length - (k + 1))
          case measure => have := HK.out; omega
          case rel => exact ⟨k + 1, by omega, by go_num, by rw [HX.out, Bool.false_or], HB7.out⟩
        · go_wp2_with (go_at_call 16
                       (with_reducible refine HS1.out.mono ?_)
                       rintro e w7 ⟨rfl, hb7⟩
                       have HB7 := Lib.hid (HVW.out.trans (hb7.mono HVW.out.size))
                       clear hb7)
          go_ret
          exact ⟨ret_bool (by rw [allCons_any HT.out, HX.out]; rfl), HB7.out⟩
      · have hke : k = p.enums.length := by omega
        have HN := Lib.hid (show allCons p.enums l = false by rw [allCons_any HT.out, HR.out, hke, List.drop_length]; rfl)
        clear hke
        go_wp2_with fail
        go_ret
        exact ⟨ret_bool HN.out.symm, HVW.out⟩
  · go_enter Tryz.func104, Tryz.ntmps104
    go_wp2_with (go_at_call 16
                 (with_reducible refine HSN.out.mono ?_)
                 rintro e w7 ⟨rfl, hb7⟩
                 have HY := Lib.hid (HV.out.trans (hb7.mono HV.out.size))
                 clear hb7)
    go_ret
    exact ⟨ret_bool (allCons_bools HT.out).symm, HY.out⟩
set_option maxHeartbeats 4000000 in
set_option maxRecDepth 100000 in
theorem rEnum_any {w0 : World} {L : List Value} {p : QProg} (hL : ProgAt w0 L p) {i : Nat} {e : QEnum} (hi : p.enums[i]? = some e) : ∀ w, Below w0.heap.size w0 w → Calls Tryz.prog 28 #[.agg L.toArray, .int .i64 i] w (BoolPost (enumOk (envS (p.enums.take i) [] []) e) w) := by
  intro w hb
  have HB := Lib.hid hb
  have hsz := hb.size
  have HENV := Lib.hid (enum_env (p.enums.take i) e)
  have hil : i < p.enums.length := (List.getElem?_eq_some_iff.1 hi).1
  have hlt0 : (p.enums.take i).length = i := by rw [List.length_take]; omega
  have HTK := Lib.hid (fun (k : Nat) (h : k < i) => show (p.enums.take i)[k]? = p.enums[k]? by rw [List.getElem?_take, if_pos h])
  obtain ⟨ev, nv, rfl, he, hn⟩ := hL
  have HEV := Lib.hid he
  obtain ⟨C, cn, ck, rfl⟩ := SliceAt.shape hn
  obtain ⟨E, ek, rfl, hec, hem, hee⟩ := he
  have hecap : p.enums.length ≤ ek := hec
  have hel : p.enums.length ≤ 9223372036854775807 := by unfold maxLen at hem; omega
  have HEE := Lib.hid hee
  obtain ⟨Le, hEe, cv, rfl, _, hcs⟩ := hee i e hi
  have HCS := Lib.hid hcs
  obtain ⟨cA, cc, rfl, hcc, hcm, hce⟩ := hcs
  have hcl : e.cons.length ≤ 9223372036854775807 := by have h : e.cons.length ≤ cc := hcc; unfold maxLen at hcm; omega
  have HCE := Lib.hid hce
  obtain ⟨a, ea, ha, haa, d0, d1⟩ := elem2 (hEe.under HB.out)
  subst ea
  have HQP := Lib.hid (show ProgAt w0 [.slice (some a) i ek, .slice none 0 0] ⟨p.enums.take i, []⟩ from ⟨_, _, rfl, SliceAt.take HEV.out (Nat.le_of_lt hil), none, 0, rfl, Nat.le_refl _, by unfold maxLen; omega, fun i x h => by simp at h⟩)
  clear hb hec hem hee hn hEe hcc hcm hce
  go_enter Tryz.func28, Tryz.ntmps28
  go_wp2_with fail
  clear d0 d1
  have HV := Lib.hid (show Below w.heap.size w (((w.alloc (.cells #[.slice (some a) p.enums.length ek, .slice C cn ck] 25)).alloc (.cells #[.string (str e.name), .slice cA e.cons.length cc] 46)).alloc (.cells #[.slice (some a) i ek, .slice none 0 0] 25)) from (((Below.refl w.heap.size w).alloc (Nat.le_refl _) _).alloc (by simp) _).alloc (by simp <;> omega) _)
  have BP := Lib.hid (show (((w.alloc (.cells #[.slice (some a) p.enums.length ek, .slice C cn ck] 25)).alloc (.cells #[.string (str e.name), .slice cA e.cons.length cc] 46)).alloc (.cells #[.slice (some a) i ek, .slice none 0 0] 25)).heap[w.heap.size]? = some (.cells #[.slice (some a) p.enums.length ek, .slice C cn ck] 25 (0, 0)) from alloc_below (alloc_below (heap_alloc_new w _)))
  have BE := Lib.hid (show (((w.alloc (.cells #[.slice (some a) p.enums.length ek, .slice C cn ck] 25)).alloc (.cells #[.string (str e.name), .slice cA e.cons.length cc] 46)).alloc (.cells #[.slice (some a) i ek, .slice none 0 0] 25)).heap[w.heap.size + 1]? = some (.cells #[.string (str e.name), .slice cA e.cons.length cc] 46 (0, 0)) from alloc_below (alloc_at (by simp)))
  have BQ := Lib.hid (show (((w.alloc (.cells #[.slice (some a) p.enums.length ek, .slice C cn ck] 25)).alloc (.cells #[.string (str e.name), .slice cA e.cons.length cc] 46)).alloc (.cells #[.slice (some a) i ek, .slice none 0 0] 25)).heap[w.heap.size + 1 + 1]? = some (.cells #[.slice (some a) i ek, .slice none 0 0] 25 (0, 0)) from alloc_at (by simp))
  generalize (((w.alloc (.cells #[.slice (some a) p.enums.length ek, .slice C cn ck] 25)).alloc (.cells #[.string (str e.name), .slice cA e.cons.length cc] 46)).alloc (.cells #[.slice (some a) i ek, .slice none 0 0] 25)) = V at *
  go_loopg [7] i (fun g v wr => ∃ k : Nat, k + g = i ∧ v = .int .i64 k ∧ ((p.enums.take i).all fun x => !(x.name == e.name)) = (((p.enums.take i).drop k).all fun x => !(x.name == e.name)) ∧ Below V.heap.size V wr)
  case atStart => exact ⟨0, by omega, rfl, rfl, Below.refl _ _⟩
  case round =>
    obtain ⟨wq, rfl⟩ : ∃ W, W = wr := ⟨_, rfl⟩
    obtain ⟨k, hkg, rfl, hr, hbw⟩ := hrel
    have HK := Lib.hid hkg
    have HR := Lib.hid hr
    have HW := Lib.hid hbw
    have HVW := Lib.hid (HV.out.trans (hbw.mono HV.out.size))
    have HBQ := Lib.hid (HB.out.trans (HVW.out.mono hsz))
    have hki : k ≤ i := by omega
    clear hkg hr hbw
    by_cases hlt : k < i
    · obtain ⟨q, hq⟩ : ∃ q, p.enums[k]? = some q := ⟨_, List.getElem?_eq_getElem (by omega)⟩
      have hkl : k < p.enums.length := by omega
      have HDR := Lib.hid (drop_consS ((HTK.out k hlt).trans hq))
      obtain ⟨Lq, hEq, qv, rfl, _, hqs⟩ := HEE.out k q hq
      have HEQ := Lib.hid hEq
      obtain ⟨a', ea', _, hab, _, _⟩ := elem2 (hEq.under HBQ.out)
      cases ea'
      have HX := Lib.hid (show ((p.enums.take i).all fun x => !(x.name == e.name)) = (!(q.name == e.name) && ((p.enums.take i).drop (k + 1)).all fun x => !(x.name == e.name)) by rw [HR.out, HDR.out, List.all_cons])
      have KEEP := Lib.hid (show ∀ W, Below wq.heap.size wq W → (fun W => W.cell? ⟨w.heap.size, 0, none⟩ = some (.slice (some a) p.enums.length ek) ∧ W.cell? ⟨w.heap.size + 1, 0, none⟩ = some (.string (str e.name)) ∧ W.cell? (a.add (k * 2)) = some (.string (str q.name))) W from
        fun W hW => by
          obtain ⟨a', ea', _, _, d0, _⟩ := elem2 (HEQ.out.under (HBQ.out.trans (hW.mono HBQ.out.size)))
          cases ea'
          obtain ⟨p0, _⟩ := row2 (box_next hW (box_next HW.out BP.out))
          obtain ⟨e0, _⟩ := row2 (box_next hW (box_next HW.out BE.out))
          exact ⟨p0, e0, d0⟩)
      clear hq hEq hqs
      by_cases hs : q.name = e.name
      · have hb : ((str q.name).toList == (str e.name).toList) = true := by rw [hs]; simp
        have HN := Lib.hid (show enumOk (envS (p.enums.take i) [] []) e = false by rw [HENV.out, HX.out, hs]; simp)
        clear hs
        go_wp2_with fail
        refine wp_region_held_drew (S := (fun W => W.cell? ⟨w.heap.size, 0, none⟩ = some (.slice (some a) p.enums.length ek) ∧ W.cell? ⟨w.heap.size + 1, 0, none⟩ = some (.string (str e.name)) ∧ W.cell? (a.add (k * 2)) = some (.string (str q.name)))) (by kernel_rfl) ?_ (fun hHeld => ?_)
        · exact KEEP.out _ (Below.refl _ _).drew
        refine take_now 0 rfl ?_
        try simp only [Act.put, setA, setZ, setS]
        refine take_now 1 rfl ?_
        try simp only [Act.put, setA, setZ, setS]
        refine take_now 2 rfl ?_
        try simp only [Act.put, setA, setZ, setS]
        refine take_now 3 rfl ?_
        try simp only [Act.put, setA, setZ, setS]
        refine take_now 4 rfl ?_
        try simp only [Act.put, setA, setZ, setS]
        refine take_now 5 rfl ?_
        try simp only [Act.put, setA, setZ, setS]
        refine take_now 6 rfl ?_
        try simp only [Act.put, setA, setZ, setS]
        refine take_now 7 rfl ?_
        try simp only [Act.put, setA, setZ, setS]
        refine take_now 8 rfl ?_
        try simp only [Act.put, setA, setZ, setS]
        refine wpAnyH_done (by kernel_rfl) ?_ _
        go_wp2_with fail
        go_ret
        exact ⟨ret_bool HN.out.symm, HVW.out.drew⟩
      · have hb : ((str q.name).toList == (str e.name).toList) = false := by rw [str_toL, str_toL]; simpa using hs
        have HN := Lib.hid (show ((p.enums.take i).all fun x => !(x.name == e.name)) = ((p.enums.take i).drop (k + 1)).all fun x => !(x.name == e.name) by rw [HX.out, show (q.name == e.name) = false by simpa using hs]; rfl)
        clear hs
        go_wp2_with fail
        refine wp_region_held_drew (S := (fun W => W.cell? ⟨w.heap.size, 0, none⟩ = some (.slice (some a) p.enums.length ek) ∧ W.cell? ⟨w.heap.size + 1, 0, none⟩ = some (.string (str e.name)) ∧ W.cell? (a.add (k * 2)) = some (.string (str q.name)))) (by kernel_rfl) ?_ (fun hHeld => ?_)
        · exact KEEP.out _ (Below.refl _ _).drew
        refine take_now 0 rfl ?_
        try simp only [Act.put, setA, setZ, setS]
        refine take_now 1 rfl ?_
        try simp only [Act.put, setA, setZ, setS]
        refine take_now 2 rfl ?_
        try simp only [Act.put, setA, setZ, setS]
        refine take_now 3 rfl ?_
        try simp only [Act.put, setA, setZ, setS]
        refine take_now 4 rfl ?_
        try simp only [Act.put, setA, setZ, setS]
        refine take_now 5 rfl ?_
        try simp only [Act.put, setA, setZ, setS]
        refine take_now 6 rfl ?_
        try simp only [Act.put, setA, setZ, setS]
        refine take_now 7 rfl ?_
        try simp only [Act.put, setA, setZ, setS]
        refine take_now 8 rfl ?_
        try simp only [Act.put, setA, setZ, setS]
        refine wpAnyH_done (by kernel_rfl) ?_ _
        go_wp2_with fail
        go_roundg (i - (k + 1))
        case measure => have := HK.out; omega
        case rel => exact ⟨k + 1, by omega, by go_num, HN.out, HW.out.drew⟩
    · have hke : k = i := by omega
      have HENV1 := Lib.hid (show enumOk (envS (p.enums.take i) [] []) e = ((e.cons.all fun c => !(conQ ⟨p.enums.take i, []⟩ c).2.2) && recOk [] e.cons) by
        rw [HENV.out, HR.out, List.drop_eq_nil_of_le (by omega)]; rfl)
      obtain ⟨e0, e1⟩ := row2 (box_next HW.out BE.out)
      clear hke
      go_wp2_with fail
      clear e0 e1
      go_loopg [8] e.cons.length (fun g v wr => ∃ j : Nat, j + g = e.cons.length ∧ v = .int .i64 j ∧ (e.cons.all fun c => !(conQ ⟨p.enums.take i, []⟩ c).2.2) = ((e.cons.drop j).all fun c => !(conQ ⟨p.enums.take i, []⟩ c).2.2) ∧ Below V.heap.size V wr)
      case atStart => exact ⟨0, by omega, rfl, rfl, HW.out⟩
      case round =>
        obtain ⟨wz, rfl⟩ : ∃ W, W = wr := ⟨_, rfl⟩
        obtain ⟨j, hjg, rfl, hr2, hbz⟩ := hrel
        have HJ := Lib.hid hjg
        have HR2 := Lib.hid hr2
        have HZ := Lib.hid hbz
        have HVZ := Lib.hid (HV.out.trans (hbz.mono HV.out.size))
        have HZB := Lib.hid (HB.out.trans (HVZ.out.mono hsz))
        obtain ⟨e0, e1⟩ := row2 (box_next hbz BE.out)
        have hjl : j ≤ e.cons.length := by omega
        clear hjg hr2 hbz
        by_cases hltj : j < e.cons.length
        · obtain ⟨y, hy⟩ : ∃ y, e.cons[j]? = some y := ⟨_, List.getElem?_eq_getElem hltj⟩
          have HDY := Lib.hid (drop_consS hy)
          obtain ⟨Ly, hEy, rfl, _⟩ := HCE.out j y hy
          have HEY := Lib.hid hEy
          obtain ⟨c, ec, _, _, _⟩ := elem1 (hEy.under HZB.out)
          subst ec
          have HX := Lib.hid (show (e.cons.all fun c => !(conQ ⟨p.enums.take i, []⟩ c).2.2) = (!(conQ ⟨p.enums.take i, []⟩ y).2.2 && (e.cons.drop (j + 1)).all fun c => !(conQ ⟨p.enums.take i, []⟩ c).2.2) by rw [HR2.out, HDY.out, List.all_cons])
          have HCON := Lib.hid (rcon_any HQP.out y)
          obtain ⟨⟨r1, r2, r3⟩, hr⟩ : ∃ r, conQ ⟨p.enums.take i, []⟩ y = r := ⟨_, rfl⟩
          rw [hr] at HX HCON
          have KEEP := Lib.hid (show ∀ W, Below wz.heap.size wz W → (fun W => W.cell? ⟨w.heap.size + 1, 1, none⟩ = some (.slice (some c) e.cons.length cc) ∧ W.cell? ⟨w.heap.size + 1 + 1, 0, none⟩ = some (.slice (some a) i ek) ∧ W.cell? ⟨w.heap.size + 1 + 1, 1, none⟩ = some (.slice none 0 0) ∧ W.cell? (c.add j) = some (.string (str y))) W from
            fun W hW => by
              obtain ⟨a', ea', _, _, c0⟩ := elem1 (HEY.out.under (HZB.out.trans (hW.mono HZB.out.size)))
              cases ea'
              rw [Nat.mul_one] at c0
              obtain ⟨_, e1⟩ := row2 (box_next hW (box_next HZ.out BE.out))
              obtain ⟨q0, q1⟩ := row2 (box_next hW (box_next HZ.out BQ.out))
              exact ⟨e1, q0, q1, c0⟩)
          clear hy hEy hr
          go_wp2_with fail
          clear e0 e1
          cases r3
          · skip
            refine wp_region_held_drew (S := (fun W => W.cell? ⟨w.heap.size + 1, 1, none⟩ = some (.slice (some c) e.cons.length cc) ∧ W.cell? ⟨w.heap.size + 1 + 1, 0, none⟩ = some (.slice (some a) i ek) ∧ W.cell? ⟨w.heap.size + 1 + 1, 1, none⟩ = some (.slice none 0 0) ∧ W.cell? (c.add j) = some (.string (str y)))) (by kernel_rfl) ?_ (fun hHeld => ?_)
            · exact KEEP.out _ (Below.refl _ _).drew
            refine take_now 0 rfl ?_
            try simp only [Act.put, setA, setZ, setS]
            refine take_now 1 rfl ?_
            try simp only [Act.put, setA, setZ, setS]
            refine take_now 2 rfl ?_
            try simp only [Act.put, setA, setZ, setS]
            refine take_now 3 rfl ?_
            try simp only [Act.put, setA, setZ, setS]
            refine take_now 4 rfl ?_
            try simp only [Act.put, setA, setZ, setS]
            refine take_now 5 rfl ?_
            try simp only [Act.put, setA, setZ, setS]
            refine only_at 6 (by kernel_rfl) rfl (fun K hK => ?_)
            go_simp
            (go_at_call 13
             (with_reducible refine (HCON.out _ HZB.out.drew).mono ?_)
             rintro e' w7 ⟨rfl, hb7⟩
             obtain ⟨Y, rfl⟩ : ∃ W, W = w7 := ⟨_, rfl⟩
             have G1 := Lib.hid ((Below.refl wz.heap.size wz).drew.trans hb7)
             clear hb7)
            refine hK.out _ _ (KEEP.out _ ?_) (fun hHeld => ?_)
            · (repeat (first | exact Below.refl _ _ | exact G1.out | refine Below.drew ?_ | refine Below.alloc ?_ (by simp) _ | refine Below.setCell ?_ (by simp) _))
            clear hK K
            refine take_now 7 rfl ?_
            try simp only [Act.put, setA, setZ, setS]
            refine take_now 8 rfl ?_
            try simp only [Act.put, setA, setZ, setS]
            refine take_now 9 rfl ?_
            try simp only [Act.put, setA, setZ, setS]
            refine take_now 10 rfl ?_
            try simp only [Act.put, setA, setZ, setS]
            refine take_now 11 rfl ?_
            try simp only [Act.put, setA, setZ, setS]
            refine take_now 12 rfl ?_
            try simp only [Act.put, setA, setZ, setS]
            refine take_now 13 rfl ?_
            try simp only [Act.put, setA, setZ, setS]
            refine wpAnyH_done (by kernel_rfl) ?_ _
            go_wp2_with fail
            go_roundg (e.cons.length - (j + 1))
            case measure => have := HJ.out; omega
            case rel => exact ⟨j + 1, by omega, by go_num, by rw [HX.out]; rfl, HZ.out.trans (G1.out.mono HZ.out.size)⟩
          · skip
            refine wp_region_held_drew (S := (fun W => W.cell? ⟨w.heap.size + 1, 1, none⟩ = some (.slice (some c) e.cons.length cc) ∧ W.cell? ⟨w.heap.size + 1 + 1, 0, none⟩ = some (.slice (some a) i ek) ∧ W.cell? ⟨w.heap.size + 1 + 1, 1, none⟩ = some (.slice none 0 0) ∧ W.cell? (c.add j) = some (.string (str y)))) (by kernel_rfl) ?_ (fun hHeld => ?_)
            · exact KEEP.out _ (Below.refl _ _).drew
            refine take_now 0 rfl ?_
            try simp only [Act.put, setA, setZ, setS]
            refine take_now 1 rfl ?_
            try simp only [Act.put, setA, setZ, setS]
            refine take_now 2 rfl ?_
            try simp only [Act.put, setA, setZ, setS]
            refine take_now 3 rfl ?_
            try simp only [Act.put, setA, setZ, setS]
            refine take_now 4 rfl ?_
            try simp only [Act.put, setA, setZ, setS]
            refine take_now 5 rfl ?_
            try simp only [Act.put, setA, setZ, setS]
            refine only_at 6 (by kernel_rfl) rfl (fun K hK => ?_)
            go_simp
            (go_at_call 13
             (with_reducible refine (HCON.out _ HZB.out.drew).mono ?_)
             rintro e' w7 ⟨rfl, hb7⟩
             obtain ⟨Y, rfl⟩ : ∃ W, W = w7 := ⟨_, rfl⟩
             have G1 := Lib.hid ((Below.refl wz.heap.size wz).drew.trans hb7)
             clear hb7)
            refine hK.out _ _ (KEEP.out _ ?_) (fun hHeld => ?_)
            · (repeat (first | exact Below.refl _ _ | exact G1.out | refine Below.drew ?_ | refine Below.alloc ?_ (by simp) _ | refine Below.setCell ?_ (by simp) _))
            clear hK K
            refine take_now 7 rfl ?_
            try simp only [Act.put, setA, setZ, setS]
            refine take_now 8 rfl ?_
            try simp only [Act.put, setA, setZ, setS]
            refine take_now 9 rfl ?_
            try simp only [Act.put, setA, setZ, setS]
            refine take_now 10 rfl ?_
            try simp only [Act.put, setA, setZ, setS]
            refine take_now 11 rfl ?_
            try simp only [Act.put, setA, setZ, setS]
            refine take_now 12 rfl ?_
            try simp only [Act.put, setA, setZ, setS]
            refine take_now 13 rfl ?_
            try simp only [Act.put, setA, setZ, setS]
            refine wpAnyH_done (by kernel_rfl) ?_ _
            go_wp2_with fail
            go_ret
            exact ⟨ret_bool (by rw [HENV1.out, HX.out]; rfl), HVZ.out.trans (G1.out.mono HVZ.out.size)⟩
        · have hje : j = e.cons.length := by omega
          have HENV2 := Lib.hid (show enumOk (envS (p.enums.take i) [] []) e = recOk [] e.cons by rw [HENV1.out, HR2.out, hje, List.drop_length]; rfl)
          have HUN := Lib.hid (rUnlike_any (HCS.out.under HZB.out) _ (Below.refl _ _))
          clear hje
          go_wp2_with (go_at_call 49
                       (with_reducible refine HUN.out.mono ?_)
                       rintro e' w7 ⟨rfl, hb7⟩
                       have G1 := Lib.hid (HVZ.out.trans (hb7.mono HVZ.out.size))
                       clear hb7)
          go_ret
          exact ⟨ret_bool HENV2.out.symm, G1.out⟩
end Go.Proofs.YtbpbnebcbjacdaaGreat
namespace Go.Proofs.YtbpbnebcbjacdaaGreat
open Go.RowKit

set_option maxHeartbeats 8000000 in
set_option maxRecDepth 100000 in
theorem rHead_any {w0 : World} {L : List Value} {p : QProg} (hL : ProgAt w0 L p) {k : Nat} {n : QNode} (hk : p.nodes[k]? = some n) (hlen : (n.funs ++ n.ins).length ≤ 2097152) : ∀ w, Below w0.heap.size w0 w →
    Calls Tryz.prog 50 #[.agg L.toArray, .int .i64 k] w (BoolPost (headOk (envS p.enums (p.nodes.take k) []) n) w) := by
  have HENV := Lib.hid (head_env p.enums (p.nodes.take k) [] n)
  rw [List.length_append] at hlen
  have hl1 : ([] : List Tx).length + n.funs.length ≤ 4194304 := by simp; omega
  have hl2 : ([] ++ n.funs).length + n.ins.length ≤ 4194304 := by simp; omega
  intro w hb
  have HB := Lib.hid hb
  have hsz := hb.size
  have hkl : k < p.nodes.length := (List.getElem?_eq_some_iff.1 hk).1
  have HPROG := Lib.hid hL
  obtain ⟨ev, nv, rfl, he, hn⟩ := hL
  have HEV := Lib.hid he
  have HNV := Lib.hid hn
  obtain ⟨E, en, ek, rfl⟩ := SliceAt.shape he
  obtain ⟨C, ck, rfl, hcc, hmc, hce⟩ := hn
  have hccap : p.nodes.length ≤ ck := hcc
  have hnl : p.nodes.length ≤ 9223372036854775807 := by unfold maxLen at hmc; omega
  have HNE := Lib.hid hce
  obtain ⟨Ln, hEn, hNn⟩ := hce k n hk
  have HEN := Lib.hid hEn
  have HNA := Lib.hid hNn
  obtain ⟨fv, iv, ov, xv, rfl, hnn, hfu, hin, hou, hit⟩ := hNn
  have HFU := Lib.hid hfu
  have HIN := Lib.hid hin
  have HOU := Lib.hid hou
  have HIT := Lib.hid hit
  obtain ⟨fA, fk, rfl, hfc, hfm, hfe⟩ := hfu
  obtain ⟨iA, ik, rfl, hic, him, hie⟩ := hin
  obtain ⟨oA, ok, rfl, hoc, hom, hoe⟩ := hou
  obtain ⟨xA, xk, rfl, hxc, hxm, hxe⟩ := hit
  have hfl : n.funs.length ≤ 9223372036854775807 := by have h : n.funs.length ≤ fk := hfc; unfold maxLen at hfm; omega
  have hol : n.outs.length ≤ 9223372036854775807 := by have h : n.outs.length ≤ ok := hoc; unfold maxLen at hom; omega
  have hxcap : n.items.length ≤ xk := hxc
  have hxl : n.items.length ≤ 9223372036854775807 := by unfold maxLen at hxm; omega
  have HFE := Lib.hid hfe
  have HOE := Lib.hid hoe
  have HXE := Lib.hid hxe
  obtain ⟨a, ea, ha, haa, d0, d1, d2, d3, d4⟩ := elem5 (hEn.under HB.out)
  subst ea
  have HQP := Lib.hid (show ProgAt w0 [.slice none 0 0, .slice (some a) k ck] ⟨[], p.nodes.take k⟩ from ⟨_, _, rfl, ⟨none, 0, rfl, Nat.le_refl _, by unfold maxLen; omega, fun i x h => by simp at h⟩, SliceAt.take HNV.out (Nat.le_of_lt hkl)⟩)
  have HNO := Lib.hid (rnode_any HQP.out n.name)
  have HW3 := Lib.hid (show Below w.heap.size w (((w.alloc (.cells #[.slice E en ek, .slice (some a) p.nodes.length ck] 25)).alloc (.cells #[.string (str n.name), .slice fA n.funs.length fk, .slice iA n.ins.length ik, .slice oA n.outs.length ok, .slice xA n.items.length xk] 41)).alloc (.cells #[.slice none 0 0, .slice (some a) k ck] 25)) from ((((Below.refl w.heap.size w).alloc (by simp) _).alloc (by simp <;> omega) _).alloc (by simp <;> omega) _))
  obtain ⟨⟨r1, r2⟩, hr⟩ : ∃ r, nodeF 0 n.name (p.nodes.take k) = r := ⟨_, rfl⟩
  rw [show nodeF 0 n.name (⟨[], p.nodes.take k⟩ : QProg).nodes = (r1, r2) from hr] at HNO
  rw [hr] at HENV
  clear hlen hr
  clear hb he hcc hmc hce hEn hnn hfc hfm hfe hic him hie hoc hom hoe hxc hxm hxe
  go_enter Tryz.func50, Tryz.ntmps50
  go_wp2_with (go_at_call 15
               (with_reducible refine (HNO.out _ (HB.out.trans (HW3.out.mono hsz))).mono ?_)
               rintro e w7 ⟨rfl, hb7⟩
               obtain ⟨V, rfl⟩ : ∃ W, W = w7 := ⟨_, rfl⟩
               have HV := Lib.hid (HW3.out.trans (hb7.mono HW3.out.size))
               have BN := Lib.hid (show V.heap[w.heap.size + 1]? = some (.cells #[.string (str n.name), .slice fA n.funs.length fk, .slice iA n.ins.length ik, .slice oA n.outs.length ok, .slice xA n.items.length xk] 41 (0, 0)) from box_next hb7 (alloc_below (alloc_at (by simp))))
               have BQ := Lib.hid (show V.heap[w.heap.size + 1 + 1]? = some (.cells #[.slice none 0 0, .slice (some a) k ck] 25 (0, 0)) from box_next hb7 (alloc_at (by simp)))
               clear hb7)
  clear d0 d1 d2 d3 d4
  have HBV := Lib.hid (HB.out.trans (HV.out.mono hsz))
  have KEEP := Lib.hid (show ∀ W, Below V.heap.size V W → (fun W => W.cell? ⟨w.heap.size + 1, 1, none⟩ = some (.slice fA n.funs.length fk) ∧ W.cell? ⟨w.heap.size + 1, 2, none⟩ = some (.slice iA n.ins.length ik)) W from
    fun W hW => by
      obtain ⟨_, q1, q2, _, _⟩ := row5 (box_next hW BN.out)
      exact ⟨q1, q2⟩)
  refine wp_region_held_drew (S := (fun W => W.cell? ⟨w.heap.size + 1, 1, none⟩ = some (.slice fA n.funs.length fk) ∧ W.cell? ⟨w.heap.size + 1, 2, none⟩ = some (.slice iA n.ins.length ik))) (by kernel_rfl) ?_ (fun hHeld => ?_)
  · exact KEEP.out _ (Below.refl _ _).drew
  refine take_now 0 rfl ?_
  try simp only [Act.put, setA, setZ, setS]
  refine take_now 1 rfl ?_
  try simp only [Act.put, setA, setZ, setS]
  refine take_now 3 rfl ?_
  try simp only [Act.put, setA, setZ, setS]
  refine take_now 4 rfl ?_
  try simp only [Act.put, setA, setZ, setS]
  refine only_at 2 (by kernel_rfl) rfl (fun K hK => ?_)
  (refine step_strs (B := V.heap.size) rfl _ _ rfl rfl rfl (OwnS.nil _ _) (HFU.out.under HBV.out.drew) hl1 (Nat.le_refl _) ?_
   intro v1 w1 h1
   obtain ⟨ho1, hb1, _⟩ := h1
   obtain ⟨Y1, rfl⟩ : ∃ W, W = w1 := ⟨_, rfl⟩
   obtain ⟨lA, ln, lk, rfl, hln⟩ := ho1.shape
   have HO1 := Lib.hid ho1
   have G1 := Lib.hid ((Below.refl V.heap.size V).drew.trans hb1)
   clear ho1 hb1 hln)
  refine hK.out _ _ (KEEP.out _ ?_) (fun hHeld => ?_)
  · (repeat (first | exact Below.refl _ _ | exact G1.out | refine Below.drew ?_ | refine Below.alloc ?_ (by simp) _ | refine Below.setCell ?_ (by simp) _))
  clear hK K
  try simp only [Act.put, setA, setZ, setS]
  refine only_at 5 (by kernel_rfl) rfl (fun K hK => ?_)
  (refine step_strs (B := V.heap.size) rfl _ _ rfl rfl rfl HO1.out (HIN.out.under (HBV.out.trans (G1.out.mono HBV.out.size))) hl2 G1.out.size ?_
   intro v1 w1 h1
   obtain ⟨ho1, hb1, _⟩ := h1
   obtain ⟨Y2, rfl⟩ : ∃ W, W = w1 := ⟨_, rfl⟩
   obtain ⟨lB, lm, lj, rfl, hln⟩ := ho1.shape
   have HS2 := Lib.hid (show StrsAt Y2 (.slice lB lm lj) (n.funs ++ n.ins) by have := ho1.strs; simpa using this)
   have G2 := Lib.hid (G1.out.trans hb1)
   clear ho1 hb1 hln)
  refine hK.out _ _ (KEEP.out _ ?_) (fun hHeld => ?_)
  · (repeat (first | exact Below.refl _ _ | exact G2.out | refine Below.drew ?_ | refine Below.alloc ?_ (by simp) _ | refine Below.setCell ?_ (by simp) _))
  clear hK K
  try simp only [Act.put, setA, setZ, setS]
  refine take_now 6 rfl ?_
  try simp only [Act.put, setA, setZ, setS]
  refine wpAnyH_done (by kernel_rfl) ?_ _
  have HY2 := Lib.hid (HBV.out.trans (G2.out.mono HBV.out.size))
  have HU1 := Lib.hid (rUnlike_any HS2.out _ (Below.refl _ _))
  have HU2 := Lib.hid (rUnlike_any HOU.out)
  obtain ⟨u1, hu1⟩ : ∃ t, recOk [] (n.funs ++ n.ins) = t := ⟨_, rfl⟩
  obtain ⟨u2, hu2⟩ : ∃ t, recOk [] n.outs = t := ⟨_, rfl⟩
  obtain ⟨u3, hu3⟩ : ∃ t, n.funs.contains n.name = t := ⟨_, rfl⟩
  rw [hu1] at HU1
  rw [hu2] at HU2
  rw [hu1, hu2, hu3] at HENV
  have HU3 := Lib.hid hu3
  clear hu1 hu2 hu3
  cases r2
  · cases u1
    · go_wp2_with (go_at_call 49
                   (with_reducible refine HU1.out.mono ?_)
                   rintro e w8 ⟨rfl, hb8⟩
                   obtain ⟨Y3, rfl⟩ : ∃ W, W = w8 := ⟨_, rfl⟩
                   have G3 := Lib.hid (G2.out.trans (hb8.mono G2.out.size))
                   have HY3 := Lib.hid (HBV.out.trans (G3.out.mono HBV.out.size))
                   obtain ⟨_, _, _, _, _⟩ := row5 (box_next G3.out BN.out)
                   clear hb8)
      go_ret
      exact ⟨ret_bool (by rw [HENV.out]; rfl), HV.out.trans (G3.out.mono HV.out.size)⟩
    · cases u2
      · go_wp2_with (first
          | (go_at_call 49
             (with_reducible refine HU1.out.mono ?_)
             rintro e w8 ⟨rfl, hb8⟩
             obtain ⟨Y3, rfl⟩ : ∃ W, W = w8 := ⟨_, rfl⟩
             have G3 := Lib.hid (G2.out.trans (hb8.mono G2.out.size))
             have HY3 := Lib.hid (HBV.out.trans (G3.out.mono HBV.out.size))
             obtain ⟨_, _, _, _, _⟩ := row5 (box_next G3.out BN.out)
             clear hb8)
          | (go_at_call 49
             (with_reducible refine (HU2.out _ HY3.out).mono ?_)
             rintro e w8 ⟨rfl, hb8⟩
             obtain ⟨Y4, rfl⟩ : ∃ W, W = w8 := ⟨_, rfl⟩
             have G4 := Lib.hid (G3.out.trans (hb8.mono G3.out.size))
             have HY4 := Lib.hid (HBV.out.trans (G4.out.mono HBV.out.size))
             obtain ⟨_, _, _, _, _⟩ := row5 (box_next G4.out BN.out)
             clear hb8))
        go_ret
        exact ⟨ret_bool (by rw [HENV.out]; rfl), HV.out.trans (G4.out.mono HV.out.size)⟩
      · cases u3
        · have HEF := Lib.hid (show headOk (envS p.enums (p.nodes.take k) []) n = n.funs.all fun f => !(nodeF 0 f (p.nodes.take k)).2 by rw [HENV.out]; rfl)
          go_wp2_with (first
            | (go_at_call 49
               (with_reducible refine HU1.out.mono ?_)
               rintro e w8 ⟨rfl, hb8⟩
               obtain ⟨Y3, rfl⟩ : ∃ W, W = w8 := ⟨_, rfl⟩
               have G3 := Lib.hid (G2.out.trans (hb8.mono G2.out.size))
               have HY3 := Lib.hid (HBV.out.trans (G3.out.mono HBV.out.size))
               obtain ⟨_, _, _, _, _⟩ := row5 (box_next G3.out BN.out)
               clear hb8)
            | (go_at_call 49
               (with_reducible refine (HU2.out _ HY3.out).mono ?_)
               rintro e w8 ⟨rfl, hb8⟩
               obtain ⟨Y4, rfl⟩ : ∃ W, W = w8 := ⟨_, rfl⟩
               have G4 := Lib.hid (G3.out.trans (hb8.mono G3.out.size))
               have HY4 := Lib.hid (HBV.out.trans (G4.out.mono HBV.out.size))
               obtain ⟨_, _, _, _, _⟩ := row5 (box_next G4.out BN.out)
               clear hb8)
            | (go_at_call 21
               (with_reducible refine (has_any (HFU.out.under HY4.out) n.name).mono ?_)
               rintro e w8 ⟨he, rfl⟩
               rw [HU3.out] at he
               subst he))
          have BN4 := Lib.hid (box_next G4.out BN.out)
          have BQ4 := Lib.hid (box_next G4.out BQ.out)
          have HVY := Lib.hid (HV.out.trans (G4.out.mono HV.out.size))
          go_loopg [10] n.funs.length (fun g v wr => ∃ j : Nat, j + g = n.funs.length ∧ v = .int .i64 j ∧ (n.funs.all fun f => !(nodeF 0 f (p.nodes.take k)).2) = ((n.funs.drop j).all fun f => !(nodeF 0 f (p.nodes.take k)).2) ∧ Below Y4.heap.size Y4 wr)
          case atStart => exact ⟨0, by omega, rfl, rfl, Below.refl _ _⟩
          case round =>
            obtain ⟨wz, rfl⟩ : ∃ W, W = wr := ⟨_, rfl⟩
            obtain ⟨j, hjg, rfl, hr2, hbz⟩ := hrel
            have HJ := Lib.hid hjg
            have HR2 := Lib.hid hr2
            have HZ := Lib.hid hbz
            have HVZ := Lib.hid (HVY.out.trans (hbz.mono HVY.out.size))
            have HZB := Lib.hid (HB.out.trans (HVZ.out.mono hsz))
            obtain ⟨e0, e1, e2, e3, e4⟩ := row5 (box_next hbz BN4.out)
            have hjl : j ≤ n.funs.length := by omega
            clear hjg hr2 hbz
            by_cases hltj : j < n.funs.length
            · obtain ⟨y, hy⟩ : ∃ y, n.funs[j]? = some y := ⟨_, List.getElem?_eq_getElem hltj⟩
              have HDY := Lib.hid (drop_consS hy)
              obtain ⟨Ly, hEy, rfl, _⟩ := HFE.out j y hy
              have HEY := Lib.hid hEy
              obtain ⟨c, ec, _, _, _⟩ := elem1 (hEy.under HZB.out)
              subst ec
              have HX := Lib.hid (show (n.funs.all fun f => !(nodeF 0 f (p.nodes.take k)).2) = (!(nodeF 0 y (p.nodes.take k)).2 && (n.funs.drop (j + 1)).all fun f => !(nodeF 0 f (p.nodes.take k)).2) by rw [HR2.out, HDY.out, List.all_cons])
              have HND := Lib.hid (rnode_any HQP.out y)
              obtain ⟨⟨x1, x2⟩, hx⟩ : ∃ r, nodeF 0 y (p.nodes.take k) = r := ⟨_, rfl⟩
              rw [show nodeF 0 y (⟨[], p.nodes.take k⟩ : QProg).nodes = (x1, x2) from hx] at HND
              rw [hx] at HX
              have KEEP := Lib.hid (show ∀ W, Below wz.heap.size wz W → (fun W => W.cell? ⟨w.heap.size + 1 + 1, 0, none⟩ = some (.slice none 0 0) ∧ W.cell? ⟨w.heap.size + 1 + 1, 1, none⟩ = some (.slice (some a) k ck) ∧ W.cell? ⟨w.heap.size + 1, 1, none⟩ = some (.slice (some c) n.funs.length fk) ∧ W.cell? (c.add j) = some (.string (str y))) W from
                fun W hW => by
                  obtain ⟨a', ea', _, _, c0⟩ := elem1 (HEY.out.under (HZB.out.trans (hW.mono HZB.out.size)))
                  cases ea'
                  rw [Nat.mul_one] at c0
                  obtain ⟨_, e1, _, _, _⟩ := row5 (box_next hW (box_next HZ.out BN4.out))
                  obtain ⟨q0, q1⟩ := row2 (box_next hW (box_next HZ.out BQ4.out))
                  exact ⟨q0, q1, e1, c0⟩)
              clear hy hEy hx
              go_wp2_with fail
              clear e0 e1 e2 e3 e4
              cases x2
              · skip
                refine wp_region_held_drew (S := (fun W => W.cell? ⟨w.heap.size + 1 + 1, 0, none⟩ = some (.slice none 0 0) ∧ W.cell? ⟨w.heap.size + 1 + 1, 1, none⟩ = some (.slice (some a) k ck) ∧ W.cell? ⟨w.heap.size + 1, 1, none⟩ = some (.slice (some c) n.funs.length fk) ∧ W.cell? (c.add j) = some (.string (str y)))) (by kernel_rfl) ?_ (fun hHeld => ?_)
                · exact KEEP.out _ (Below.refl _ _).drew
                refine take_now 0 rfl ?_
                try simp only [Act.put, setA, setZ, setS]
                refine take_now 1 rfl ?_
                try simp only [Act.put, setA, setZ, setS]
                refine take_now 2 rfl ?_
                try simp only [Act.put, setA, setZ, setS]
                refine take_now 3 rfl ?_
                try simp only [Act.put, setA, setZ, setS]
                refine take_now 4 rfl ?_
                try simp only [Act.put, setA, setZ, setS]
                refine take_now 5 rfl ?_
                try simp only [Act.put, setA, setZ, setS]
                refine only_at 6 (by kernel_rfl) rfl (fun K hK => ?_)
                go_simp
                (go_at_call 15
                 (with_reducible refine (HND.out _ HZB.out.drew).mono ?_)
                 rintro e w7 ⟨rfl, hb7⟩
                 obtain ⟨Y, rfl⟩ : ∃ W, W = w7 := ⟨_, rfl⟩
                 have GY := Lib.hid ((Below.refl wz.heap.size wz).drew.trans hb7)
                 clear hb7)
                refine hK.out _ _ (KEEP.out _ ?_) (fun hHeld => ?_)
                · (repeat (first | exact Below.refl _ _ | exact GY.out | refine Below.drew ?_ | refine Below.alloc ?_ (by simp) _ | refine Below.setCell ?_ (by simp) _))
                clear hK K
                refine take_now 7 rfl ?_
                try simp only [Act.put, setA, setZ, setS]
                refine take_now 8 rfl ?_
                try simp only [Act.put, setA, setZ, setS]
                refine take_now 9 rfl ?_
                try simp only [Act.put, setA, setZ, setS]
                refine take_now 10 rfl ?_
                try simp only [Act.put, setA, setZ, setS]
                refine take_now 11 rfl ?_
                try simp only [Act.put, setA, setZ, setS]
                refine wpAnyH_done (by kernel_rfl) ?_ _
                go_wp2_with fail
                go_roundg (n.funs.length - (j + 1))
                case measure => have := HJ.out; omega
                case rel => exact ⟨j + 1, by omega, by go_num, by rw [HX.out]; rfl, HZ.out.trans (GY.out.mono HZ.out.size)⟩
              · skip
                refine wp_region_held_drew (S := (fun W => W.cell? ⟨w.heap.size + 1 + 1, 0, none⟩ = some (.slice none 0 0) ∧ W.cell? ⟨w.heap.size + 1 + 1, 1, none⟩ = some (.slice (some a) k ck) ∧ W.cell? ⟨w.heap.size + 1, 1, none⟩ = some (.slice (some c) n.funs.length fk) ∧ W.cell? (c.add j) = some (.string (str y)))) (by kernel_rfl) ?_ (fun hHeld => ?_)
                · exact KEEP.out _ (Below.refl _ _).drew
                refine take_now 0 rfl ?_
                try simp only [Act.put, setA, setZ, setS]
                refine take_now 1 rfl ?_
                try simp only [Act.put, setA, setZ, setS]
                refine take_now 2 rfl ?_
                try simp only [Act.put, setA, setZ, setS]
                refine take_now 3 rfl ?_
                try simp only [Act.put, setA, setZ, setS]
                refine take_now 4 rfl ?_
                try simp only [Act.put, setA, setZ, setS]
                refine take_now 5 rfl ?_
                try simp only [Act.put, setA, setZ, setS]
                refine only_at 6 (by kernel_rfl) rfl (fun K hK => ?_)
                go_simp
                (go_at_call 15
                 (with_reducible refine (HND.out _ HZB.out.drew).mono ?_)
                 rintro e w7 ⟨rfl, hb7⟩
                 obtain ⟨Y, rfl⟩ : ∃ W, W = w7 := ⟨_, rfl⟩
                 have GY := Lib.hid ((Below.refl wz.heap.size wz).drew.trans hb7)
                 clear hb7)
                refine hK.out _ _ (KEEP.out _ ?_) (fun hHeld => ?_)
                · (repeat (first | exact Below.refl _ _ | exact GY.out | refine Below.drew ?_ | refine Below.alloc ?_ (by simp) _ | refine Below.setCell ?_ (by simp) _))
                clear hK K
                refine take_now 7 rfl ?_
                try simp only [Act.put, setA, setZ, setS]
                refine take_now 8 rfl ?_
                try simp only [Act.put, setA, setZ, setS]
                refine take_now 9 rfl ?_
                try simp only [Act.put, setA, setZ, setS]
                refine take_now 10 rfl ?_
                try simp only [Act.put, setA, setZ, setS]
                refine take_now 11 rfl ?_
                try simp only [Act.put, setA, setZ, setS]
                refine wpAnyH_done (by kernel_rfl) ?_ _
                go_wp2_with fail
                go_ret
                exact ⟨ret_bool (by rw [HEF.out, HX.out]; rfl), HVZ.out.trans (GY.out.mono HVZ.out.size)⟩
            · have hje : j = n.funs.length := by omega
              have HN := Lib.hid (show headOk (envS p.enums (p.nodes.take k) []) n = true by rw [HEF.out, HR2.out, hje, List.drop_length]; rfl)
              clear hje
              go_wp2_with fail
              go_ret
              exact ⟨ret_bool HN.out.symm, HVZ.out⟩
        · go_wp2_with (first
            | (go_at_call 49
               (with_reducible refine HU1.out.mono ?_)
               rintro e w8 ⟨rfl, hb8⟩
               obtain ⟨Y3, rfl⟩ : ∃ W, W = w8 := ⟨_, rfl⟩
               have G3 := Lib.hid (G2.out.trans (hb8.mono G2.out.size))
               have HY3 := Lib.hid (HBV.out.trans (G3.out.mono HBV.out.size))
               obtain ⟨_, _, _, _, _⟩ := row5 (box_next G3.out BN.out)
               clear hb8)
            | (go_at_call 49
               (with_reducible refine (HU2.out _ HY3.out).mono ?_)
               rintro e w8 ⟨rfl, hb8⟩
               obtain ⟨Y4, rfl⟩ : ∃ W, W = w8 := ⟨_, rfl⟩
               have G4 := Lib.hid (G3.out.trans (hb8.mono G3.out.size))
               have HY4 := Lib.hid (HBV.out.trans (G4.out.mono HBV.out.size))
               obtain ⟨_, _, _, _, _⟩ := row5 (box_next G4.out BN.out)
               clear hb8)
            | (go_at_call 21
               (with_reducible refine (has_any (HFU.out.under HY4.out) n.name).mono ?_)
               rintro e w8 ⟨he, rfl⟩
               rw [HU3.out] at he
               subst he))
          go_ret
          exact ⟨ret_bool (by rw [HENV.out]; rfl), HV.out.trans (G4.out.mono HV.out.size)⟩
  · go_wp2_with fail
    go_ret
    exact ⟨ret_bool (by rw [HENV.out]; rfl), HV.out.trans (G2.out.mono HV.out.size)⟩
end Go.Proofs.YtbpbnebcbjacdaaGreat
namespace Go.Proofs.YtbpbnebcbjacdaaGreat
open Go.RowKit

theorem st_item {ns : List QNode} {is : List QItem} {j : Nat} {x : QItem} (h : is[j]? = some x) : stBefore ns (is.take (j + 1)) = stBefore ns (is.take j) ++ x.states.map QState.name := by
  unfold stBefore
  rw [flat_snoc h, ← List.append_assoc]; rfl
theorem st_node {ns : List QNode} {i : Nat} {m : QNode} (h : ns[i]? = some m) : stBefore (ns.take (i + 1)) [] = stBefore (ns.take i) m.items := by
  unfold stBefore
  rw [flat_snoc h]; simp
theorem st_le {ns : List QNode} {i j t : Nat} {m : QNode} {x : QItem} (h : ns[i]? = some m) (hx : m.items[j]? = some x) : (stBefore (ns.take i) (m.items.take j) ++ (x.states.take t).map QState.name).length ≤ (stBefore ns []).length := by
  have h1 : (stBefore (ns.take (i + 1)) []).length ≤ (stBefore ns []).length := by
    have := flat_le (fun n : QNode => n.items.flatMap stNames) ns (i + 1)
    unfold stBefore; simpa using this
  have h2 : (stBefore (ns.take i) (m.items.take (j + 1))).length ≤ (stBefore (ns.take i) m.items).length := by
    have := flat_le stNames m.items (j + 1)
    unfold stBefore; rw [List.length_append, List.length_append]; omega
  rw [st_node h] at h1
  rw [st_item hx, List.length_append, List.length_map] at h2
  rw [List.length_append, List.length_map, List.length_take]
  omega
set_option maxHeartbeats 8000000 in
set_option maxRecDepth 100000 in
theorem rStates_any {w0 : World} {L : List Value} {p : QProg} (hL : ProgAt w0 L p) {k : Nat} {n : QNode} (hk : p.nodes[k]? = some n) (b : Nat) (hlen : (stBefore p.nodes []).length ≤ 2097152) : ∀ w, Below w0.heap.size w0 w →
    Calls Tryz.prog 103 #[.agg L.toArray, .int .i64 k, .int .i64 b] w (OwnPost (stBefore (p.nodes.take k) (n.items.take b)) w) := by
  intro w hb
  have HB := Lib.hid hb
  have HLEN := Lib.hid hlen
  have hsz := hb.size
  have HKN := Lib.hid hk
  have hkl : k < p.nodes.length := (List.getElem?_eq_some_iff.1 hk).1
  obtain ⟨ev, nv, rfl, he, hn⟩ := hL
  obtain ⟨E, en, ek, rfl⟩ := SliceAt.shape he
  obtain ⟨C, ck, rfl, hcc, hmc, hce⟩ := hn
  have hnl : p.nodes.length ≤ 9223372036854775807 := by have h : p.nodes.length ≤ ck := hcc; unfold maxLen at hmc; omega
  have HNE := Lib.hid hce
  have HV := Lib.hid ((Below.refl w.heap.size w).alloc (Nat.le_refl _) (.cells #[.slice E en ek, .slice C p.nodes.length ck] 25))
  have BP := Lib.hid (heap_alloc_new w (.cells #[.slice E en ek, .slice C p.nodes.length ck] 25))
  have hs0 : w.heap.size ≤ (w.alloc (.cells #[.slice E en ek, .slice C p.nodes.length ck] 25)).heap.size := by simp
  clear hb he hcc hmc hce hk hlen
  go_enter Tryz.func103, Tryz.ntmps103
  go_wp2_with fail
  generalize w.alloc (.cells #[.slice E en ek, .slice C p.nodes.length ck] 25) = V at *
  have HBV := Lib.hid (HB.out.trans (HV.out.mono hsz))
  have hszV := HBV.out.size
  go_loopg [7, 8] (k + 1) (fun g v u wr => ∃ i : Nat, i + g = k + 1 ∧ u = .int .i64 i ∧ OwnS V.heap.size wr v (if i ≤ k then stBefore (p.nodes.take i) [] else stBefore (p.nodes.take k) (n.items.take b)) ∧ Below V.heap.size V wr)
  case atStart => exact ⟨0, by omega, rfl, by rw [if_pos (Nat.zero_le _)]; exact OwnS.nil _ _, Below.refl _ _⟩
  case round =>
    obtain ⟨wq, rfl⟩ : ∃ W, W = wr := ⟨_, rfl⟩
    obtain ⟨i, hig, rfl, ho, hbw⟩ := hrel
    have HI := Lib.hid hig
    have HW := Lib.hid hbw
    have HO1 := Lib.hid ho
    have HBQ := Lib.hid (HBV.out.trans (hbw.mono hszV))
    obtain ⟨p0, p1⟩ := row2 (box_next hbw BP.out)
    have hil : i ≤ k + 1 := by omega
    clear hig hbw ho
    by_cases hik : i ≤ k
    · obtain ⟨m, hm⟩ : ∃ m, p.nodes[i]? = some m := ⟨_, List.getElem?_eq_getElem (by omega)⟩
      have hiln : i < p.nodes.length := by omega
      have HMI := Lib.hid hm
      have HO := Lib.hid (show OwnS V.heap.size wq _ (stBefore (p.nodes.take i) []) by have := HO1.out; rwa [if_pos hik] at this)
      obtain ⟨Lm, hEm, fv, iv, ov, xv, rfl, _, hfu, hin, hou, hit⟩ := HNE.out i m hm
      obtain ⟨fA, fn, fk, rfl⟩ := SliceAt.shape hfu
      obtain ⟨iA, im, ik, rfl⟩ := SliceAt.shape hin
      obtain ⟨oA, on, ok, rfl⟩ := SliceAt.shape hou
      obtain ⟨xA, xk, rfl, hxc, hxm, hxe⟩ := hit
      have hxl : m.items.length ≤ 9223372036854775807 := by have h : m.items.length ≤ xk := hxc; unfold maxLen at hxm; omega
      have HXE := Lib.hid hxe
      have HEM := Lib.hid hEm
      obtain ⟨a, ea, _, hab, _, _, _, _, _⟩ := elem5 (hEm.under HBQ.out)
      subst ea
      clear hEm hfu hin hou hxc hxm hxe
      by_cases hlt : i < k
      · have hne : ((i : Int) == (k : Int)) = false := by rw [beq_eq_false_iff_ne]; omega
        clear hm
        go_wp2_with fail
        clear p0 p1
        go_loopg [7, 9] m.items.length (fun g v u wr => ∃ j : Nat, j + g = m.items.length ∧ u = .int .i64 j ∧ OwnS V.heap.size wr v (stBefore (p.nodes.take i) (m.items.take j)) ∧ Below V.heap.size V wr)
        case atStart => exact ⟨0, by omega, rfl, by rw [List.take_zero]; exact HO.out, HW.out⟩
        case round =>
          obtain ⟨wz, rfl⟩ : ∃ W, W = wr := ⟨_, rfl⟩
          obtain ⟨j, hjg, rfl, ho2, hbz⟩ := hrel
          have HJ := Lib.hid hjg
          have HOZ := Lib.hid ho2
          have HZ := Lib.hid hbz
          have HZB := Lib.hid (HBV.out.trans (hbz.mono hszV))
          have hszZ := hbz.size
          obtain ⟨p0, p1⟩ := row2 (box_next hbz BP.out)
          obtain ⟨a', ea', _, hab, d0, d1, d2, d3, d4⟩ := elem5 (HEM.out.under HZB.out)
          cases ea'
          have hjl : j ≤ m.items.length := by omega
          clear hjg ho2 hbz
          by_cases hltj : j < m.items.length
          · obtain ⟨x, hx⟩ : ∃ x, m.items[j]? = some x := ⟨_, List.getElem?_eq_getElem hltj⟩
            have HX := Lib.hid hx
            have HT := Lib.hid (st_item (ns := p.nodes.take i) hx)
            have HLE := Lib.hid (fun t => Nat.le_trans (st_le (t := t) HMI.out hx) HLEN.out)
            obtain ⟨Lx, hEx, L', sv, rfl, hxq, hst⟩ := HXE.out j x hx
            obtain ⟨A0, n0, k0, o1, s2, o3, A4, n4, k4, A5, n5, k5, rfl⟩ := hxq.shape
            obtain ⟨sA, sc, rfl, hsc, hsm, hse⟩ := hst
            have hsl : x.states.length ≤ 9223372036854775807 := by have h : x.states.length ≤ sc := hsc; unfold maxLen at hsm; omega
            have HSE := Lib.hid hse
            simp only [List.cons_append, List.nil_append] at hEx
            obtain ⟨c, ec, hcb, hcbb, f0, f1, f2, f3, f4, f5, f6⟩ := elem7 (hEx.under HZB.out)
            subst ec
            clear hx hEx hxq hsc hsm hse
            go_wp2_with fail
            clear p0 p1 d0 d1 d2 d3 d4 f0 f1 f2 f3 f4 f5 f6
            go_loopg [7, 11] x.states.length (fun g v u wr => ∃ t : Nat, t + g = x.states.length ∧ u = .int .i64 t ∧ OwnS V.heap.size wr v (stBefore (p.nodes.take i) (m.items.take j) ++ (x.states.take t).map QState.name) ∧ Below V.heap.size V wr)
            case atStart => exact ⟨0, by omega, rfl, by simpa using HOZ.out, HZ.out⟩
            case round =>
              obtain ⟨wt, rfl⟩ : ∃ W, W = wr := ⟨_, rfl⟩
              obtain ⟨t, htg, rfl, ho3, hbt⟩ := hrel
              have HTG := Lib.hid htg
              have HOT := Lib.hid ho3
              have HWT := Lib.hid hbt
              have HTB := Lib.hid (HBV.out.trans (hbt.mono hszV))
              have hszT := hbt.size
              have htl : t ≤ x.states.length := by omega
              clear htg ho3 hbt
              by_cases hltt : t < x.states.length
              · obtain ⟨q, hq⟩ : ∃ q, x.states[t]? = some q := ⟨_, List.getElem?_eq_getElem hltt⟩
                have HTT := Lib.hid (show (x.states.take (t + 1)).map QState.name = (x.states.take t).map QState.name ++ [q.name] by rw [take_snoc hq]; simp)
                have hlen1 : (stBefore (p.nodes.take i) (m.items.take j) ++ (x.states.take t).map QState.name).length ≤ 2097152 := HLE.out t
                obtain ⟨N3, hEN3, ev3, wv3, rfl, hnl3, hev3, hwv3⟩ := HSE.out t q hq
                obtain ⟨E1, E2, E3, rfl⟩ := SliceAt.shape hev3
                obtain ⟨W1, W2, W3, rfl⟩ := SliceAt.shape hwv3
                obtain ⟨s, rfl, hsb, hsbb, g0, g1, g2⟩ := elem3 (hEN3.under HTB.out)
                have HNL := Lib.hid hnl3
                clear hEN3 hev3 hwv3 hq hnl3
                go_wp2_with (at_builtin; refine append_str rfl _ _ rfl rfl rfl (heap_alloc_new _ _) (HOT.out.alloc _) HNL.out hlen1 ?_ ?_; (first | omega | (simp; omega)); (intro v5 w5 h5; obtain ⟨ho5, hb5, _⟩ := h5; have HO5 := Lib.hid ho5; have HB5 := Lib.hid ((HWT.out.alloc (by omega) _).trans hb5); clear ho5 hb5))
                go_roundg (x.states.length - (t + 1))
                case measure => have := HTG.out; omega
                case rel => exact ⟨t + 1, by omega, by go_num, by rw [HTT.out, ← List.append_assoc]; exact HO5.out, HB5.out⟩
              · have hte : t = x.states.length := by omega
                have HO6 := Lib.hid (show OwnS V.heap.size wt _ (stBefore (p.nodes.take i) (m.items.take (j + 1))) by have := HOT.out; rwa [hte, List.take_length, ← HT.out] at this)
                clear hte
                go_wp2_with fail
                go_roundg (m.items.length - (j + 1))
                case measure => have := HJ.out; omega
                case rel => exact ⟨j + 1, by omega, by go_num, HO6.out, HWT.out⟩
          · have hje : j = m.items.length := by omega
            have HO7 := Lib.hid (show OwnS V.heap.size wz _ (stBefore (p.nodes.take (i + 1)) []) by have := HOZ.out; rwa [hje, List.take_length, ← st_node HMI.out] at this)
            clear hje
            go_wp2_with fail
            go_roundg (k + 1 - (i + 1))
            case measure => have := HI.out; omega
            case rel => exact ⟨i + 1, by omega, by go_num, by rw [if_pos (by omega)]; exact HO7.out, HZ.out⟩
      · have hike : i = k := by omega
        have HIK := Lib.hid hike
        have HMN := Lib.hid (show m = n by have h := HKN.out; rw [← hike, hm] at h; exact Option.some.inj h)
        have hne : ((i : Int) == (k : Int)) = true := by rw [hike]; simp
        clear hm hike
        go_wp2_with fail
        clear p0 p1
        go_loopg [7, 9] m.items.length (fun g v u wr => ∃ j : Nat, j + g = m.items.length ∧ u = .int .i64 j ∧ j ≤ b ∧ OwnS V.heap.size wr v (stBefore (p.nodes.take i) (m.items.take j)) ∧ Below V.heap.size V wr)
        case atStart => exact ⟨0, by omega, rfl, by omega, by rw [List.take_zero]; exact HO.out, HW.out⟩
        case round =>
          obtain ⟨wz, rfl⟩ : ∃ W, W = wr := ⟨_, rfl⟩
          obtain ⟨j, hjg, rfl, hjb, ho2, hbz⟩ := hrel
          have HJ := Lib.hid hjg
          have HOZ := Lib.hid ho2
          have HZ := Lib.hid hbz
          have HZB := Lib.hid (HBV.out.trans (hbz.mono hszV))
          have hszZ := hbz.size
          obtain ⟨p0, p1⟩ := row2 (box_next hbz BP.out)
          obtain ⟨a', ea', _, hab, d0, d1, d2, d3, d4⟩ := elem5 (HEM.out.under HZB.out)
          cases ea'
          have hjl : j ≤ m.items.length := by omega
          clear hjg ho2 hbz
          by_cases hltj : j < m.items.length
          · by_cases hjb2 : j < b
            · have hge : decide (b ≤ j) = false := by simp; omega
              obtain ⟨x, hx⟩ : ∃ x, m.items[j]? = some x := ⟨_, List.getElem?_eq_getElem hltj⟩
              have HX := Lib.hid hx
              have HT := Lib.hid (st_item (ns := p.nodes.take i) hx)
              have HLE := Lib.hid (fun t => Nat.le_trans (st_le (t := t) HMI.out hx) HLEN.out)
              obtain ⟨Lx, hEx, L', sv, rfl, hxq, hst⟩ := HXE.out j x hx
              obtain ⟨A0, n0, k0, o1, s2, o3, A4, n4, k4, A5, n5, k5, rfl⟩ := hxq.shape
              obtain ⟨sA, sc, rfl, hsc, hsm, hse⟩ := hst
              have hsl : x.states.length ≤ 9223372036854775807 := by have h : x.states.length ≤ sc := hsc; unfold maxLen at hsm; omega
              have HSE := Lib.hid hse
              simp only [List.cons_append, List.nil_append] at hEx
              obtain ⟨c, ec, hcb, hcbb, f0, f1, f2, f3, f4, f5, f6⟩ := elem7 (hEx.under HZB.out)
              subst ec
              clear hx hEx hxq hsc hsm hse
              go_wp2_with fail
              clear p0 p1 d0 d1 d2 d3 d4 f0 f1 f2 f3 f4 f5 f6
              go_loopg [7, 11] x.states.length (fun g v u wr => ∃ t : Nat, t + g = x.states.length ∧ u = .int .i64 t ∧ OwnS V.heap.size wr v (stBefore (p.nodes.take i) (m.items.take j) ++ (x.states.take t).map QState.name) ∧ Below V.heap.size V wr)
              case atStart => exact ⟨0, by omega, rfl, by simpa using HOZ.out, HZ.out⟩
              case round =>
                obtain ⟨wt, rfl⟩ : ∃ W, W = wr := ⟨_, rfl⟩
                obtain ⟨t, htg, rfl, ho3, hbt⟩ := hrel
                have HTG := Lib.hid htg
                have HOT := Lib.hid ho3
                have HWT := Lib.hid hbt
                have HTB := Lib.hid (HBV.out.trans (hbt.mono hszV))
                have hszT := hbt.size
                have htl : t ≤ x.states.length := by omega
                clear htg ho3 hbt
                by_cases hltt : t < x.states.length
                · obtain ⟨q, hq⟩ : ∃ q, x.states[t]? = some q := ⟨_, List.getElem?_eq_getElem hltt⟩
                  have HTT := Lib.hid (show (x.states.take (t + 1)).map QState.name = (x.states.take t).map QState.name ++ [q.name] by rw [take_snoc hq]; simp)
                  have hlen1 : (stBefore (p.nodes.take i) (m.items.take j) ++ (x.states.take t).map QState.name).length ≤ 2097152 := HLE.out t
                  obtain ⟨N3, hEN3, ev3, wv3, rfl, hnl3, hev3, hwv3⟩ := HSE.out t q hq
                  obtain ⟨E1, E2, E3, rfl⟩ := SliceAt.shape hev3
                  obtain ⟨W1, W2, W3, rfl⟩ := SliceAt.shape hwv3
                  obtain ⟨s, rfl, hsb, hsbb, g0, g1, g2⟩ := elem3 (hEN3.under HTB.out)
                  have HNL := Lib.hid hnl3
                  clear hEN3 hev3 hwv3 hq hnl3
                  go_wp2_with (at_builtin; refine append_str rfl _ _ rfl rfl rfl (heap_alloc_new _ _) (HOT.out.alloc _) HNL.out hlen1 ?_ ?_; (first | omega | (simp; omega)); (intro v5 w5 h5; obtain ⟨ho5, hb5, _⟩ := h5; have HO5 := Lib.hid ho5; have HB5 := Lib.hid ((HWT.out.alloc (by omega) _).trans hb5); clear ho5 hb5))
                  go_roundg (x.states.length - (t + 1))
                  case measure => have := HTG.out; omega
                  case rel => exact ⟨t + 1, by omega, by go_num, by rw [HTT.out, ← List.append_assoc]; exact HO5.out, HB5.out⟩
                · have hte : t = x.states.length := by omega
                  have HO6 := Lib.hid (show OwnS V.heap.size wt _ (stBefore (p.nodes.take i) (m.items.take (j + 1))) by have := HOT.out; rwa [hte, List.take_length, ← HT.out] at this)
                  clear hte
                  go_wp2_with fail
                  go_roundg (m.items.length - (j + 1))
                  case measure => have := HJ.out; omega
                  case rel => exact ⟨j + 1, by omega, by go_num, by omega, HO6.out, HWT.out⟩
            · have hje : j = b := by omega
              have hge : decide (b ≤ j) = true := by simp; omega
              have HO7 := Lib.hid (show OwnS V.heap.size wz _ (stBefore (p.nodes.take k) (n.items.take b)) by have := HOZ.out; rwa [hje, HIK.out, HMN.out] at this)
              clear hje
              go_wp2_with fail
              go_roundg (k + 1 - (i + 1))
              case measure => have := HI.out; omega
              case rel => exact ⟨i + 1, by omega, by go_num, by rw [if_neg (by omega)]; exact HO7.out, HZ.out⟩
          · have hje : j = m.items.length := by omega
            have HO7 := Lib.hid (show OwnS V.heap.size wz _ (stBefore (p.nodes.take k) (n.items.take b)) by have := HOZ.out; rwa [hje, List.take_length, HIK.out, HMN.out, ← List.take_of_length_le (l := n.items) (i := b) (by rw [← HMN.out]; omega)] at this)
            clear hje
            go_wp2_with fail
            go_roundg (k + 1 - (i + 1))
            case measure => have := HI.out; omega
            case rel => exact ⟨i + 1, by omega, by go_num, by rw [if_neg (by omega)]; exact HO7.out, HZ.out⟩
    · have HOe := Lib.hid (show OwnS V.heap.size wq _ (stBefore (p.nodes.take k) (n.items.take b)) by have := HO1.out; rwa [if_neg hik] at this)
      go_wp2_with fail
      go_ret
      exact ⟨_, rfl, HOe.out.mono hs0, HV.out.trans (HW.out.mono HV.out.size)⟩
end Go.Proofs.YtbpbnebcbjacdaaGreat
namespace Go.Proofs.YtbpbnebcbjacdaaGreat
open Go.RowKit

/-- the sizes of an item that may be -/
def ItemSmall (x : QItem) : Prop := (definedQ x).length ≤ 2097152 ∧ x.states.length ≤ 2097152 ∧ ∀ q ∈ x.states, q.eqs.length ≤ 2097152
theorem one_names {l : List QEq} (h : oneEach l = true) : (l.flatMap QEq.names).length = l.length := by
  induction l with
  | nil => rfl
  | cons q r ih =>
    have h' : (q.names.length == 1 && oneEach r) = true := h
    rw [Bool.and_eq_true] at h'
    have h1 : q.names.length = 1 := by simpa using h'.1
    rw [List.flatMap_cons, List.length_append, ih h'.2, h1, List.length_cons]; omega
theorem one_take {l : List QEq} {j : Nat} (h : oneEach (l.take j) = true) (hj : j ≤ l.length) : ((l.take j).flatMap QEq.names).length = j := by
  rw [one_names h, List.length_take]; omega
theorem one_snoc {l : List QEq} {j : Nat} {q : QEq} (h : oneEach (l.take j) = true) (hq : l[j]? = some q) (h1 : q.names.length = 1) : oneEach (l.take (j + 1)) = true := by
  unfold oneEach at h ⊢
  rw [take_snoc hq, List.all_append, h]; simp [h1]
theorem one_not {l : List QEq} {j : Nat} {q : QEq} (hq : l[j]? = some q) (h1 : q.names.length ≠ 1) : oneEach l = false := by
  unfold oneEach
  rw [List.all_eq_false]
  exact ⟨q, List.mem_of_getElem? hq, by simpa using h1⟩
set_option maxHeartbeats 16000000 in
set_option maxRecDepth 100000 in
theorem rAuto_any {w0 : World} {L : List Value} {p : QProg} (hL : ProgAt w0 L p) {k : Nat} {n : QNode} (hk : p.nodes[k]? = some n) {b : Nat} {x : QItem} (hx : n.items[b]? = some x) {z : QState} {r : List QState} (hz : x.states = z :: r) (hlen : (stBefore p.nodes []).length ≤ 2097152) (hfit : ItemSmall x) : ∀ w, Below w0.heap.size w0 w →
    Calls Tryz.prog 79 #[.agg L.toArray, .int .i64 k, .int .i64 b] w (BoolPost (statesOk (envS p.enums (p.nodes.take k) (n.items.take b)) x.states) w) := by
  have HENV := Lib.hid (show statesOk (envS p.enums (p.nodes.take k) (n.items.take b)) x.states = ((x.states.all fun q => !((conQ p q.name).2.2 || (stBefore (p.nodes.take k) (n.items.take b)).contains q.name)) && (recOk [] (x.states.map QState.name) && x.states.all (stateOk (definedQ x) (x.states.map QState.name)))) by
    have h1 : definedQ x = z.eqs.flatMap QEq.names := by unfold definedQ; rw [hz]
    rw [h1, hz]
    exact states_env p.enums (p.nodes.take k) (n.items.take b) p.nodes z r)
  have HST := Lib.hid (rStates_any hL hk b hlen)
  obtain ⟨hfd, hfs, hfq⟩ := hfit
  have HFQ := Lib.hid hfq
  have hfs' : ∀ t, ((x.states.take t).map QState.name).length ≤ 2097152 := fun t => by rw [List.length_map, List.length_take]; omega
  have HFS := Lib.hid hfs'
  have hpos : 0 < x.states.length := by rw [hz]; simp
  have HFI := Lib.hid hz
  generalize stBefore (p.nodes.take k) (n.items.take b) = early at HENV HST
  generalize statesOk (envS p.enums (p.nodes.take k) (n.items.take b)) x.states = ans at *
  intro w hb
  have HB := Lib.hid hb
  have hsz := hb.size
  have hkl : k < p.nodes.length := (List.getElem?_eq_some_iff.1 hk).1
  have HPROG := Lib.hid hL
  obtain ⟨ev, nv, rfl, he, hn⟩ := hL
  have HEV := Lib.hid he
  have HNV := Lib.hid hn
  obtain ⟨E, en, ek, rfl⟩ := SliceAt.shape he
  obtain ⟨C, ck, rfl, hcc, hmc, hce⟩ := hn
  have hccap : p.nodes.length ≤ ck := hcc
  have hnl : p.nodes.length ≤ 9223372036854775807 := by unfold maxLen at hmc; omega
  have HNE := Lib.hid hce
  obtain ⟨Ln, hEn, hNn⟩ := hce k n hk
  have HEN := Lib.hid hEn
  have HNA := Lib.hid hNn
  obtain ⟨fv, iv, ov, xv, rfl, hnn, hfu, hin, hou, hit⟩ := hNn
  have HFU := Lib.hid hfu
  have HIN := Lib.hid hin
  have HOU := Lib.hid hou
  have HIT := Lib.hid hit
  obtain ⟨fA, fk, rfl, hfc, hfm, hfe⟩ := hfu
  obtain ⟨iA, ik, rfl, hic, him, hie⟩ := hin
  obtain ⟨oA, ok, rfl, hoc, hom, hoe⟩ := hou
  obtain ⟨xA, xk, rfl, hxc, hxm, hxe⟩ := hit
  have hfl : n.funs.length ≤ 9223372036854775807 := by have h : n.funs.length ≤ fk := hfc; unfold maxLen at hfm; omega
  have hol : n.outs.length ≤ 9223372036854775807 := by have h : n.outs.length ≤ ok := hoc; unfold maxLen at hom; omega
  have hxcap : n.items.length ≤ xk := hxc
  have hxl : n.items.length ≤ 9223372036854775807 := by unfold maxLen at hxm; omega
  have HFE := Lib.hid hfe
  have HOE := Lib.hid hoe
  have HXE := Lib.hid hxe
  obtain ⟨a, ea, ha, haa, d0, d1, d2, d3, d4⟩ := elem5 (hEn.under HB.out)
  subst ea
  obtain ⟨Lx, hEx, hIx⟩ := HXE.out b x hx
  have HITM := Lib.hid hIx
  have hbl : b < n.items.length := (List.getElem?_eq_some_iff.1 hx).1
  obtain ⟨L', sv, rfl, hxq, hst⟩ := hIx
  obtain ⟨A0, n0, k0, o1, s2, o3, A4, n4, k4, A5, n5, k5, rfl⟩ := hxq.shape
  obtain ⟨sA, sc, rfl, hsc, hsm, hse⟩ := hst
  have hscap : x.states.length ≤ sc := hsc
  have hsl : x.states.length ≤ 9223372036854775807 := by unfold maxLen at hsm; omega
  have HSE := Lib.hid hse
  simp only [List.cons_append, List.nil_append] at hEx HITM
  obtain ⟨c, ec, hcb, hcbb, f0, f1, f2, f3, f4, f5, f6⟩ := elem7 (hEx.under HB.out)
  subst ec
  have HS0 := Lib.hid (show ∃ s, sA = some s from by
    obtain ⟨L0, ⟨s, e, _⟩, _⟩ := hse 0 z (by rw [hz]; rfl)
    exact ⟨s, e⟩)
  obtain ⟨s, rfl⟩ := HS0.out
  have HDEF := Lib.hid (rdefined_any HITM.out hfd)
  generalize hfirst : definedQ x = first at *
  have hfil : first.length ≤ 2097152 := hfd
  have HCONS := Lib.hid (fun s => rcon_any HPROG.out s)
  have HW2 := Lib.hid (show Below w.heap.size w ((w.alloc (.cells #[.slice E en ek, .slice (some a) p.nodes.length ck] 25)).alloc (.cells #[.slice A0 n0 k0, .int .i64 o1, .string s2, .int .i64 o3, .slice A4 n4 k4, .slice A5 n5 k5, .slice (some s) x.states.length sc] 55)) from (((Below.refl w.heap.size w).alloc (by simp) _).alloc (by simp <;> omega) _))
  clear hlen hfd hfs hfq hfs' hEx hxq hsc hsm hse hfirst hz HS0
  clear hb he hcc hmc hce hEn hnn hfc hfm hfe hic him hie hoc hom hoe hxc hxm hxe
  go_enter Tryz.func79, Tryz.ntmps79
  go_wp2_with (first
    | (go_at_call 19
       (with_reducible refine (HDEF.out _ (HB.out.trans (HW2.out.mono hsz))).mono ?_)
       rintro e w7 ⟨v8, rfl, hs8, hb8⟩
       have HS8a := Lib.hid hs8
       obtain ⟨A8, k8, rfl, _⟩ := hs8
       obtain ⟨V1, rfl⟩ : ∃ W, W = w7 := ⟨_, rfl⟩
       have HV1 := Lib.hid (HW2.out.trans (hb8.mono HW2.out.size))
       have BX1 := Lib.hid (show V1.heap[w.heap.size + 1]? = some (.cells #[.slice A0 n0 k0, .int .i64 o1, .string s2, .int .i64 o3, .slice A4 n4 k4, .slice A5 n5 k5, .slice (some s) x.states.length sc] 55 (0, 0)) from box_next hb8 (alloc_at (by simp)))
       have BP1 := Lib.hid (show V1.heap[w.heap.size]? = some (.cells #[.slice E en ek, .slice (some a) p.nodes.length ck] 25 (0, 0)) from box_next hb8 (alloc_below (heap_alloc_new w _)))
       obtain ⟨p0, p1⟩ := row2 BP1.out
       clear hb8)
    | (go_at_call 103
       (with_reducible refine (HST.out _ (HB.out.trans (HV1.out.mono hsz))).mono ?_)
       rintro e w7 ⟨v9, rfl, ho9, hb9⟩
       have HS9 := Lib.hid ho9.strs
       obtain ⟨A9, n9, k9, rfl, hn9⟩ := ho9.shape
       obtain ⟨V, rfl⟩ : ∃ W, W = w7 := ⟨_, rfl⟩
       have HV := Lib.hid (HV1.out.trans (hb9.mono HV1.out.size))
       have BX := Lib.hid (box_next hb9 BX1.out)
       have BP := Lib.hid (box_next hb9 BP1.out)
       have HS8 := Lib.hid (HS8a.out.under hb9)
       have HV0 := Lib.hid (Below.refl V.heap.size V)
       clear ho9 hn9 hb9))
  clear p0 p1 d0 d1 d2 d3 d4 f0 f1 f2 f3 f4 f5 f6
  have HBV := Lib.hid (HB.out.trans (HV.out.mono hsz))
  have hszV := HBV.out.size
  go_loopg [10, 11] x.states.length (fun g v u wr => ∃ t : Nat, t + g = x.states.length ∧ u = .int .i64 t ∧ OwnS V.heap.size wr v ((x.states.take t).map QState.name) ∧ (x.states.all fun q => !((conQ p q.name).2.2 || early.contains q.name)) = ((x.states.drop t).all fun q => !((conQ p q.name).2.2 || early.contains q.name)) ∧ Below V.heap.size V wr)
  case atStart => exact ⟨0, by omega, rfl, by simpa using OwnS.nil _ _, rfl, Below.refl _ _⟩
  case round =>
    obtain ⟨wq, rfl⟩ : ∃ W, W = wr := ⟨_, rfl⟩
    obtain ⟨t, htg, rfl, ho, hr, hbw⟩ := hrel
    have HT := Lib.hid htg
    have HW := Lib.hid hbw
    have HO := Lib.hid ho
    have HR := Lib.hid hr
    have HBQ := Lib.hid (HBV.out.trans (hbw.mono hszV))
    have hszq := hbw.size
    obtain ⟨y0, y1, y2, y3, y4, y5, y6⟩ := row7 (box_next hbw BX.out)
    have htl : t ≤ x.states.length := by omega
    clear htg hbw ho hr
    by_cases hlt : t < x.states.length
    · obtain ⟨q, hq⟩ : ∃ q, x.states[t]? = some q := ⟨_, List.getElem?_eq_getElem hlt⟩
      have HDR := Lib.hid (drop_consS hq)
      have HTT := Lib.hid (show (x.states.take (t + 1)).map QState.name = (x.states.take t).map QState.name ++ [q.name] by rw [take_snoc hq]; simp)
      have hlen1 := HFS.out t
      obtain ⟨N3, hEN3, ev3, wv3, rfl, hnl3, hev3, hwv3⟩ := HSE.out t q hq
      obtain ⟨E1, E2, E3, rfl⟩ := SliceAt.shape hev3
      obtain ⟨W1, W2, W3, rfl⟩ := SliceAt.shape hwv3
      have HEN3 := Lib.hid hEN3
      obtain ⟨s', es', _, hsQ, g0, g1, g2⟩ := elem3 (hEN3.under HBQ.out)
      cases es'
      have HNL := Lib.hid hnl3
      have HX := Lib.hid (show (x.states.all fun q => !((conQ p q.name).2.2 || early.contains q.name)) = (!((conQ p q.name).2.2 || early.contains q.name) && (x.states.drop (t + 1)).all fun q => !((conQ p q.name).2.2 || early.contains q.name)) by rw [HR.out, HDR.out, List.all_cons])
      have HCON := Lib.hid (HCONS.out q.name)
      obtain ⟨⟨r1, r2, r3⟩, hr⟩ : ∃ r, conQ p q.name = r := ⟨_, rfl⟩
      obtain ⟨u, hu⟩ : ∃ u, early.contains q.name = u := ⟨_, rfl⟩
      rw [hr, hu] at HX
      rw [hr] at HCON
      have HU := Lib.hid hu
      clear hEN3 hev3 hwv3 hq hnl3 hr hu
      go_wp2_with (at_builtin; refine append_str rfl _ _ rfl rfl rfl (heap_alloc_new _ _) (HO.out.alloc _) HNL.out hlen1 ?_ ?_; (first | omega | (simp; omega)); (intro v5 w5 h5; obtain ⟨Z1, rfl⟩ : ∃ W, W = w5 := ⟨_, rfl⟩; obtain ⟨ho5, hb5, _⟩ := h5; have HO5 := Lib.hid ho5; have HZ1 := Lib.hid ((HW.out.alloc (by omega) _).trans hb5); clear ho5 hb5))
      clear y0 y1 y2 y3 y4 y5 y6 g0 g1 g2 hsQ
      have HZ1B := Lib.hid (HBV.out.trans (HZ1.out.mono hszV))
      have KEEP := Lib.hid (show ∀ W, Below Z1.heap.size Z1 W → (fun W => W.cell? ⟨w.heap.size, 0, none⟩ = some (.slice E en ek) ∧ W.cell? ⟨w.heap.size, 1, none⟩ = some (.slice (some a) p.nodes.length ck) ∧ W.cell? ⟨w.heap.size + 1, 6, none⟩ = some (.slice (some s) x.states.length sc) ∧ W.cell? (s.add (t * 3)) = some (.string (str q.name))) W from
        fun W hW => by
          have hVW := HZ1.out.trans (hW.mono HZ1.out.size)
          obtain ⟨s', es', _, _, g0, g1, g2⟩ := elem3 (HEN3.out.under (HBV.out.trans (hVW.mono hszV)))
          cases es'
          obtain ⟨p0, p1⟩ := row2 (box_next hVW BP.out)
          obtain ⟨_, _, _, _, _, _, y6⟩ := row7 (box_next hVW BX.out)
          exact ⟨p0, p1, y6, g0⟩)
      cases r3
      · cases u
        · skip
          refine wp_region_held_drew (S := (fun W => W.cell? ⟨w.heap.size, 0, none⟩ = some (.slice E en ek) ∧ W.cell? ⟨w.heap.size, 1, none⟩ = some (.slice (some a) p.nodes.length ck) ∧ W.cell? ⟨w.heap.size + 1, 6, none⟩ = some (.slice (some s) x.states.length sc) ∧ W.cell? (s.add (t * 3)) = some (.string (str q.name)))) (by kernel_rfl) ?_ (fun hHeld => ?_)
          · exact KEEP.out _ (Below.refl _ _).drew
          refine take_now 0 rfl ?_
          try simp only [Act.put, setA, setZ, setS]
          refine take_now 1 rfl ?_
          try simp only [Act.put, setA, setZ, setS]
          refine take_now 2 rfl ?_
          try simp only [Act.put, setA, setZ, setS]
          refine take_now 3 rfl ?_
          try simp only [Act.put, setA, setZ, setS]
          refine take_now 4 rfl ?_
          try simp only [Act.put, setA, setZ, setS]
          refine take_now 5 rfl ?_
          try simp only [Act.put, setA, setZ, setS]
          refine take_now 6 rfl ?_
          try simp only [Act.put, setA, setZ, setS]
          refine only_at 7 (by kernel_rfl) rfl (fun K hK => ?_)
          go_simp
          (go_at_call 13
           (with_reducible refine (HCON.out _ HZ1B.out.drew).mono ?_)
           rintro e' w7 ⟨rfl, hb7⟩
           obtain ⟨Y, rfl⟩ : ∃ W, W = w7 := ⟨_, rfl⟩
           have GY := Lib.hid ((Below.refl Z1.heap.size Z1).drew.trans hb7)
           have HWY := Lib.hid (HZ1.out.trans (GY.out.mono HZ1.out.size))
           have HYB := Lib.hid (HBV.out.trans (HWY.out.mono hszV))
           obtain ⟨y0, y1, y2, y3, y4, y5, y6⟩ := row7 (box_next HWY.out BX.out)
           obtain ⟨s', es', _, hsY, g0, g1, g2⟩ := elem3 (HEN3.out.under HYB.out)
           cases es'
           clear hb7)
          refine hK.out _ _ (KEEP.out _ ?_) (fun hHeld => ?_)
          · (repeat (first | exact Below.refl _ _ | exact GY.out | refine Below.drew ?_ | refine Below.alloc ?_ (by simp) _ | refine Below.setCell ?_ (by simp) _))
          clear hK K
          refine take_now 8 rfl ?_
          try simp only [Act.put, setA, setZ, setS]
          refine take_now 9 rfl ?_
          try simp only [Act.put, setA, setZ, setS]
          refine take_now 10 rfl ?_
          try simp only [Act.put, setA, setZ, setS]
          refine take_now 11 rfl ?_
          try simp only [Act.put, setA, setZ, setS]
          refine take_now 12 rfl ?_
          try simp only [Act.put, setA, setZ, setS]
          refine take_now 13 rfl ?_
          try simp only [Act.put, setA, setZ, setS]
          refine take_now 14 rfl ?_
          try simp only [Act.put, setA, setZ, setS]
          refine wpAnyH_done (by kernel_rfl) ?_ _
          go_wp2_with (go_at_call 21
                       (with_reducible refine (has_any ((HS9.out.under HV0.out).under HWY.out) q.name).mono ?_)
                       rintro e' w8 ⟨he, rfl⟩
                       rw [HU.out] at he
                       subst he)
          go_roundg (x.states.length - (t + 1))
          case measure => have := HT.out; omega
          case rel => exact ⟨t + 1, by omega, by go_num, by rw [HTT.out]; exact HO5.out.under GY.out, by rw [HX.out]; rfl, HWY.out⟩
        · skip
          refine wp_region_held_drew (S := (fun W => W.cell? ⟨w.heap.size, 0, none⟩ = some (.slice E en ek) ∧ W.cell? ⟨w.heap.size, 1, none⟩ = some (.slice (some a) p.nodes.length ck) ∧ W.cell? ⟨w.heap.size + 1, 6, none⟩ = some (.slice (some s) x.states.length sc) ∧ W.cell? (s.add (t * 3)) = some (.string (str q.name)))) (by kernel_rfl) ?_ (fun hHeld => ?_)
          · exact KEEP.out _ (Below.refl _ _).drew
          refine take_now 0 rfl ?_
          try simp only [Act.put, setA, setZ, setS]
          refine take_now 1 rfl ?_
          try simp only [Act.put, setA, setZ, setS]
          refine take_now 2 rfl ?_
          try simp only [Act.put, setA, setZ, setS]
          refine take_now 3 rfl ?_
          try simp only [Act.put, setA, setZ, setS]
          refine take_now 4 rfl ?_
          try simp only [Act.put, setA, setZ, setS]
          refine take_now 5 rfl ?_
          try simp only [Act.put, setA, setZ, setS]
          refine take_now 6 rfl ?_
          try simp only [Act.put, setA, setZ, setS]
          refine only_at 7 (by kernel_rfl) rfl (fun K hK => ?_)
          go_simp
          (go_at_call 13
           (with_reducible refine (HCON.out _ HZ1B.out.drew).mono ?_)
           rintro e' w7 ⟨rfl, hb7⟩
           obtain ⟨Y, rfl⟩ : ∃ W, W = w7 := ⟨_, rfl⟩
           have GY := Lib.hid ((Below.refl Z1.heap.size Z1).drew.trans hb7)
           have HWY := Lib.hid (HZ1.out.trans (GY.out.mono HZ1.out.size))
           have HYB := Lib.hid (HBV.out.trans (HWY.out.mono hszV))
           obtain ⟨y0, y1, y2, y3, y4, y5, y6⟩ := row7 (box_next HWY.out BX.out)
           obtain ⟨s', es', _, hsY, g0, g1, g2⟩ := elem3 (HEN3.out.under HYB.out)
           cases es'
           clear hb7)
          refine hK.out _ _ (KEEP.out _ ?_) (fun hHeld => ?_)
          · (repeat (first | exact Below.refl _ _ | exact GY.out | refine Below.drew ?_ | refine Below.alloc ?_ (by simp) _ | refine Below.setCell ?_ (by simp) _))
          clear hK K
          refine take_now 8 rfl ?_
          try simp only [Act.put, setA, setZ, setS]
          refine take_now 9 rfl ?_
          try simp only [Act.put, setA, setZ, setS]
          refine take_now 10 rfl ?_
          try simp only [Act.put, setA, setZ, setS]
          refine take_now 11 rfl ?_
          try simp only [Act.put, setA, setZ, setS]
          refine take_now 12 rfl ?_
          try simp only [Act.put, setA, setZ, setS]
          refine take_now 13 rfl ?_
          try simp only [Act.put, setA, setZ, setS]
          refine take_now 14 rfl ?_
          try simp only [Act.put, setA, setZ, setS]
          refine wpAnyH_done (by kernel_rfl) ?_ _
          go_wp2_with (go_at_call 21
                       (with_reducible refine (has_any ((HS9.out.under HV0.out).under HWY.out) q.name).mono ?_)
                       rintro e' w8 ⟨he, rfl⟩
                       rw [HU.out] at he
                       subst he)
          go_ret
          exact ⟨ret_bool (by rw [HENV.out, HX.out]; rfl), HV.out.trans (HWY.out.mono HV.out.size)⟩
      · skip
        refine wp_region_held_drew (S := (fun W => W.cell? ⟨w.heap.size, 0, none⟩ = some (.slice E en ek) ∧ W.cell? ⟨w.heap.size, 1, none⟩ = some (.slice (some a) p.nodes.length ck) ∧ W.cell? ⟨w.heap.size + 1, 6, none⟩ = some (.slice (some s) x.states.length sc) ∧ W.cell? (s.add (t * 3)) = some (.string (str q.name)))) (by kernel_rfl) ?_ (fun hHeld => ?_)
        · exact KEEP.out _ (Below.refl _ _).drew
        refine take_now 0 rfl ?_
        try simp only [Act.put, setA, setZ, setS]
        refine take_now 1 rfl ?_
        try simp only [Act.put, setA, setZ, setS]
        refine take_now 2 rfl ?_
        try simp only [Act.put, setA, setZ, setS]
        refine take_now 3 rfl ?_
        try simp only [Act.put, setA, setZ, setS]
        refine take_now 4 rfl ?_
        try simp only [Act.put, setA, setZ, setS]
        refine take_now 5 rfl ?_
        try simp only [Act.put, setA, setZ, setS]
        refine take_now 6 rfl ?_
        try simp only [Act.put, setA, setZ, setS]
        refine only_at 7 (by kernel_rfl) rfl (fun K hK => ?_)
        go_simp
        (go_at_call 13
         (with_reducible refine (HCON.out _ HZ1B.out.drew).mono ?_)
         rintro e' w7 ⟨rfl, hb7⟩
         obtain ⟨Y, rfl⟩ : ∃ W, W = w7 := ⟨_, rfl⟩
         have GY := Lib.hid ((Below.refl Z1.heap.size Z1).drew.trans hb7)
         have HWY := Lib.hid (HZ1.out.trans (GY.out.mono HZ1.out.size))
         have HYB := Lib.hid (HBV.out.trans (HWY.out.mono hszV))
         obtain ⟨y0, y1, y2, y3, y4, y5, y6⟩ := row7 (box_next HWY.out BX.out)
         obtain ⟨s', es', _, hsY, g0, g1, g2⟩ := elem3 (HEN3.out.under HYB.out)
         cases es'
         clear hb7)
        refine hK.out _ _ (KEEP.out _ ?_) (fun hHeld => ?_)
        · (repeat (first | exact Below.refl _ _ | exact GY.out | refine Below.drew ?_ | refine Below.alloc ?_ (by simp) _ | refine Below.setCell ?_ (by simp) _))
        clear hK K
        refine take_now 8 rfl ?_
        try simp only [Act.put, setA, setZ, setS]
        refine take_now 9 rfl ?_
        try simp only [Act.put, setA, setZ, setS]
        refine take_now 10 rfl ?_
        try simp only [Act.put, setA, setZ, setS]
        refine take_now 11 rfl ?_
        try simp only [Act.put, setA, setZ, setS]
        refine take_now 12 rfl ?_
        try simp only [Act.put, setA, setZ, setS]
        refine take_now 13 rfl ?_
        try simp only [Act.put, setA, setZ, setS]
        refine take_now 14 rfl ?_
        try simp only [Act.put, setA, setZ, setS]
        refine wpAnyH_done (by kernel_rfl) ?_ _
        go_wp2_with fail
        go_ret
        exact ⟨ret_bool (by rw [HENV.out, HX.out]; rfl), HV.out.trans (HWY.out.mono HV.out.size)⟩
    · have hte : t = x.states.length := by omega
      have HE1 := Lib.hid (show ans = (recOk [] (x.states.map QState.name) && x.states.all (stateOk first (x.states.map QState.name))) by rw [HENV.out, HR.out, hte, List.drop_length]; rfl)
      have HNS := Lib.hid (show StrsAt wq _ (x.states.map QState.name) by have := HO.out.strs; rwa [hte, List.take_length] at this)
      obtain ⟨A10, n10, k10, rfl, hn10⟩ := HO.out.shape
      clear hte hn10 HO HR
      generalize hnames : x.states.map QState.name = names at *
      have HUN := Lib.hid (rUnlike_any HNS.out _ (Below.refl _ _))
      obtain ⟨u, hu⟩ : ∃ u, recOk [] names = u := ⟨_, rfl⟩
      rw [hu] at HUN HE1
      clear hu hnames
      cases u
      · go_wp2_with (go_at_call 49
                     (with_reducible refine HUN.out.mono ?_)
                     rintro e' w8 ⟨rfl, hb8⟩
                     have G8 := Lib.hid (HW.out.trans (hb8.mono HW.out.size))
                     clear hb8)
        go_ret
        exact ⟨ret_bool (by rw [HE1.out]; rfl), HV.out.trans (G8.out.mono HV.out.size)⟩
      · have HE2 := Lib.hid (show ans = x.states.all (stateOk first names) by rw [HE1.out]; rfl)
        go_wp2_with (go_at_call 49
                     (with_reducible refine HUN.out.mono ?_)
                     rintro e' w8 ⟨rfl, hb8⟩
                     obtain ⟨M, rfl⟩ : ∃ W, W = w8 := ⟨_, rfl⟩
                     have HM := Lib.hid (HW.out.trans (hb8.mono HW.out.size))
                     have HNM := Lib.hid (HNS.out.under hb8)
                     clear hb8)
        have BXM := Lib.hid (box_next HM.out BX.out)
        have HS8M := Lib.hid (HS8.out.under HM.out)
        have HBM := Lib.hid (HBV.out.trans (HM.out.mono hszV))
        have hszM := HBM.out.size
        have HVM := Lib.hid (HV.out.trans (HM.out.mono HV.out.size))
        clear HM HNS HUN
        go_loopg [15] x.states.length (fun g u wr => ∃ t : Nat, t + g = x.states.length ∧ u = .int .i64 t ∧ x.states.all (stateOk first names) = (x.states.drop t).all (stateOk first names) ∧ Below M.heap.size M wr)
        case atStart => exact ⟨0, by omega, rfl, rfl, Below.refl _ _⟩
        case round =>
          obtain ⟨wi, rfl⟩ : ∃ W, W = wr := ⟨_, rfl⟩
          obtain ⟨i, hig, rfl, hr, hbi⟩ := hrel
          have HI := Lib.hid hig
          have HR := Lib.hid hr
          have HWI := Lib.hid hbi
          have HBI := Lib.hid (HBM.out.trans (hbi.mono hszM))
          obtain ⟨_, _, _, _, _, _, y6⟩ := row7 (box_next hbi BXM.out)
          have hil : i ≤ x.states.length := by omega
          clear hig hr hbi
          by_cases hlti : i < x.states.length
          · obtain ⟨q, hq⟩ : ∃ q, x.states[i]? = some q := ⟨_, List.getElem?_eq_getElem hlti⟩
            have HDR := Lib.hid (drop_consS hq)
            have HX := Lib.hid (show ans = (stateOk first names q && (x.states.drop (i + 1)).all (stateOk first names)) by rw [HE2.out, HR.out, HDR.out, List.all_cons])
            have HNXT := Lib.hid (fun (h : stateOk first names q = true) => show x.states.all (stateOk first names) = (x.states.drop (i + 1)).all (stateOk first names) by rw [HR.out, HDR.out, List.all_cons, h, Bool.true_and])
            have hqe := HFQ.out q (List.mem_of_getElem? hq)
            obtain ⟨N3, hEN3, ev3, wv3, rfl, _, hev3, hwv3⟩ := HSE.out i q hq
            obtain ⟨qA, qc, rfl, hqc, hqm, hqq⟩ := hev3
            obtain ⟨yA, yc, rfl, hyc, hym, hyy⟩ := hwv3
            have hql : q.eqs.length ≤ 9223372036854775807 := by omega
            have hyl : q.ways.length ≤ 9223372036854775807 := by have h : q.ways.length ≤ yc := hyc; unfold maxLen at hym; omega
            have HQQ := Lib.hid hqq
            have HYY := Lib.hid hyy
            have HEN3 := Lib.hid hEN3
            have HSO := Lib.hid (show stateOk first names q = (oneEach q.eqs && ((q.eqs.flatMap QEq.names).all first.contains && (((q.eqs.flatMap QEq.names).length == first.length && recOk [] (q.eqs.flatMap QEq.names)) && q.ways.all fun y => names.contains y.to))) from rfl)
            generalize stateOk first names q = so at HSO HX HNXT
            clear hEN3 hqc hqm hqq hyc hym hyy hq
            go_wp2_with fail
            clear y6
            go_loopg [16, 17] q.eqs.length (fun g v u wr => ∃ j : Nat, j + g = q.eqs.length ∧ u = .int .i64 j ∧ OwnS M.heap.size wr v ((q.eqs.take j).flatMap QEq.names) ∧ oneEach (q.eqs.take j) = true ∧ Below M.heap.size M wr)
            case atStart => exact ⟨0, by omega, rfl, by simpa using OwnS.nil _ _, rfl, HWI.out⟩
            case round =>
              obtain ⟨wj, rfl⟩ : ∃ W, W = wr := ⟨_, rfl⟩
              obtain ⟨j, hjg, rfl, ho, h1, hbj⟩ := hrel
              have HJ := Lib.hid hjg
              have HO := Lib.hid ho
              have H1 := Lib.hid h1
              have HWJ := Lib.hid hbj
              have HBJ := Lib.hid (HBM.out.trans (hbj.mono hszM))
              have hszj := hbj.size
              obtain ⟨_, _, _, _, _, _, y6⟩ := row7 (box_next hbj BXM.out)
              obtain ⟨s', es', _, hsJ, g0, g1, g2⟩ := elem3 (HEN3.out.under HBJ.out)
              cases es'
              have hjl : j ≤ q.eqs.length := by omega
              clear hjg ho h1 hbj
              by_cases hltj : j < q.eqs.length
              · obtain ⟨e, he⟩ : ∃ e, q.eqs[j]? = some e := ⟨_, List.getElem?_eq_getElem hltj⟩
                have HEJ := Lib.hid he
                obtain ⟨N4, hEN4, nv4, Le4, rfl, hnv4, hxe4⟩ := HQQ.out j e he
                obtain ⟨fo1, fs2, fo3, fA4, fn4, fk4, fA5, fn5, fk5, rfl⟩ := hxe4.shape
                obtain ⟨nA4, nk4, rfl, hnc4, hnm4, hne4⟩ := hnv4
                have hn4l : e.names.length ≤ 9223372036854775807 := by have h : e.names.length ≤ nk4 := hnc4; unfold maxLen at hnm4; omega
                obtain ⟨c4, ec4, _, h4b, v0, v1, v2, v3, v4, v5⟩ := elem6 (hEN4.under HBJ.out)
                subst ec4
                by_cases hone : e.names.length = 1
                · obtain ⟨y, hy⟩ : ∃ y, e.names = [y] := by
                    match e.names, hone with
                    | [y], _ => exact ⟨y, rfl⟩
                  obtain ⟨Ly, hEy, rfl, hyl4⟩ := hne4 0 y (by rw [hy]; rfl)
                  obtain ⟨d, ed, _, hdb, c0⟩ := elem1 (hEy.under HBJ.out)
                  subst ed
                  rw [Nat.zero_mul, add_zero] at c0 hdb
                  have HYL := Lib.hid hyl4
                  have HTT := Lib.hid (show (q.eqs.take (j + 1)).flatMap QEq.names = (q.eqs.take j).flatMap QEq.names ++ [y] by rw [flat_snoc he, hy])
                  have HSN := Lib.hid (one_snoc H1.out he hone)
                  have hlen1 : ((q.eqs.take j).flatMap QEq.names).length ≤ 2097152 := by rw [one_take H1.out hjl]; omega
                  rw [hone] at v0
                  clear he hEN4 hnc4 hnm4 hne4 hxe4 hEy hy hyl4 v1 v2 v3 v4 v5
                  go_wp2_with (at_builtin; refine append_str rfl _ _ rfl rfl rfl (heap_alloc_new _ _) (HO.out.alloc _) HYL.out hlen1 ?_ ?_; (first | omega | (simp; omega)); (intro v5 w5 h5; obtain ⟨ho5, hb5, _⟩ := h5; have HO5 := Lib.hid ho5; have HB5 := Lib.hid ((HWJ.out.alloc (by omega) _).trans hb5); clear ho5 hb5))
                  go_roundg (q.eqs.length - (j + 1))
                  case measure => have := HJ.out; omega
                  case rel => exact ⟨j + 1, by omega, by go_num, by rw [HTT.out]; exact HO5.out, HSN.out, HB5.out⟩
                · have hb1 : ((e.names.length : Int) != 1) = true := by rw [bne_iff_ne]; omega
                  have HN := Lib.hid (show ans = false by rw [HX.out, HSO.out, one_not he hone]; rfl)
                  clear he hEN4 hnc4 hnm4 hne4 hxe4 v1 v2 v3 v4 v5 hone
                  go_wp2_with fail
                  go_ret
                  exact ⟨ret_bool HN.out.symm, HVM.out.trans (HWJ.out.mono HVM.out.size)⟩
              · have hje : j = q.eqs.length := by omega
                have HONE := Lib.hid (show oneEach q.eqs = true by have := H1.out; rwa [hje, List.take_length] at this)
                have HLS := Lib.hid (show OwnS M.heap.size wj _ (q.eqs.flatMap QEq.names) by have := HO.out; rwa [hje, List.take_length] at this)
                have hll : (q.eqs.flatMap QEq.names).length ≤ 2097152 := by rw [one_names HONE.out]; omega
                have HSO1 := Lib.hid (show so = ((q.eqs.flatMap QEq.names).all first.contains && (((q.eqs.flatMap QEq.names).length == first.length && recOk [] (q.eqs.flatMap QEq.names)) && q.ways.all fun y => names.contains y.to)) by rw [HSO.out, HONE.out]; rfl)
                generalize q.eqs.flatMap QEq.names = l at *
                obtain ⟨lA, ln, lk, rfl, hln⟩ := HLS.out.shape
                subst hln
                have HLT := Lib.hid HLS.out.strs
                obtain ⟨lA', lk', el, _, _, hle⟩ := HLT.out
                injection el with el1 _ el3
                subst el1 el3
                have HLE := Lib.hid hle
                clear hje HO HLS hle
                go_wp2_with fail
                clear y6 g0 g1 g2 hsJ
                go_loopg [18] l.length (fun g u wr => ∃ m : Nat, m + g = l.length ∧ u = .int .i64 m ∧ l.all first.contains = (l.drop m).all first.contains ∧ Below wj.heap.size wj wr)
                case atStart => exact ⟨0, by omega, rfl, rfl, Below.refl _ _⟩
                case round =>
                  obtain ⟨wm, rfl⟩ : ∃ W, W = wr := ⟨_, rfl⟩
                  obtain ⟨m, hmg, rfl, hr3, hbm⟩ := hrel
                  have HMG := Lib.hid hmg
                  have HR3 := Lib.hid hr3
                  have HJM := Lib.hid hbm
                  have HWM := Lib.hid (HWJ.out.trans (hbm.mono HWJ.out.size))
                  have HBMM := Lib.hid (HBM.out.trans (HWM.out.mono hszM))
                  have hml : m ≤ l.length := by omega
                  clear hmg hr3 hbm
                  by_cases hltm : m < l.length
                  · obtain ⟨y, hy⟩ : ∃ y, l[m]? = some y := ⟨_, List.getElem?_eq_getElem hltm⟩
                    have HDM := Lib.hid (drop_consS hy)
                    obtain ⟨Ly, hEy, rfl, _⟩ := HLE.out m y hy
                    obtain ⟨d, ed, _, hdb, c0⟩ := elem1 (hEy.under HJM.out)
                    subst ed
                    rw [Nat.mul_one] at c0 hdb
                    obtain ⟨u, hu⟩ : ∃ u, first.contains y = u := ⟨_, rfl⟩
                    have HU := Lib.hid hu
                    have HXM := Lib.hid (show l.all first.contains = (first.contains y && (l.drop (m + 1)).all first.contains) by rw [HR3.out, HDM.out, List.all_cons])
                    clear hy hEy
                    cases u
                    · have HN := Lib.hid (show ans = false by rw [HX.out, HSO1.out, HXM.out, hu]; rfl)
                      clear hu
                      go_wp2_with (go_at_call 21
                                   (with_reducible refine (has_any (HS8M.out.under HWM.out) y).mono ?_)
                                   rintro e' w8 ⟨he, rfl⟩
                                   rw [HU.out] at he
                                   subst he)
                      go_ret
                      exact ⟨ret_bool HN.out.symm, HVM.out.trans (HWM.out.mono HVM.out.size)⟩
                    · clear hu
                      go_wp2_with (go_at_call 21
                                   (with_reducible refine (has_any (HS8M.out.under HWM.out) y).mono ?_)
                                   rintro e' w8 ⟨he, rfl⟩
                                   rw [HU.out] at he
                                   subst he)
                      go_roundg (l.length - (m + 1))
                      case measure => have := HMG.out; omega
                      case rel => exact ⟨m + 1, by omega, by go_num, by rw [HXM.out, HU.out]; rfl, HJM.out⟩
                  · have hme : m = l.length := by omega
                    have HSO2 := Lib.hid (show so = ((l.length == first.length && recOk [] l) && q.ways.all fun y => names.contains y.to) by rw [HSO1.out, HR3.out, hme, List.drop_length]; rfl)
                    have HUN := Lib.hid (rUnlike_any (HLT.out.under HJM.out) _ (Below.refl _ _))
                    obtain ⟨u, hu⟩ : ∃ u, recOk [] l = u := ⟨_, rfl⟩
                    rw [hu] at HUN HSO2
                    clear hme hu
                    by_cases hlf : l.length = first.length
                    · have hb1 : ((l.length : Int) != (first.length : Int)) = false := by rw [hlf]; simp
                      have hb2 : (l.length == first.length) = true := by rw [hlf]; simp
                      rw [hb2] at HSO2
                      cases u
                      · have HN := Lib.hid (show ans = false by rw [HX.out, HSO2.out]; rfl)
                        clear hlf hb2
                        go_wp2_with (go_at_call 49
                                     (with_reducible refine HUN.out.mono ?_)
                                     rintro e' w8 ⟨rfl, hb8⟩
                                     have G8 := Lib.hid (HWM.out.trans (hb8.mono HWM.out.size))
                                     clear hb8)
                        go_ret
                        exact ⟨ret_bool HN.out.symm, HVM.out.trans (G8.out.mono HVM.out.size)⟩
                      · have HSO3 := Lib.hid (show so = q.ways.all fun y => names.contains y.to by rw [HSO2.out]; rfl)
                        clear hlf hb2
                        go_wp2_with (go_at_call 49
                                     (with_reducible refine HUN.out.mono ?_)
                                     rintro e' w8 ⟨rfl, hb8⟩
                                     have G8 := Lib.hid (HWM.out.trans (hb8.mono HWM.out.size))
                                     clear hb8)
                        go_loopg [19] q.ways.length (fun g u wr => ∃ d : Nat, d + g = q.ways.length ∧ u = .int .i64 d ∧ (q.ways.all fun y => names.contains y.to) = ((q.ways.drop d).all fun y => names.contains y.to) ∧ Below M.heap.size M wr)
                        case atStart => exact ⟨0, by omega, rfl, rfl, G8.out⟩
                        case round =>
                          obtain ⟨wd, rfl⟩ : ∃ W, W = wr := ⟨_, rfl⟩
                          obtain ⟨d, hdg, rfl, hr4, hbd⟩ := hrel
                          have HDG := Lib.hid hdg
                          have HR4 := Lib.hid hr4
                          have HWD := Lib.hid hbd
                          have HBD := Lib.hid (HBM.out.trans (hbd.mono hszM))
                          obtain ⟨_, _, _, _, _, _, y6⟩ := row7 (box_next hbd BXM.out)
                          obtain ⟨s', es', _, hsD, g0, g1, g2⟩ := elem3 (HEN3.out.under HBD.out)
                          cases es'
                          have hdl : d ≤ q.ways.length := by omega
                          clear hdg hr4 hbd
                          by_cases hltd : d < q.ways.length
                          · obtain ⟨y, hy⟩ : ∃ y, q.ways[d]? = some y := ⟨_, List.getElem?_eq_getElem hltd⟩
                            have HDD := Lib.hid (drop_consS hy)
                            obtain ⟨Ly, hEy, L2, rfl, hx2, hto⟩ := HYY.out d y hy
                            obtain ⟨fo1, fs2, fo3, fA4, fn4, fk4, fA5, fn5, fk5, rfl⟩ := hx2.shape
                            simp only [List.cons_append, List.nil_append] at hEy
                            obtain ⟨d6, ed6, _, hdb, v0, v1, v2, v3, v4, v5⟩ := elem6 (hEy.under HBD.out)
                            subst ed6
                            have HXM := Lib.hid (show (q.ways.all fun y => names.contains y.to) = (names.contains y.to && (q.ways.drop (d + 1)).all fun y => names.contains y.to) by rw [HR4.out, HDD.out, List.all_cons])
                            obtain ⟨u, hu⟩ : ∃ u, names.contains y.to = u := ⟨_, rfl⟩
                            have HU := Lib.hid hu
                            clear hy hEy hx2 hto v0 v1 v2 v3 v4
                            cases u
                            · have HN := Lib.hid (show ans = false by rw [HX.out, HSO3.out, HXM.out, hu]; rfl)
                              clear hu
                              go_wp2_with (go_at_call 21
                                           (with_reducible refine (has_any (HNM.out.under HWD.out) y.to).mono ?_)
                                           rintro e' w8 ⟨he, rfl⟩
                                           rw [HU.out] at he
                                           subst he)
                              go_ret
                              exact ⟨ret_bool HN.out.symm, HVM.out.trans (HWD.out.mono HVM.out.size)⟩
                            · clear hu
                              go_wp2_with (go_at_call 21
                                           (with_reducible refine (has_any (HNM.out.under HWD.out) y.to).mono ?_)
                                           rintro e' w8 ⟨he, rfl⟩
                                           rw [HU.out] at he
                                           subst he)
                              go_roundg (q.ways.length - (d + 1))
                              case measure => have := HDG.out; omega
                              case rel => exact ⟨d + 1, by omega, by go_num, by rw [HXM.out, HU.out]; rfl, HWD.out⟩
                          · have hde : d = q.ways.length := by omega
                            have HSOK := Lib.hid (HNXT.out (by rw [HSO3.out, HR4.out, hde, List.drop_length]; rfl))
                            clear hde
                            go_wp2_with fail
                            go_roundg (x.states.length - (i + 1))
                            case measure => have := HI.out; omega
                            case rel => exact ⟨i + 1, by omega, by go_num, HSOK.out, HWD.out⟩
                    · have hb1 : ((l.length : Int) != (first.length : Int)) = true := by rw [bne_iff_ne]; omega
                      have hb2 : (l.length == first.length) = false := by simpa using hlf
                      have HN := Lib.hid (show ans = false by rw [HX.out, HSO2.out, hb2]; rfl)
                      clear hlf hb2
                      go_wp2_with fail
                      go_ret
                      exact ⟨ret_bool HN.out.symm, HVM.out.trans (HWM.out.mono HVM.out.size)⟩
          · have hie : i = x.states.length := by omega
            have HN := Lib.hid (show ans = true by rw [HE2.out, HR.out, hie, List.drop_length]; rfl)
            clear hie
            go_wp2_with fail
            go_ret
            exact ⟨ret_bool HN.out.symm, HVM.out.trans (HWI.out.mono HVM.out.size)⟩
end Go.Proofs.YtbpbnebcbjacdaaGreat
namespace Go.Proofs.YtbpbnebcbjacdaaGreat
open Go.RowKit

theorem has_post {va : Value} {l : List Tx} {w : World} (ha : StrsAt w va l) (s : Tx) : Calls Tryz.prog 21 #[va, .string (str s)] w (BoolPost (l.contains s) w) :=
  (has_any ha s).mono fun e w' h => ⟨h.1, by rw [← h.2]; exact Below.refl _ _⟩
theorem len_empty (l : List Tx) : ((l.length : Int) == 0) = l.isEmpty := by cases l <;> simp <;> omega
theorem call_fun {s : SNode} {nm : Tx} {cs : List Tx} {k : Nat} {r : Int} (h : s.funs.contains nm = true) : callQ s nm cs k r = cs.isEmpty := by unfold callQ; rw [if_pos h]
theorem call_none {s : SNode} {nm : Tx} {cs : List Tx} {k : Nat} {r : Int} (h : s.funs.contains nm = false) (hg : getA s.prog.nodes nm = none) : callQ s nm cs k r = false := by unfold callQ; rw [if_neg (by rw [h]; simp), hg]
theorem call_some {s : SNode} {nm : Tx} {cs : List Tx} {k : Nat} {r : Int} {g : QNode} (h : s.funs.contains nm = false) (hg : getA s.prog.nodes nm = some g) : callQ s nm cs k r = (g.ins.length == k && (g.funs.length == cs.length && ((g.outs.length : Int) == r && cs.all (passQ s)))) := by unfold callQ; rw [if_neg (by rw [h]; simp), hg]
theorem pass_fun {s : SNode} {f : Tx} (h : s.funs.contains f = true) : passQ s f = true := by unfold passQ; rw [h]; rfl
theorem pass_none {s : SNode} {f : Tx} (h : s.funs.contains f = false) (hg : getA s.prog.nodes f = none) : passQ s f = false := by unfold passQ; rw [h, hg]; rfl
theorem pass_some {s : SNode} {f : Tx} {g : QNode} (h : s.funs.contains f = false) (hg : getA s.prog.nodes f = some g) : passQ s f = g.funs.isEmpty := by unfold passQ; rw [h, hg]; rfl
set_option maxHeartbeats 8000000 in
set_option maxRecDepth 100000 in
theorem rCall_any {w0 : World} {L : List Value} {p : QProg} (hL : ProgAt w0 L p) {k : Nat} {n : QNode} (hk : p.nodes[k]? = some n) {Le : List Value} {op m : Int} {nm : Tx} {cs : List Tx} {ks : List Ex} (hx : ExAt w0 Le (.mk op nm m cs ks)) (outs : Int) (is : List QItem) (vs : List Tx) : ∀ w, Below w0.heap.size w0 w →
    Calls Tryz.prog 105 #[.agg L.toArray, .int .i64 k, .agg Le.toArray, .int .i64 outs] w (BoolPost (callQ ⟨envS p.enums (p.nodes.take k) is, n.funs, vs⟩ nm cs ks.length outs) w) := by
  obtain ⟨cv, kv, rfl, _, _, _, hcs, hks⟩ := hx.open_
  have HCS := Lib.hid hcs
  obtain ⟨cA, cc, rfl, hcc', hcm', hce'⟩ := hcs
  have hcl : cs.length ≤ 9223372036854775807 := by have h : cs.length ≤ cc := hcc'; unfold maxLen at hcm'; omega
  have HCE := Lib.hid hce'
  obtain ⟨kA, kc, rfl, hkc, hkm, _⟩ := hks
  have hksl : ks.length ≤ 9223372036854775807 := by have h : ks.length ≤ kc := hkc; unfold maxLen at hkm; omega
  clear hx hcc' hcm' hce' hkc hkm
  intro w hb
  have HB := Lib.hid hb
  have hsz := hb.size
  have hkl : k < p.nodes.length := (List.getElem?_eq_some_iff.1 hk).1
  have HPROG := Lib.hid hL
  obtain ⟨ev, nv, rfl, he, hn⟩ := hL
  have HEV := Lib.hid he
  have HNV := Lib.hid hn
  obtain ⟨E, en, ek, rfl⟩ := SliceAt.shape he
  obtain ⟨C, ck, rfl, hcc, hmc, hce⟩ := hn
  have hccap : p.nodes.length ≤ ck := hcc
  have hnl : p.nodes.length ≤ 9223372036854775807 := by unfold maxLen at hmc; omega
  have HNE := Lib.hid hce
  obtain ⟨Ln, hEn, hNn⟩ := hce k n hk
  have HEN := Lib.hid hEn
  have HNA := Lib.hid hNn
  obtain ⟨fv, iv, ov, xv, rfl, hnn, hfu, hin, hou, hit⟩ := hNn
  have HFU := Lib.hid hfu
  have HIN := Lib.hid hin
  have HOU := Lib.hid hou
  have HIT := Lib.hid hit
  obtain ⟨fA, fk, rfl, hfc, hfm, hfe⟩ := hfu
  obtain ⟨iA, ik, rfl, hic, him, hie⟩ := hin
  obtain ⟨oA, ok, rfl, hoc, hom, hoe⟩ := hou
  obtain ⟨xA, xk, rfl, hxc, hxm, hxe⟩ := hit
  have hfl : n.funs.length ≤ 9223372036854775807 := by have h : n.funs.length ≤ fk := hfc; unfold maxLen at hfm; omega
  have hol : n.outs.length ≤ 9223372036854775807 := by have h : n.outs.length ≤ ok := hoc; unfold maxLen at hom; omega
  have hxcap : n.items.length ≤ xk := hxc
  have hxl : n.items.length ≤ 9223372036854775807 := by unfold maxLen at hxm; omega
  have HFE := Lib.hid hfe
  have HOE := Lib.hid hoe
  have HXE := Lib.hid hxe
  obtain ⟨a, ea, ha, haa, d0, d1, d2, d3, d4⟩ := elem5 (hEn.under HB.out)
  subst ea
  have HQP := Lib.hid (show ProgAt w0 [.slice none 0 0, .slice (some a) k ck] ⟨[], p.nodes.take k⟩ from ⟨_, _, rfl, ⟨none, 0, rfl, Nat.le_refl _, by unfold maxLen; omega, fun i x h => by simp at h⟩, SliceAt.take HNV.out (Nat.le_of_lt hkl)⟩)
  have HTAKE := Lib.hid (fun (j : Nat) (g : QNode) (h : (p.nodes.take k)[j]? = some g) => show j < k ∧ p.nodes[j]? = some g from by
    rw [List.getElem?_take] at h
    split at h
    · exact ⟨by assumption, h⟩
    · cases h)
  have HNO := Lib.hid (rnode_any HQP.out nm)
  have HW3 := Lib.hid (show Below w.heap.size w (((w.alloc (.cells #[.slice E en ek, .slice (some a) p.nodes.length ck] 25)).alloc (.cells #[.int .i64 op, .string (str nm), .int .i64 m, .slice cA cs.length cc, .slice kA ks.length kc] 50)).alloc (.cells #[.string (str n.name), .slice fA n.funs.length fk, .slice iA n.ins.length ik, .slice oA n.outs.length ok, .slice xA n.items.length xk] 41)) from ((((Below.refl w.heap.size w).alloc (by simp) _).alloc (by simp <;> omega) _).alloc (by simp <;> omega) _))
  have HSF := Lib.hid (show (⟨envS p.enums (p.nodes.take k) is, n.funs, vs⟩ : SNode).funs = n.funs from rfl)
  have HSNN := Lib.hid (show (⟨envS p.enums (p.nodes.take k) is, n.funs, vs⟩ : SNode).prog.nodes = (p.nodes.take k).map fun n => (n.name, n) from rfl)
  generalize (⟨envS p.enums (p.nodes.take k) is, n.funs, vs⟩ : SNode) = sn at *
  clear hb he hcc hmc hce hEn hnn hfc hfm hfe hic him hie hoc hom hoe hxc hxm hxe
  obtain ⟨f, hf⟩ : ∃ t, n.funs.contains nm = t := ⟨_, rfl⟩
  have HF := Lib.hid hf
  cases f
  · have HFN := Lib.hid (show sn.funs.contains nm = false by rw [HSF.out]; exact hf)
    obtain ⟨⟨i1, i2⟩, hr⟩ : ∃ r, nodeF 0 nm (p.nodes.take k) = r := ⟨_, rfl⟩
    rw [show nodeF 0 nm (⟨[], p.nodes.take k⟩ : QProg).nodes = (i1, i2) from hr] at HNO
    have HGET := Lib.hid (node_get hr)
    clear hf hr
    cases i2
    · have HN := Lib.hid (show callQ sn nm cs ks.length outs = false from call_none HFN.out (by rw [HSNN.out]; exact HGET.out.2 rfl))
      go_enter Tryz.func105, Tryz.ntmps105
      go_wp2_with (first
        | (go_at_call 21
           (with_reducible refine (has_post (HFU.out.under (HB.out.trans (HW3.out.mono hsz))) nm).mono ?_)
           rintro e' w7 ⟨he, hb7⟩
           rw [HF.out] at he
           subst he
           obtain ⟨V, rfl⟩ : ∃ W, W = w7 := ⟨_, rfl⟩
           have HV := Lib.hid (HW3.out.trans (hb7.mono HW3.out.size))
           have BP := Lib.hid (show V.heap[w.heap.size]? = some (.cells #[.slice E en ek, .slice (some a) p.nodes.length ck] 25 (0, 0)) from box_next hb7 (alloc_below (alloc_below (heap_alloc_new w _))))
           have BX := Lib.hid (show V.heap[w.heap.size + 1]? = some (.cells #[.int .i64 op, .string (str nm), .int .i64 m, .slice cA cs.length cc, .slice kA ks.length kc] 50 (0, 0)) from box_next hb7 (alloc_below (alloc_at (by simp))))
           have BN := Lib.hid (show V.heap[w.heap.size + 1 + 1]? = some (.cells #[.string (str n.name), .slice fA n.funs.length fk, .slice iA n.ins.length ik, .slice oA n.outs.length ok, .slice xA n.items.length xk] 41 (0, 0)) from box_next hb7 (alloc_at (by simp)))
           obtain ⟨p0, p1⟩ := row2 BP.out
           obtain ⟨x0, x1, x2, x3, x4⟩ := row5 BX.out
           have hPl := lt_of_heap BP.out
           have hXl := lt_of_heap BX.out
           have hNl := lt_of_heap BN.out
           have HBV := Lib.hid (HB.out.trans (HV.out.mono hsz))
           have hszV := HBV.out.size
           have HQ := Lib.hid ((Below.refl V.heap.size V).alloc (Nat.le_refl _) (.cells #[.slice none 0 0, .slice (some a) k ck] 25))
           clear hb7)
        | (go_at_call 15
           (with_reducible refine (HNO.out _ (HBV.out.trans (HQ.out.mono hszV))).mono ?_)
           rintro e' w7 ⟨rfl, hb7⟩
           obtain ⟨U, rfl⟩ : ∃ W, W = w7 := ⟨_, rfl⟩
           have GU := Lib.hid (HQ.out.trans (hb7.mono HQ.out.size))
           have BQ := Lib.hid (show U.heap[V.heap.size]? = some (.cells #[.slice none 0 0, .slice (some a) k ck] 25 (0, 0)) from box_next hb7 (heap_alloc_new V _))
           have HBU := Lib.hid (HBV.out.trans (GU.out.mono hszV))
           have HVU := Lib.hid (HV.out.trans (GU.out.mono HV.out.size))
           obtain ⟨p0, p1⟩ := row2 (box_next GU.out BP.out)
           obtain ⟨x0, x1, x2, x3, x4⟩ := row5 (box_next GU.out BX.out)
           have hPl2 := lt_of_heap (box_next GU.out BP.out)
           have hXl2 := lt_of_heap (box_next GU.out BX.out)
           clear hb7))
      go_ret
      exact ⟨ret_bool HN.out.symm, HVU.out⟩
    · obtain ⟨jg, g, rfl, hjg, hga⟩ := HGET.out.1 rfl
      obtain ⟨hjk, hgp⟩ := HTAKE.out jg g hjg
      have hjl : jg < p.nodes.length := by omega
      have HCQ := Lib.hid (call_some (cs := cs) (k := ks.length) (r := outs) HFN.out (show getA sn.prog.nodes nm = some g by rw [HSNN.out]; exact hga))
      obtain ⟨Lg, hEg, gfv, giv, gov, gxv, rfl, _, hgf, hgi, hgo, hgx⟩ := HNE.out jg g hgp
      have HEG := Lib.hid hEg
      obtain ⟨gfA, gfk, rfl, _⟩ := hgf
      obtain ⟨giA, gik, rfl, _⟩ := hgi
      obtain ⟨goA, gok, rfl, _⟩ := hgo
      obtain ⟨gxA, gxk, rfl, _⟩ := hgx
      clear hjg hga hgp hEg
      by_cases c1 : g.ins.length = ks.length
      · have e1 : ((g.ins.length : Int) != (ks.length : Int)) = false := by rw [c1]; simp
        have E1 := Lib.hid (show (g.ins.length == ks.length) = true by rw [c1]; simp)
        by_cases c2 : g.funs.length = cs.length
        · have e2 : ((g.funs.length : Int) != (cs.length : Int)) = false := by rw [c2]; simp
          have E2 := Lib.hid (show (g.funs.length == cs.length) = true by rw [c2]; simp)
          by_cases c3 : (g.outs.length : Int) = outs
          · have e3 : ((g.outs.length : Int) != outs) = false := by rw [c3]; simp
            have E3 := Lib.hid (show ((g.outs.length : Int) == outs) = true by rw [c3]; simp)
            have HCQ2 := Lib.hid (show callQ sn nm cs ks.length outs = cs.all (passQ sn) by rw [HCQ.out, E1.out, E2.out, E3.out]; rfl)
            clear c1 c2 c3
            go_enter Tryz.func105, Tryz.ntmps105
            go_wp2_with (first
              | (go_at_call 21
                 (with_reducible refine (has_post (HFU.out.under (HB.out.trans (HW3.out.mono hsz))) nm).mono ?_)
                 rintro e' w7 ⟨he, hb7⟩
                 rw [HF.out] at he
                 subst he
                 obtain ⟨V, rfl⟩ : ∃ W, W = w7 := ⟨_, rfl⟩
                 have HV := Lib.hid (HW3.out.trans (hb7.mono HW3.out.size))
                 have BP := Lib.hid (show V.heap[w.heap.size]? = some (.cells #[.slice E en ek, .slice (some a) p.nodes.length ck] 25 (0, 0)) from box_next hb7 (alloc_below (alloc_below (heap_alloc_new w _))))
                 have BX := Lib.hid (show V.heap[w.heap.size + 1]? = some (.cells #[.int .i64 op, .string (str nm), .int .i64 m, .slice cA cs.length cc, .slice kA ks.length kc] 50 (0, 0)) from box_next hb7 (alloc_below (alloc_at (by simp))))
                 have BN := Lib.hid (show V.heap[w.heap.size + 1 + 1]? = some (.cells #[.string (str n.name), .slice fA n.funs.length fk, .slice iA n.ins.length ik, .slice oA n.outs.length ok, .slice xA n.items.length xk] 41 (0, 0)) from box_next hb7 (alloc_at (by simp)))
                 obtain ⟨p0, p1⟩ := row2 BP.out
                 obtain ⟨x0, x1, x2, x3, x4⟩ := row5 BX.out
                 have hPl := lt_of_heap BP.out
                 have hXl := lt_of_heap BX.out
                 have hNl := lt_of_heap BN.out
                 have HBV := Lib.hid (HB.out.trans (HV.out.mono hsz))
                 have hszV := HBV.out.size
                 have HQ := Lib.hid ((Below.refl V.heap.size V).alloc (Nat.le_refl _) (.cells #[.slice none 0 0, .slice (some a) k ck] 25))
                 clear hb7)
              | (go_at_call 15
                 (with_reducible refine (HNO.out _ (HBV.out.trans (HQ.out.mono hszV))).mono ?_)
                 rintro e' w7 ⟨rfl, hb7⟩
                 obtain ⟨U, rfl⟩ : ∃ W, W = w7 := ⟨_, rfl⟩
                 have GU := Lib.hid (HQ.out.trans (hb7.mono HQ.out.size))
                 have BQ := Lib.hid (show U.heap[V.heap.size]? = some (.cells #[.slice none 0 0, .slice (some a) k ck] 25 (0, 0)) from box_next hb7 (heap_alloc_new V _))
                 have HBU := Lib.hid (HBV.out.trans (GU.out.mono hszV))
                 have HVU := Lib.hid (HV.out.trans (GU.out.mono HV.out.size))
                 obtain ⟨p0, p1⟩ := row2 (box_next GU.out BP.out)
                 obtain ⟨x0, x1, x2, x3, x4⟩ := row5 (box_next GU.out BX.out)
                 have hPl2 := lt_of_heap (box_next GU.out BP.out)
                 have hXl2 := lt_of_heap (box_next GU.out BX.out)
                 obtain ⟨a2, ea2, _, hab2, h0, h1, h2, h3, h4⟩ := elem5 (HEG.out.under HBU.out)
                 cases ea2
                 clear hb7))
            have HVF := Lib.hid (HVU.out.alloc HVU.out.size (.cells #[.string (str g.name), .slice gfA g.funs.length gfk, .slice giA g.ins.length gik, .slice goA g.outs.length gok, .slice gxA g.items.length gxk] 41))
            have AG := Lib.hid ((Below.refl U.heap.size U).alloc (Nat.le_refl _) (.cells #[.string (str g.name), .slice gfA g.funs.length gfk, .slice giA g.ins.length gik, .slice goA g.outs.length gok, .slice gxA g.items.length gxk] 41))
            have BPF := Lib.hid (box_next AG.out (box_next GU.out BP.out))
            have BXF := Lib.hid (box_next AG.out (box_next GU.out BX.out))
            have BNF := Lib.hid (box_next AG.out (box_next GU.out BN.out))
            have BQF := Lib.hid (box_next AG.out BQ.out)
            clear p0 p1 x0 x1 x2 x3 x4 h0 h1 h2 h3 h4 AG
            generalize U.alloc (.cells #[.string (str g.name), .slice gfA g.funs.length gfk, .slice giA g.ins.length gik, .slice goA g.outs.length gok, .slice gxA g.items.length gxk] 41) = F at *
            have HBF := Lib.hid (HB.out.trans (HVF.out.mono hsz))
            have hszF := HBF.out.size
            go_loopg [14] cs.length (fun g v wr => ∃ j : Nat, j + g = cs.length ∧ v = .int .i64 j ∧ cs.all (passQ sn) = (cs.drop j).all (passQ sn) ∧ Below F.heap.size F wr)
            case atStart => exact ⟨0, by omega, rfl, rfl, Below.refl _ _⟩
            case round =>
              obtain ⟨wz, rfl⟩ : ∃ W, W = wr := ⟨_, rfl⟩
              obtain ⟨j, hjg, rfl, hr2, hbz⟩ := hrel
              have HJ := Lib.hid hjg
              have HR2 := Lib.hid hr2
              have HZ := Lib.hid hbz
              have HVZ := Lib.hid (HVF.out.trans (hbz.mono HVF.out.size))
              have HZB := Lib.hid (HBF.out.trans (hbz.mono hszF))
              obtain ⟨_, _, _, x3, _⟩ := row5 (box_next hbz BXF.out)
              have hjl : j ≤ cs.length := by omega
              clear hjg hr2 hbz
              by_cases hltj : j < cs.length
              · obtain ⟨y, hy⟩ : ∃ y, cs[j]? = some y := ⟨_, List.getElem?_eq_getElem hltj⟩
                have HDY := Lib.hid (drop_consS hy)
                obtain ⟨Ly, hEy, rfl, _⟩ := HCE.out j y hy
                have HEY := Lib.hid hEy
                obtain ⟨d, ed, _, _, _⟩ := elem1 (hEy.under HZB.out)
                subst ed
                have HX := Lib.hid (show cs.all (passQ sn) = (passQ sn y && (cs.drop (j + 1)).all (passQ sn)) by rw [HR2.out, HDY.out, List.all_cons])
                have HND := Lib.hid (rnode_any HQP.out y)
                obtain ⟨⟨y1, y2⟩, hyr⟩ : ∃ r, nodeF 0 y (p.nodes.take k) = r := ⟨_, rfl⟩
                rw [show nodeF 0 y (⟨[], p.nodes.take k⟩ : QProg).nodes = (y1, y2) from hyr] at HND
                have HG2 := Lib.hid (node_get hyr)
                obtain ⟨u, hu⟩ : ∃ u, n.funs.contains y = u := ⟨_, rfl⟩
                have HU := Lib.hid hu
                have HUS := Lib.hid (show sn.funs.contains y = u by rw [HSF.out]; exact hu)
                have KEEP0 := Lib.hid (show ∀ W, Below wz.heap.size wz W → (fun W => W.cell? ⟨V.heap.size, 0, none⟩ = some (.slice none 0 0) ∧ W.cell? ⟨V.heap.size, 1, none⟩ = some (.slice (some a) k ck) ∧ W.cell? ⟨w.heap.size + 1, 3, none⟩ = some (.slice (some d) cs.length cc) ∧ W.cell? (d.add j) = some (.string (str y))) W from
                  fun W hW => by
                    obtain ⟨a', ea', _, _, c0⟩ := elem1 (HEY.out.under (HZB.out.trans (hW.mono HZB.out.size)))
                    cases ea'
                    rw [Nat.mul_one] at c0
                    have hZW := HZ.out.trans (hW.mono HZ.out.size)
                    obtain ⟨_, _, _, x3, _⟩ := row5 (box_next hZW BXF.out)
                    obtain ⟨q0, q1⟩ := row2 (box_next hZW BQF.out)
                    exact ⟨q0, q1, x3, c0⟩)
                have KEEP := KEEP0
                clear hy hEy hyr hu
                go_wp2_with fail
                clear x3
                skip
                refine wp_region_held_drew (S := (fun W => W.cell? ⟨V.heap.size, 0, none⟩ = some (.slice none 0 0) ∧ W.cell? ⟨V.heap.size, 1, none⟩ = some (.slice (some a) k ck) ∧ W.cell? ⟨w.heap.size + 1, 3, none⟩ = some (.slice (some d) cs.length cc) ∧ W.cell? (d.add j) = some (.string (str y)))) (by kernel_rfl) ?_ (fun hHeld => ?_)
                · exact KEEP.out _ (Below.refl _ _).drew
                refine take_now 0 rfl ?_
                try simp only [Act.put, setA, setZ, setS]
                refine take_now 1 rfl ?_
                try simp only [Act.put, setA, setZ, setS]
                refine take_now 2 rfl ?_
                try simp only [Act.put, setA, setZ, setS]
                refine take_now 3 rfl ?_
                try simp only [Act.put, setA, setZ, setS]
                refine take_now 4 rfl ?_
                try simp only [Act.put, setA, setZ, setS]
                refine take_now 5 rfl ?_
                try simp only [Act.put, setA, setZ, setS]
                refine only_at 6 (by kernel_rfl) rfl (fun K hK => ?_)
                go_simp
                (go_at_call 15
                 (with_reducible refine (HND.out _ HZB.out.drew).mono ?_)
                 rintro e' w7 ⟨rfl, hb7⟩
                 obtain ⟨Y, rfl⟩ : ∃ W, W = w7 := ⟨_, rfl⟩
                 have GY := Lib.hid ((Below.refl wz.heap.size wz).drew.trans hb7)
                 have HZY := Lib.hid (HZ.out.trans (GY.out.mono HZ.out.size))
                 have HYB := Lib.hid (HBF.out.trans (HZY.out.mono hszF))
                 clear hb7)
                refine hK.out _ _ (KEEP.out _ ?_) (fun hHeld => ?_)
                · (repeat (first | exact Below.refl _ _ | exact GY.out | refine Below.drew ?_ | refine Below.alloc ?_ (by simp) _ | refine Below.setCell ?_ (by simp) _))
                clear hK K
                refine take_now 7 rfl ?_
                try simp only [Act.put, setA, setZ, setS]
                refine take_now 8 rfl ?_
                try simp only [Act.put, setA, setZ, setS]
                refine take_now 9 rfl ?_
                try simp only [Act.put, setA, setZ, setS]
                refine take_now 10 rfl ?_
                try simp only [Act.put, setA, setZ, setS]
                refine take_now 11 rfl ?_
                try simp only [Act.put, setA, setZ, setS]
                refine wpAnyH_done (by kernel_rfl) ?_ _
                clear KEEP KEEP0
                cases u
                · cases y2
                  · have HPQ := Lib.hid (pass_none HUS.out (by rw [HSNN.out]; exact HG2.out.2 rfl))
                    have KEEP := Lib.hid (show ∀ W, Below Y.heap.size Y W → (fun W => W.cell? ⟨w.heap.size + 1 + 1, 1, none⟩ = some (.slice fA n.funs.length fk) ∧ W.cell? ⟨w.heap.size + 1, 3, none⟩ = some (.slice (some d) cs.length cc) ∧ W.cell? (d.add j) = some (.string (str y)) ∧ W.cell? ⟨w.heap.size, 1, none⟩ = some (.slice (some a) p.nodes.length ck)) W from
                      fun W hW => by
                        have hBW := HYB.out.trans (hW.mono HYB.out.size)
                        obtain ⟨a', ea', _, _, c0⟩ := elem1 (HEY.out.under hBW)
                        cases ea'
                        rw [Nat.mul_one] at c0
                        have hZW := HZY.out.trans (hW.mono HZY.out.size)
                        obtain ⟨_, n1, _, _, _⟩ := row5 (box_next hZW BNF.out)
                        obtain ⟨_, _, _, x3, _⟩ := row5 (box_next hZW BXF.out)
                        obtain ⟨_, p1⟩ := row2 (box_next hZW BPF.out)
                        exact ⟨n1, x3, c0, p1⟩)
                    go_wp2_with fail
                    refine wp_region_held_drew (S := (fun W => W.cell? ⟨w.heap.size + 1 + 1, 1, none⟩ = some (.slice fA n.funs.length fk) ∧ W.cell? ⟨w.heap.size + 1, 3, none⟩ = some (.slice (some d) cs.length cc) ∧ W.cell? (d.add j) = some (.string (str y)) ∧ W.cell? ⟨w.heap.size, 1, none⟩ = some (.slice (some a) p.nodes.length ck))) (by kernel_rfl) ?_ (fun hHeld => ?_)
                    · exact KEEP.out _ (Below.refl _ _).drew
                    refine take_now 0 rfl ?_
                    try simp only [Act.put, setA, setZ, setS]
                    refine take_now 1 rfl ?_
                    try simp only [Act.put, setA, setZ, setS]
                    refine take_now 2 rfl ?_
                    try simp only [Act.put, setA, setZ, setS]
                    refine take_now 3 rfl ?_
                    try simp only [Act.put, setA, setZ, setS]
                    refine take_now 4 rfl ?_
                    try simp only [Act.put, setA, setZ, setS]
                    refine take_now 5 rfl ?_
                    try simp only [Act.put, setA, setZ, setS]
                    refine take_now 6 rfl ?_
                    try simp only [Act.put, setA, setZ, setS]
                    refine only_at 7 (by kernel_rfl) rfl (fun K hK => ?_)
                    go_simp
                    (go_at_call 21
                     (with_reducible refine (has_post (HFU.out.under HYB.out.drew) y).mono ?_)
                     rintro e' w8 ⟨he, hb8⟩
                     rw [HU.out] at he
                     subst he
                     obtain ⟨Y2, rfl⟩ : ∃ W, W = w8 := ⟨_, rfl⟩
                     have GY2 := Lib.hid ((Below.refl Y.heap.size Y).drew.trans hb8)
                     have HZ2 := Lib.hid (HZY.out.trans (GY2.out.mono HZY.out.size))
                     clear hb8)
                    refine hK.out _ _ (KEEP.out _ ?_) (fun hHeld => ?_)
                    · (repeat (first | exact Below.refl _ _ | exact GY2.out | refine Below.drew ?_ | refine Below.alloc ?_ (by simp) _ | refine Below.setCell ?_ (by simp) _))
                    clear hK K
                    try simp only [Act.put, setA, setZ, setS]
                    refine take_now 8 rfl ?_
                    try simp only [Act.put, setA, setZ, setS]
                    refine take_now 9 rfl ?_
                    try simp only [Act.put, setA, setZ, setS]
                    refine take_now 10 rfl ?_
                    try simp only [Act.put, setA, setZ, setS]
                    refine take_now 11 rfl ?_
                    try simp only [Act.put, setA, setZ, setS]
                    refine take_now 12 rfl ?_
                    try simp only [Act.put, setA, setZ, setS]
                    refine skip_now 13 rfl ?_
                    try simp only [Act.put, setA, setZ, setS]
                    refine skip_now 14 rfl ?_
                    try simp only [Act.put, setA, setZ, setS]
                    refine skip_now 15 rfl ?_
                    try simp only [Act.put, setA, setZ, setS]
                    refine skip_now 16 rfl ?_
                    try simp only [Act.put, setA, setZ, setS]
                    refine skip_now 17 rfl ?_
                    try simp only [Act.put, setA, setZ, setS]
                    refine skip_now 18 rfl ?_
                    try simp only [Act.put, setA, setZ, setS]
                    refine skip_now 19 rfl ?_
                    try simp only [Act.put, setA, setZ, setS]
                    refine skip_now 20 rfl ?_
                    try simp only [Act.put, setA, setZ, setS]
                    refine take_now 21 rfl ?_
                    try simp only [Act.put, setA, setZ, setS]
                    refine take_now 22 rfl ?_
                    try simp only [Act.put, setA, setZ, setS]
                    refine wpAnyH_done (by kernel_rfl) ?_ _
                    go_wp2_with fail
                    go_ret
                    exact ⟨ret_bool (by rw [HCQ2.out, HX.out, HPQ.out]; rfl), HVF.out.trans (HZ2.out.mono HVF.out.size)⟩
                  · obtain ⟨jj, g2, rfl, hj2, hg2⟩ := HG2.out.1 rfl
                    obtain ⟨hjk2, hgp2⟩ := HTAKE.out jj g2 hj2
                    have hjl2 : jj < p.nodes.length := by omega
                    have HPQ0 := Lib.hid (pass_some HUS.out (show getA sn.prog.nodes y = some g2 by rw [HSNN.out]; exact hg2))
                    obtain ⟨Lg2, hEg2, hfv, hiv, hov, hxv, rfl, _, hhf, _⟩ := HNE.out jj g2 hgp2
                    have HEG2 := Lib.hid hEg2
                    obtain ⟨hA, hk2, rfl, _⟩ := hhf
                    obtain ⟨a2, ea2, _, hab3, _, _, _, _, _⟩ := elem5 (hEg2.under HYB.out)
                    cases ea2
                    clear hj2 hg2 hgp2 hEg2
                    by_cases hz : g2.funs.length = 0
                    · have HPQ := Lib.hid (show passQ sn y = true by rw [HPQ0.out, List.isEmpty_iff]; exact List.eq_nil_of_length_eq_zero hz)
                      have hdec : decide (0 < g2.funs.length) = false := decide_eq_false (by omega)
                      have KEEP := Lib.hid (show ∀ W, Below Y.heap.size Y W → (fun W => W.cell? ⟨w.heap.size + 1 + 1, 1, none⟩ = some (.slice fA n.funs.length fk) ∧ W.cell? ⟨w.heap.size + 1, 3, none⟩ = some (.slice (some d) cs.length cc) ∧ W.cell? (d.add j) = some (.string (str y)) ∧ W.cell? ⟨w.heap.size, 1, none⟩ = some (.slice (some a) p.nodes.length ck) ∧ W.cell? { block := (a.add (jj * 5)).block, off := (a.add (jj * 5)).off + 1 } = some (.slice hA g2.funs.length hk2)) W from
                        fun W hW => by
                          have hBW := HYB.out.trans (hW.mono HYB.out.size)
                          obtain ⟨a', ea', _, _, c0⟩ := elem1 (HEY.out.under hBW)
                          cases ea'
                          rw [Nat.mul_one] at c0
                          have hZW := HZY.out.trans (hW.mono HZY.out.size)
                          obtain ⟨_, n1, _, _, _⟩ := row5 (box_next hZW BNF.out)
                          obtain ⟨_, _, _, x3, _⟩ := row5 (box_next hZW BXF.out)
                          obtain ⟨_, p1⟩ := row2 (box_next hZW BPF.out)
                          obtain ⟨a2, ea2, _, _, _, h1, _, _, _⟩ := elem5 (HEG2.out.under hBW)
                          cases ea2
                          exact ⟨n1, x3, c0, p1, h1⟩)
                      go_wp2_with fail
                      refine wp_region_held_drew (S := (fun W => W.cell? ⟨w.heap.size + 1 + 1, 1, none⟩ = some (.slice fA n.funs.length fk) ∧ W.cell? ⟨w.heap.size + 1, 3, none⟩ = some (.slice (some d) cs.length cc) ∧ W.cell? (d.add j) = some (.string (str y)) ∧ W.cell? ⟨w.heap.size, 1, none⟩ = some (.slice (some a) p.nodes.length ck) ∧ W.cell? { block := (a.add (jj * 5)).block, off := (a.add (jj * 5)).off + 1 } = some (.slice hA g2.funs.length hk2))) (by kernel_rfl) ?_ (fun hHeld => ?_)
                      · exact KEEP.out _ (Below.refl _ _).drew
                      refine take_now 0 rfl ?_
                      try simp only [Act.put, setA, setZ, setS]
                      refine take_now 1 rfl ?_
                      try simp only [Act.put, setA, setZ, setS]
                      refine take_now 2 rfl ?_
                      try simp only [Act.put, setA, setZ, setS]
                      refine take_now 3 rfl ?_
                      try simp only [Act.put, setA, setZ, setS]
                      refine take_now 4 rfl ?_
                      try simp only [Act.put, setA, setZ, setS]
                      refine take_now 5 rfl ?_
                      try simp only [Act.put, setA, setZ, setS]
                      refine take_now 6 rfl ?_
                      try simp only [Act.put, setA, setZ, setS]
                      refine only_at 7 (by kernel_rfl) rfl (fun K hK => ?_)
                      go_simp
                      (go_at_call 21
                       (with_reducible refine (has_post (HFU.out.under HYB.out.drew) y).mono ?_)
                       rintro e' w8 ⟨he, hb8⟩
                       rw [HU.out] at he
                       subst he
                       obtain ⟨Y2, rfl⟩ : ∃ W, W = w8 := ⟨_, rfl⟩
                       have GY2 := Lib.hid ((Below.refl Y.heap.size Y).drew.trans hb8)
                       have HZ2 := Lib.hid (HZY.out.trans (GY2.out.mono HZY.out.size))
                       clear hb8)
                      refine hK.out _ _ (KEEP.out _ ?_) (fun hHeld => ?_)
                      · (repeat (first | exact Below.refl _ _ | exact GY2.out | refine Below.drew ?_ | refine Below.alloc ?_ (by simp) _ | refine Below.setCell ?_ (by simp) _))
                      clear hK K
                      try simp only [Act.put, setA, setZ, setS]
                      refine take_now 8 rfl ?_
                      try simp only [Act.put, setA, setZ, setS]
                      refine take_now 9 rfl ?_
                      try simp only [Act.put, setA, setZ, setS]
                      refine take_now 10 rfl ?_
                      try simp only [Act.put, setA, setZ, setS]
                      refine take_now 11 rfl ?_
                      try simp only [Act.put, setA, setZ, setS]
                      refine take_now 12 rfl ?_
                      try simp only [Act.put, setA, setZ, setS]
                      refine take_now 13 rfl ?_
                      try simp only [Act.put, setA, setZ, setS]
                      refine take_now 14 rfl ?_
                      try simp only [Act.put, setA, setZ, setS]
                      refine take_now 15 rfl ?_
                      try simp only [Act.put, setA, setZ, setS]
                      refine take_now 16 rfl ?_
                      try simp only [Act.put, setA, setZ, setS]
                      refine take_now 17 rfl ?_
                      try simp only [Act.put, setA, setZ, setS]
                      refine take_now 18 rfl ?_
                      try simp only [Act.put, setA, setZ, setS]
                      refine take_now 19 rfl ?_
                      try simp only [Act.put, setA, setZ, setS]
                      refine take_now 20 rfl ?_
                      try simp only [Act.put, setA, setZ, setS]
                      refine take_now 21 rfl ?_
                      try simp only [Act.put, setA, setZ, setS]
                      refine take_now 22 rfl ?_
                      try simp only [Act.put, setA, setZ, setS]
                      refine wpAnyH_done (by kernel_rfl) ?_ _
                      go_wp2_with fail
                      go_roundg (cs.length - (j + 1))
                      case measure => have := HJ.out; omega
                      case rel => exact ⟨j + 1, by omega, by go_num, by rw [HX.out, HPQ.out]; rfl, HZ2.out⟩
                    · have HPQ := Lib.hid (show passQ sn y = false by rw [HPQ0.out, ← Bool.not_eq_true, List.isEmpty_iff]; exact fun e => hz (by rw [e]; rfl))
                      have hdec : decide (0 < g2.funs.length) = true := decide_eq_true (by omega)
                      have KEEP := Lib.hid (show ∀ W, Below Y.heap.size Y W → (fun W => W.cell? ⟨w.heap.size + 1 + 1, 1, none⟩ = some (.slice fA n.funs.length fk) ∧ W.cell? ⟨w.heap.size + 1, 3, none⟩ = some (.slice (some d) cs.length cc) ∧ W.cell? (d.add j) = some (.string (str y)) ∧ W.cell? ⟨w.heap.size, 1, none⟩ = some (.slice (some a) p.nodes.length ck) ∧ W.cell? { block := (a.add (jj * 5)).block, off := (a.add (jj * 5)).off + 1 } = some (.slice hA g2.funs.length hk2)) W from
                        fun W hW => by
                          have hBW := HYB.out.trans (hW.mono HYB.out.size)
                          obtain ⟨a', ea', _, _, c0⟩ := elem1 (HEY.out.under hBW)
                          cases ea'
                          rw [Nat.mul_one] at c0
                          have hZW := HZY.out.trans (hW.mono HZY.out.size)
                          obtain ⟨_, n1, _, _, _⟩ := row5 (box_next hZW BNF.out)
                          obtain ⟨_, _, _, x3, _⟩ := row5 (box_next hZW BXF.out)
                          obtain ⟨_, p1⟩ := row2 (box_next hZW BPF.out)
                          obtain ⟨a2, ea2, _, _, _, h1, _, _, _⟩ := elem5 (HEG2.out.under hBW)
                          cases ea2
                          exact ⟨n1, x3, c0, p1, h1⟩)
                      go_wp2_with fail
                      refine wp_region_held_drew (S := (fun W => W.cell? ⟨w.heap.size + 1 + 1, 1, none⟩ = some (.slice fA n.funs.length fk) ∧ W.cell? ⟨w.heap.size + 1, 3, none⟩ = some (.slice (some d) cs.length cc) ∧ W.cell? (d.add j) = some (.string (str y)) ∧ W.cell? ⟨w.heap.size, 1, none⟩ = some (.slice (some a) p.nodes.length ck) ∧ W.cell? { block := (a.add (jj * 5)).block, off := (a.add (jj * 5)).off + 1 } = some (.slice hA g2.funs.length hk2))) (by kernel_rfl) ?_ (fun hHeld => ?_)
                      · exact KEEP.out _ (Below.refl _ _).drew
                      refine take_now 0 rfl ?_
                      try simp only [Act.put, setA, setZ, setS]
                      refine take_now 1 rfl ?_
                      try simp only [Act.put, setA, setZ, setS]
                      refine take_now 2 rfl ?_
                      try simp only [Act.put, setA, setZ, setS]
                      refine take_now 3 rfl ?_
                      try simp only [Act.put, setA, setZ, setS]
                      refine take_now 4 rfl ?_
                      try simp only [Act.put, setA, setZ, setS]
                      refine take_now 5 rfl ?_
                      try simp only [Act.put, setA, setZ, setS]
                      refine take_now 6 rfl ?_
                      try simp only [Act.put, setA, setZ, setS]
                      refine only_at 7 (by kernel_rfl) rfl (fun K hK => ?_)
                      go_simp
                      (go_at_call 21
                       (with_reducible refine (has_post (HFU.out.under HYB.out.drew) y).mono ?_)
                       rintro e' w8 ⟨he, hb8⟩
                       rw [HU.out] at he
                       subst he
                       obtain ⟨Y2, rfl⟩ : ∃ W, W = w8 := ⟨_, rfl⟩
                       have GY2 := Lib.hid ((Below.refl Y.heap.size Y).drew.trans hb8)
                       have HZ2 := Lib.hid (HZY.out.trans (GY2.out.mono HZY.out.size))
                       clear hb8)
                      refine hK.out _ _ (KEEP.out _ ?_) (fun hHeld => ?_)
                      · (repeat (first | exact Below.refl _ _ | exact GY2.out | refine Below.drew ?_ | refine Below.alloc ?_ (by simp) _ | refine Below.setCell ?_ (by simp) _))
                      clear hK K
                      try simp only [Act.put, setA, setZ, setS]
                      refine take_now 8 rfl ?_
                      try simp only [Act.put, setA, setZ, setS]
                      refine take_now 9 rfl ?_
                      try simp only [Act.put, setA, setZ, setS]
                      refine take_now 10 rfl ?_
                      try simp only [Act.put, setA, setZ, setS]
                      refine take_now 11 rfl ?_
                      try simp only [Act.put, setA, setZ, setS]
                      refine take_now 12 rfl ?_
                      try simp only [Act.put, setA, setZ, setS]
                      refine take_now 13 rfl ?_
                      try simp only [Act.put, setA, setZ, setS]
                      refine take_now 14 rfl ?_
                      try simp only [Act.put, setA, setZ, setS]
                      refine take_now 15 rfl ?_
                      try simp only [Act.put, setA, setZ, setS]
                      refine take_now 16 rfl ?_
                      try simp only [Act.put, setA, setZ, setS]
                      refine take_now 17 rfl ?_
                      try simp only [Act.put, setA, setZ, setS]
                      refine take_now 18 rfl ?_
                      try simp only [Act.put, setA, setZ, setS]
                      refine take_now 19 rfl ?_
                      try simp only [Act.put, setA, setZ, setS]
                      refine take_now 20 rfl ?_
                      try simp only [Act.put, setA, setZ, setS]
                      refine take_now 21 rfl ?_
                      try simp only [Act.put, setA, setZ, setS]
                      refine take_now 22 rfl ?_
                      try simp only [Act.put, setA, setZ, setS]
                      refine wpAnyH_done (by kernel_rfl) ?_ _
                      go_wp2_with fail
                      go_ret
                      exact ⟨ret_bool (by rw [HCQ2.out, HX.out, HPQ.out]; rfl), HVF.out.trans (HZ2.out.mono HVF.out.size)⟩
                · have HPQ := Lib.hid (pass_fun HUS.out)
                  have KEEP := Lib.hid (show ∀ W, Below Y.heap.size Y W → (fun W => W.cell? ⟨w.heap.size + 1 + 1, 1, none⟩ = some (.slice fA n.funs.length fk) ∧ W.cell? ⟨w.heap.size + 1, 3, none⟩ = some (.slice (some d) cs.length cc) ∧ W.cell? (d.add j) = some (.string (str y)) ∧ W.cell? ⟨w.heap.size, 1, none⟩ = some (.slice (some a) p.nodes.length ck)) W from
                    fun W hW => by
                      have hBW := HYB.out.trans (hW.mono HYB.out.size)
                      obtain ⟨a', ea', _, _, c0⟩ := elem1 (HEY.out.under hBW)
                      cases ea'
                      rw [Nat.mul_one] at c0
                      have hZW := HZY.out.trans (hW.mono HZY.out.size)
                      obtain ⟨_, n1, _, _, _⟩ := row5 (box_next hZW BNF.out)
                      obtain ⟨_, _, _, x3, _⟩ := row5 (box_next hZW BXF.out)
                      obtain ⟨_, p1⟩ := row2 (box_next hZW BPF.out)
                      exact ⟨n1, x3, c0, p1⟩)
                  go_wp2_with fail
                  refine wp_region_held_drew (S := (fun W => W.cell? ⟨w.heap.size + 1 + 1, 1, none⟩ = some (.slice fA n.funs.length fk) ∧ W.cell? ⟨w.heap.size + 1, 3, none⟩ = some (.slice (some d) cs.length cc) ∧ W.cell? (d.add j) = some (.string (str y)) ∧ W.cell? ⟨w.heap.size, 1, none⟩ = some (.slice (some a) p.nodes.length ck))) (by kernel_rfl) ?_ (fun hHeld => ?_)
                  · exact KEEP.out _ (Below.refl _ _).drew
                  refine take_now 0 rfl ?_
                  try simp only [Act.put, setA, setZ, setS]
                  refine take_now 1 rfl ?_
                  try simp only [Act.put, setA, setZ, setS]
                  refine take_now 2 rfl ?_
                  try simp only [Act.put, setA, setZ, setS]
                  refine take_now 3 rfl ?_
                  try simp only [Act.put, setA, setZ, setS]
                  refine take_now 4 rfl ?_
                  try simp only [Act.put, setA, setZ, setS]
                  refine take_now 5 rfl ?_
                  try simp only [Act.put, setA, setZ, setS]
                  refine take_now 6 rfl ?_
                  try simp only [Act.put, setA, setZ, setS]
                  refine only_at 7 (by kernel_rfl) rfl (fun K hK => ?_)
                  go_simp
                  (go_at_call 21
                   (with_reducible refine (has_post (HFU.out.under HYB.out.drew) y).mono ?_)
                   rintro e' w8 ⟨he, hb8⟩
                   rw [HU.out] at he
                   subst he
                   obtain ⟨Y2, rfl⟩ : ∃ W, W = w8 := ⟨_, rfl⟩
                   have GY2 := Lib.hid ((Below.refl Y.heap.size Y).drew.trans hb8)
                   have HZ2 := Lib.hid (HZY.out.trans (GY2.out.mono HZY.out.size))
                   clear hb8)
                  refine hK.out _ _ (KEEP.out _ ?_) (fun hHeld => ?_)
                  · (repeat (first | exact Below.refl _ _ | exact GY2.out | refine Below.drew ?_ | refine Below.alloc ?_ (by simp) _ | refine Below.setCell ?_ (by simp) _))
                  clear hK K
                  try simp only [Act.put, setA, setZ, setS]
                  refine take_now 8 rfl ?_
                  try simp only [Act.put, setA, setZ, setS]
                  refine take_now 9 rfl ?_
                  try simp only [Act.put, setA, setZ, setS]
                  refine skip_now 10 rfl ?_
                  try simp only [Act.put, setA, setZ, setS]
                  refine skip_now 11 rfl ?_
                  try simp only [Act.put, setA, setZ, setS]
                  refine skip_now 12 rfl ?_
                  try simp only [Act.put, setA, setZ, setS]
                  refine skip_now 13 rfl ?_
                  try simp only [Act.put, setA, setZ, setS]
                  refine skip_now 14 rfl ?_
                  try simp only [Act.put, setA, setZ, setS]
                  refine skip_now 15 rfl ?_
                  try simp only [Act.put, setA, setZ, setS]
                  refine skip_now 16 rfl ?_
                  try simp only [Act.put, setA, setZ, setS]
                  refine skip_now 17 rfl ?_
                  try simp only [Act.put, setA, setZ, setS]
                  refine skip_now 18 rfl ?_
                  try simp only [Act.put, setA, setZ, setS]
                  refine skip_now 19 rfl ?_
                  try simp only [Act.put, setA, setZ, setS]
                  refine skip_now 20 rfl ?_
                  try simp only [Act.put, setA, setZ, setS]
                  refine skip_now 21 rfl ?_
                  try simp only [Act.put, setA, setZ, setS]
                  refine take_now 22 rfl ?_
                  try simp only [Act.put, setA, setZ, setS]
                  refine wpAnyH_done (by kernel_rfl) ?_ _
                  go_wp2_with fail
                  go_roundg (cs.length - (j + 1))
                  case measure => have := HJ.out; omega
                  case rel => exact ⟨j + 1, by omega, by go_num, by rw [HX.out, HPQ.out]; rfl, HZ2.out⟩
              · have hje : j = cs.length := by omega
                have HN := Lib.hid (show callQ sn nm cs ks.length outs = true by rw [HCQ2.out, HR2.out, hje, List.drop_length]; rfl)
                clear hje
                go_wp2_with fail
                go_ret
                exact ⟨ret_bool HN.out.symm, HVZ.out⟩
          · have e3 : ((g.outs.length : Int) != outs) = true := by simpa using c3
            have E3 := Lib.hid (show ((g.outs.length : Int) == outs) = false by simpa using c3)
            clear c1 c2 c3
            have HN := Lib.hid (show callQ sn nm cs ks.length outs = false by rw [HCQ.out, E1.out, E2.out, E3.out]; simp)
            go_enter Tryz.func105, Tryz.ntmps105
            go_wp2_with (first
              | (go_at_call 21
                 (with_reducible refine (has_post (HFU.out.under (HB.out.trans (HW3.out.mono hsz))) nm).mono ?_)
                 rintro e' w7 ⟨he, hb7⟩
                 rw [HF.out] at he
                 subst he
                 obtain ⟨V, rfl⟩ : ∃ W, W = w7 := ⟨_, rfl⟩
                 have HV := Lib.hid (HW3.out.trans (hb7.mono HW3.out.size))
                 have BP := Lib.hid (show V.heap[w.heap.size]? = some (.cells #[.slice E en ek, .slice (some a) p.nodes.length ck] 25 (0, 0)) from box_next hb7 (alloc_below (alloc_below (heap_alloc_new w _))))
                 have BX := Lib.hid (show V.heap[w.heap.size + 1]? = some (.cells #[.int .i64 op, .string (str nm), .int .i64 m, .slice cA cs.length cc, .slice kA ks.length kc] 50 (0, 0)) from box_next hb7 (alloc_below (alloc_at (by simp))))
                 have BN := Lib.hid (show V.heap[w.heap.size + 1 + 1]? = some (.cells #[.string (str n.name), .slice fA n.funs.length fk, .slice iA n.ins.length ik, .slice oA n.outs.length ok, .slice xA n.items.length xk] 41 (0, 0)) from box_next hb7 (alloc_at (by simp)))
                 obtain ⟨p0, p1⟩ := row2 BP.out
                 obtain ⟨x0, x1, x2, x3, x4⟩ := row5 BX.out
                 have hPl := lt_of_heap BP.out
                 have hXl := lt_of_heap BX.out
                 have hNl := lt_of_heap BN.out
                 have HBV := Lib.hid (HB.out.trans (HV.out.mono hsz))
                 have hszV := HBV.out.size
                 have HQ := Lib.hid ((Below.refl V.heap.size V).alloc (Nat.le_refl _) (.cells #[.slice none 0 0, .slice (some a) k ck] 25))
                 clear hb7)
              | (go_at_call 15
                 (with_reducible refine (HNO.out _ (HBV.out.trans (HQ.out.mono hszV))).mono ?_)
                 rintro e' w7 ⟨rfl, hb7⟩
                 obtain ⟨U, rfl⟩ : ∃ W, W = w7 := ⟨_, rfl⟩
                 have GU := Lib.hid (HQ.out.trans (hb7.mono HQ.out.size))
                 have BQ := Lib.hid (show U.heap[V.heap.size]? = some (.cells #[.slice none 0 0, .slice (some a) k ck] 25 (0, 0)) from box_next hb7 (heap_alloc_new V _))
                 have HBU := Lib.hid (HBV.out.trans (GU.out.mono hszV))
                 have HVU := Lib.hid (HV.out.trans (GU.out.mono HV.out.size))
                 obtain ⟨p0, p1⟩ := row2 (box_next GU.out BP.out)
                 obtain ⟨x0, x1, x2, x3, x4⟩ := row5 (box_next GU.out BX.out)
                 have hPl2 := lt_of_heap (box_next GU.out BP.out)
                 have hXl2 := lt_of_heap (box_next GU.out BX.out)
                 obtain ⟨a2, ea2, _, hab2, h0, h1, h2, h3, h4⟩ := elem5 (HEG.out.under HBU.out)
                 cases ea2
                 clear hb7))
            go_ret
            exact ⟨ret_bool HN.out.symm, HVU.out.alloc HVU.out.size _⟩
        · have e2 : ((g.funs.length : Int) != (cs.length : Int)) = true := by rw [bne_iff_ne]; omega
          have E2 := Lib.hid (show (g.funs.length == cs.length) = false by simpa using c2)
          clear c1 c2
          have HN := Lib.hid (show callQ sn nm cs ks.length outs = false by rw [HCQ.out, E1.out, E2.out]; simp)
          go_enter Tryz.func105, Tryz.ntmps105
          go_wp2_with (first
            | (go_at_call 21
               (with_reducible refine (has_post (HFU.out.under (HB.out.trans (HW3.out.mono hsz))) nm).mono ?_)
               rintro e' w7 ⟨he, hb7⟩
               rw [HF.out] at he
               subst he
               obtain ⟨V, rfl⟩ : ∃ W, W = w7 := ⟨_, rfl⟩
               have HV := Lib.hid (HW3.out.trans (hb7.mono HW3.out.size))
               have BP := Lib.hid (show V.heap[w.heap.size]? = some (.cells #[.slice E en ek, .slice (some a) p.nodes.length ck] 25 (0, 0)) from box_next hb7 (alloc_below (alloc_below (heap_alloc_new w _))))
               have BX := Lib.hid (show V.heap[w.heap.size + 1]? = some (.cells #[.int .i64 op, .string (str nm), .int .i64 m, .slice cA cs.length cc, .slice kA ks.length kc] 50 (0, 0)) from box_next hb7 (alloc_below (alloc_at (by simp))))
               have BN := Lib.hid (show V.heap[w.heap.size + 1 + 1]? = some (.cells #[.string (str n.name), .slice fA n.funs.length fk, .slice iA n.ins.length ik, .slice oA n.outs.length ok, .slice xA n.items.length xk] 41 (0, 0)) from box_next hb7 (alloc_at (by simp)))
               obtain ⟨p0, p1⟩ := row2 BP.out
               obtain ⟨x0, x1, x2, x3, x4⟩ := row5 BX.out
               have hPl := lt_of_heap BP.out
               have hXl := lt_of_heap BX.out
               have hNl := lt_of_heap BN.out
               have HBV := Lib.hid (HB.out.trans (HV.out.mono hsz))
               have hszV := HBV.out.size
               have HQ := Lib.hid ((Below.refl V.heap.size V).alloc (Nat.le_refl _) (.cells #[.slice none 0 0, .slice (some a) k ck] 25))
               clear hb7)
            | (go_at_call 15
               (with_reducible refine (HNO.out _ (HBV.out.trans (HQ.out.mono hszV))).mono ?_)
               rintro e' w7 ⟨rfl, hb7⟩
               obtain ⟨U, rfl⟩ : ∃ W, W = w7 := ⟨_, rfl⟩
               have GU := Lib.hid (HQ.out.trans (hb7.mono HQ.out.size))
               have BQ := Lib.hid (show U.heap[V.heap.size]? = some (.cells #[.slice none 0 0, .slice (some a) k ck] 25 (0, 0)) from box_next hb7 (heap_alloc_new V _))
               have HBU := Lib.hid (HBV.out.trans (GU.out.mono hszV))
               have HVU := Lib.hid (HV.out.trans (GU.out.mono HV.out.size))
               obtain ⟨p0, p1⟩ := row2 (box_next GU.out BP.out)
               obtain ⟨x0, x1, x2, x3, x4⟩ := row5 (box_next GU.out BX.out)
               have hPl2 := lt_of_heap (box_next GU.out BP.out)
               have hXl2 := lt_of_heap (box_next GU.out BX.out)
               obtain ⟨a2, ea2, _, hab2, h0, h1, h2, h3, h4⟩ := elem5 (HEG.out.under HBU.out)
               cases ea2
               clear hb7))
          go_ret
          exact ⟨ret_bool HN.out.symm, HVU.out.alloc HVU.out.size _⟩
      · have e1 : ((g.ins.length : Int) != (ks.length : Int)) = true := by rw [bne_iff_ne]; omega
        have E1 := Lib.hid (show (g.ins.length == ks.length) = false by simpa using c1)
        clear c1
        have HN := Lib.hid (show callQ sn nm cs ks.length outs = false by rw [HCQ.out, E1.out]; simp)
        go_enter Tryz.func105, Tryz.ntmps105
        go_wp2_with (first
          | (go_at_call 21
             (with_reducible refine (has_post (HFU.out.under (HB.out.trans (HW3.out.mono hsz))) nm).mono ?_)
             rintro e' w7 ⟨he, hb7⟩
             rw [HF.out] at he
             subst he
             obtain ⟨V, rfl⟩ : ∃ W, W = w7 := ⟨_, rfl⟩
             have HV := Lib.hid (HW3.out.trans (hb7.mono HW3.out.size))
             have BP := Lib.hid (show V.heap[w.heap.size]? = some (.cells #[.slice E en ek, .slice (some a) p.nodes.length ck] 25 (0, 0)) from box_next hb7 (alloc_below (alloc_below (heap_alloc_new w _))))
             have BX := Lib.hid (show V.heap[w.heap.size + 1]? = some (.cells #[.int .i64 op, .string (str nm), .int .i64 m, .slice cA cs.length cc, .slice kA ks.length kc] 50 (0, 0)) from box_next hb7 (alloc_below (alloc_at (by simp))))
             have BN := Lib.hid (show V.heap[w.heap.size + 1 + 1]? = some (.cells #[.string (str n.name), .slice fA n.funs.length fk, .slice iA n.ins.length ik, .slice oA n.outs.length ok, .slice xA n.items.length xk] 41 (0, 0)) from box_next hb7 (alloc_at (by simp)))
             obtain ⟨p0, p1⟩ := row2 BP.out
             obtain ⟨x0, x1, x2, x3, x4⟩ := row5 BX.out
             have hPl := lt_of_heap BP.out
             have hXl := lt_of_heap BX.out
             have hNl := lt_of_heap BN.out
             have HBV := Lib.hid (HB.out.trans (HV.out.mono hsz))
             have hszV := HBV.out.size
             have HQ := Lib.hid ((Below.refl V.heap.size V).alloc (Nat.le_refl _) (.cells #[.slice none 0 0, .slice (some a) k ck] 25))
             clear hb7)
          | (go_at_call 15
             (with_reducible refine (HNO.out _ (HBV.out.trans (HQ.out.mono hszV))).mono ?_)
             rintro e' w7 ⟨rfl, hb7⟩
             obtain ⟨U, rfl⟩ : ∃ W, W = w7 := ⟨_, rfl⟩
             have GU := Lib.hid (HQ.out.trans (hb7.mono HQ.out.size))
             have BQ := Lib.hid (show U.heap[V.heap.size]? = some (.cells #[.slice none 0 0, .slice (some a) k ck] 25 (0, 0)) from box_next hb7 (heap_alloc_new V _))
             have HBU := Lib.hid (HBV.out.trans (GU.out.mono hszV))
             have HVU := Lib.hid (HV.out.trans (GU.out.mono HV.out.size))
             obtain ⟨p0, p1⟩ := row2 (box_next GU.out BP.out)
             obtain ⟨x0, x1, x2, x3, x4⟩ := row5 (box_next GU.out BX.out)
             have hPl2 := lt_of_heap (box_next GU.out BP.out)
             have hXl2 := lt_of_heap (box_next GU.out BX.out)
             obtain ⟨a2, ea2, _, hab2, h0, h1, h2, h3, h4⟩ := elem5 (HEG.out.under HBU.out)
             cases ea2
             clear hb7))
        go_ret
        exact ⟨ret_bool HN.out.symm, HVU.out.alloc HVU.out.size _⟩
  · have HFN := Lib.hid (show sn.funs.contains nm = true by rw [HSF.out]; exact hf)
    have HN := Lib.hid (show callQ sn nm cs ks.length outs = ((cs.length : Int) == 0) by rw [call_fun HFN.out, len_empty])
    clear hf
    go_enter Tryz.func105, Tryz.ntmps105
    go_wp2_with (go_at_call 21
                 (with_reducible refine (has_post (HFU.out.under (HB.out.trans (HW3.out.mono hsz))) nm).mono ?_)
                 rintro e' w7 ⟨he, hb7⟩
                 rw [HF.out] at he
                 subst he
                 obtain ⟨V, rfl⟩ : ∃ W, W = w7 := ⟨_, rfl⟩
                 have HV := Lib.hid (HW3.out.trans (hb7.mono HW3.out.size))
                 have BP := Lib.hid (show V.heap[w.heap.size]? = some (.cells #[.slice E en ek, .slice (some a) p.nodes.length ck] 25 (0, 0)) from box_next hb7 (alloc_below (alloc_below (heap_alloc_new w _))))
                 have BX := Lib.hid (show V.heap[w.heap.size + 1]? = some (.cells #[.int .i64 op, .string (str nm), .int .i64 m, .slice cA cs.length cc, .slice kA ks.length kc] 50 (0, 0)) from box_next hb7 (alloc_below (alloc_at (by simp))))
                 have BN := Lib.hid (show V.heap[w.heap.size + 1 + 1]? = some (.cells #[.string (str n.name), .slice fA n.funs.length fk, .slice iA n.ins.length ik, .slice oA n.outs.length ok, .slice xA n.items.length xk] 41 (0, 0)) from box_next hb7 (alloc_at (by simp)))
                 obtain ⟨p0, p1⟩ := row2 BP.out
                 obtain ⟨x0, x1, x2, x3, x4⟩ := row5 BX.out
                 have hPl := lt_of_heap BP.out
                 have hXl := lt_of_heap BX.out
                 have hNl := lt_of_heap BN.out
                 have HBV := Lib.hid (HB.out.trans (HV.out.mono hsz))
                 have hszV := HBV.out.size
                 have HQ := Lib.hid ((Below.refl V.heap.size V).alloc (Nat.le_refl _) (.cells #[.slice none 0 0, .slice (some a) k ck] 25))
                 clear hb7)
    go_ret
    exact ⟨ret_bool HN.out.symm, HV.out⟩
end Go.Proofs.YtbpbnebcbjacdaaGreat
