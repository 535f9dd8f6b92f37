import Derived.Lib.ItoaNum
import Derived.Test.YtdcjlihaldhhjaaGreatDoorKm05
namespace Go.Proofs.YtdcjlihaldhhjaaGreatDoor
open Go.RowKit (wrap64)
abbrev Tx := List UInt8
inductive Ex where
 | mk (op : Int) (name : Tx) (n : Int) (cons : List Tx) (kids : List Ex)
def Ex.op : Ex -> Int | .mk o _ _ _ _ => o
def Ex.kids : Ex -> List Ex | .mk _ _ _ _ k => k
structure QEq where
 names : List Tx
 e : Ex
structure gW where
 cond : Ex
 to : Tx
structure ba where
 name : Tx
 eqs : List QEq
 ways : List gW
structure cC where
 eq : QEq
 states : List ba
structure fp where
 name : Tx
 cons : List Tx
structure bc where
 name : Tx
 funs : List Tx
 ins : List Tx
 outs : List Tx
 items : List cC
structure dH where
 enums : List fp
 nodes : List bc
theorem Ex.ind {P : Ex -> Prop} (h : ∀ op nm n cs ks, (∀ k ∈ ks, P k) -> P (.mk op nm n cs ks)) : ∀ x, P x
 | .mk op nm n cs ks => h op nm n cs ks λ k _ => Ex.ind h k
termination_by x => SizeOf.sizeOf x
decreasing_by
 have := List.sizeOf_lt_of_mem ‹k ∈ ks›
 simp
 omega
mutual
def pY : Ex -> Int
 | .mk _ _ _ _ ks => gI 1 ks
def gI : Int -> List Ex -> Int
 | n, [] => n
 | n, k :: r => gI (wrap64 (n + pY k)) r
end
mutual
def j5 : Ex -> Int
 | .mk _ _ _ _ ks => wrap64 (eV 0 ks + 1)
def eV : Int -> List Ex -> Int
 | n, [] => n
 | n, k :: r => eV (max n (j5 k)) r
end
theorem xZ (l m : List Ex) : ∀ n, gI n (l ++ m) = gI (gI n l) m := by
 induction l with
 | nil => intro n; simp [gI]
 | cons k r ih => intro n; simp [gI, ih]
theorem uJ (n : Int) (l : List Ex) (k : Ex) : gI n (l ++ [k]) = wrap64 (gI n l + pY k) := by
 rw [xZ]; simp [gI]
theorem vQ (l m : List Ex) : ∀ n, eV n (l ++ m) = eV (eV n l) m := by
 induction l with
 | nil => intro n; simp [eV]
 | cons k r ih => intro n; simp [eV, ih]
theorem tX (n : Int) (l : List Ex) (k : Ex) : eV n (l ++ [k]) = max (eV n l) (j5 k) := by
 rw [vQ]; simp [eV]
mutual
def ep : Ex -> Ex -> Bool
 | .mk o a n c k, .mk o' a' n' c' k' => o == o' && a == a' && n == n' && c == c' && hG k k'
def hG : List Ex -> List Ex -> Bool
 | [], [] => true
 | [], _ :: _ => false
 | _ :: _, [] => false
 | x :: r, y :: s => ep x y && hG r s
end
theorem fN : ∀ x y, ep x y = true ↔ x = y := by
 intro x; induction x using Ex.ind with
 | h o a n c ks ih =>
   rintro ⟨o', a', n', c', ks'⟩; have hl : ∀ (l : List Ex), (∀ k ∈ l, ∀ y, ep k y = true ↔ k = y) -> ∀ l', hG l l' = true ↔ l = l' := by
    intro l; induction l with
    | nil => intro _ l'; cases l' <;> simp [hG]
    | cons x r ih2 =>
      intro hk l'; cases l' with
      | nil => simp [hG]
      | cons y s => simp [hG, hk x (by simp), ih2 (λ k hk' => hk k (by simp [hk']))]
   have := hl ks ih ks'; simp [ep, this, and_assoc]
def cU {X : Type} (f : X -> X -> Bool) : List X -> List X -> Bool
 | [], [] => true
 | [], _ :: _ => false
 | _ :: _, [] => false
 | x :: r, y :: s => f x y && cU f r s
theorem uN {X : Type} {f : X -> X -> Bool} (hf : ∀ x y, f x y = true ↔ x = y) (l l' : List X) : cU f l l' = true ↔ l = l' := by
 induction l generalizing l' with
 | nil => cases l' <;> simp [cU]
 | cons x r ih => cases l' <;> simp [cU, ih, hf]
theorem p6 (l l' : List Ex) : hG l l' = cU ep l l' := by
 induction l generalizing l' with
 | nil => cases l' <;> simp [hG, cU]
 | cons x r ih => cases l' <;> simp [hG, cU, ih]
theorem uM {X : Type} {f : X -> X -> Bool} {l l' : List X} (h : l.length ≠ l'.length) : cU f l l' = false := by
 induction l generalizing l' with
 | nil => cases l' <;> simp_all [cU]
 | cons x r ih =>
   cases l' with
   | nil => simp [cU]
   | cons y s =>
     have : cU f r s = false := ih (λ e => h (by simp [e])); simp [cU, this]
theorem uO {X : Type} {f : X -> X -> Bool} {l l' : List X} (hl : l.length = l'.length) (h : ∀ (i : Nat) x y, l[i]? = some x -> l'[i]? = some y -> f x y = true) : cU f l l' = true := by
 induction l generalizing l' with
 | nil => cases l' <;> simp_all [cU]
 | cons x r ih =>
   cases l' with
   | nil => simp at hl
   | cons y s => simp only [cU, h 0 x y rfl rfl, Bool.true_and]; exact ih (by simpa using hl) (λ i a b ha hb => h (i + 1) a b ha hb)
theorem p7 {X : Type} {f : X -> X -> Bool} {l l' : List X} {i : Nat} {x y : X} (hx : l[i]? = some x) (hy : l'[i]? = some y) (h : f x y = false) : cU f l l' = false := by
 induction l generalizing l' i with
 | nil => simp at hx
 | cons a r ih =>
   cases l' with
   | nil => simp at hy
   | cons b s =>
     cases i with
     | zero => simp at hx hy; subst hx hy; simp [cU, h]
     | succ i => simp at hx hy; simp [cU, ih hx hy]
def gK (s : Tx) : List (List Tx) -> List Tx
 | [] => []
 | x :: r => x ++ r.flatMap λ y => s :: y
theorem lK (s : Tx) (l : List (List Tx)) (x : List Tx) : gK s (l ++ [x]) = gK s l ++ ((if l = [] then [] else [s]) ++ x) := by
 cases l with
 | nil => simp [gK]
 | cons y r => simp [gK]
def di (s : Tx) (l : List Tx) : List Tx := gK s (l.map λ x => [x])
def eu (l : List Tx) : List Tx := if l = [] then [] else [91] :: (di [44] l ++ [[93]])
def fi (T : List (List Tx)) (i : Nat) : List Tx := T.getD i [[63]]
def dr : List Tx -> List (List Tx) -> List (List Tx)
 | c :: cs, t :: ts => (c :: [45, 62] :: t) :: dr cs ts
 | _, _ => []
def fc (o : Tx) (T : List (List Tx)) : List Tx := [40] :: o :: (fi T 0 ++ [[41]])
def dS (o : Tx) (T : List (List Tx)) : List Tx := [40] :: (fi T 0 ++ o :: (fi T 1 ++ [[41]]))
def ir (T : List (List Tx)) : List Tx := [40] :: [105, 102] :: (fi T 0 ++ [116, 104, 101, 110] :: (fi T 1 ++ [101, 108, 115, 101] :: (fi T 2 ++ [[41]])))
def nL (nm : Tx) (cs : List Tx) (T : List (List Tx)) : List Tx := [40] :: (fi T 0 ++ [119, 104, 101, 110] :: (di [44] cs ++ [[40], nm, [41], [41]]))
def mg (word nm : Tx) (cs : List Tx) (T : List (List Tx)) : List Tx := word :: nm :: [40] :: (gK [124] (dr cs T) ++ [[41]])
def jK (nm : Tx) (cs : List Tx) (T : List (List Tx)) : List Tx := nm :: (eu cs ++ [40] :: (gK [44] T ++ [[41]]))
def pS : Tx := [116, 114, 117, 101]
def l6 : Tx := [102, 97, 108, 115, 101]
def DB : Tx := [102, 98, 121]
def CW : Tx := [112, 114, 101]
def si : Tx := [45, 62]
def rH : Tx := [109, 101, 114, 103, 101]
def rI : Tx := [109, 97, 116, 99, 104]
def rW : Tx := [101, 118, 101, 114, 121]
def aR (op : Int) (nm : Tx) (n : Int) (cs : List Tx) (T : List (List Tx)) : List Tx :=
 if op = 1 then [Lib.itoa n]
 else if op = 2 then [if n = 1 then pS else l6]
 else if op = 3 then [nm]
 else if op = 4 then [nm]
 else if op = 5 then fc nm T
 else if op = 6 then dS nm T
 else if op = 7 then ir T
 else if op = 8 then dS DB T
 else if op = 9 then fc CW T
 else if op = 10 then dS si T
 else if op = 11 then nL nm cs T
 else if op = 12 then mg rH nm cs T
 else if op = 13 then mg rI nm cs T
 else if op = 14 then jK nm cs T
 else if op = 15 then dS rW T
 else [[63]]
mutual
def aA : Ex -> List Tx
 | .mk op nm n cs ks => aR op nm n cs (qY ks)
def qY : List Ex -> List (List Tx)
 | [] => []
 | k :: r => aA k :: qY r
end
theorem uz (l : List Ex) : qY l = l.map aA := by
 induction l with
 | nil => rfl
 | cons k r ih => simp [qY, ih]
theorem zM (op : Int) (nm : Tx) (n : Int) (cs : List Tx) (ks : List Ex) : aA (.mk op nm n cs ks) = aR op nm n cs (ks.map aA) := by rw [aA, uz]
def putL : Bool -> List Tx -> Tx
 | _, [] => []
 | false, t :: r => t ++ putL true r
 | true, t :: r => 32 :: (t ++ putL true r)
theorem kK (l m : List Tx) : ∀ g, putL g (l ++ m) = putL g l ++ putL (g || !l.isEmpty) m := by
 induction l with
 | nil => intro g; simp [putL]
 | cons t r ih => intro g; cases g <;> simp [putL, ih]
theorem uW (l : List Tx) : putL true l = if l = [] then [] else 32 :: iQ l := by
 induction l with
 | nil => rfl
 | cons t r ih => simp only [putL, iQ, ih]; simp
theorem uX (l : List Tx) : putL false l = iQ l := by
 cases l with
 | nil => rfl
 | cons t r => simp only [putL, iQ, uW]
def iN (made : Bool) (l : Tx) : Tx := if made && [95].isPrefixOf l then l.drop 1 else l
def cJ (made : Bool) (l : Tx) : Bool := xi (iN made l)
def iq (made : Bool) (l : Tx) : Bool := DP (iN made l)
def fJ {X : Type} (l : List X) (least most : Nat) (f : X -> Bool) : Bool := decide (least <= l.length) && decide (l.length <= most) && l.all f
def ug : List Tx := [[43], [45], [42], [47], [37], [60], [60, 61], [61], [60, 62], [97, 110, 100], [111, 114]]
def bt (made : Bool) (op : Int) (nm : Tx) (n : Int) (cs : List Tx) (ks : List Ex) : Bool :=
 if op = 1 then nm == [] && decide (0 <= n) && cs.isEmpty && ks.isEmpty
 else if op = 2 then nm == [] && (decide (0 <= n) && decide (n <= 1)) && cs.isEmpty && ks.isEmpty
 else if op = 3 then iq made nm && n == 0 && cs.isEmpty && ks.isEmpty
 else if op = 4 then cJ made nm && n == 0 && cs.isEmpty && ks.isEmpty
 else if op = 5 then [[110, 111, 116], [45]].contains nm && n == 0 && cs.isEmpty && ks.length == 1
 else if op = 6 then ug.contains nm && n == 0 && cs.isEmpty && ks.length == 2
 else if op = 7 then nm == [] && n == 0 && cs.isEmpty && ks.length == 3
 else if op = 8 then nm == [] && n == 0 && cs.isEmpty && ks.length == 2
 else if op = 9 then nm == [] && n == 0 && cs.isEmpty && ks.length == 1
 else if op = 10 then nm == [] && n == 0 && cs.isEmpty && ks.length == 2
 else if op = 11 then cJ made nm && n == 0 && fJ cs 1 1 (iq made) && ks.length == 1
 else if op = 12 then cJ made nm && n == 0 && fJ cs 1 8 (iq made) && ks.length == cs.length
 else if op = 13 then cJ made nm && n == 0 && fJ cs 1 8 (iq made) && ks.length == cs.length
 else if op = 14 then cJ made nm && n == 0 && fJ cs 0 6 (cJ made) && (decide (1 <= ks.length) && decide (ks.length <= 6))
 else if op = 15 then nm == [] && n == 0 && cs.isEmpty && (ks.length == 2 && (ks.headD (.mk 0 [] 0 [] [])).op == 14)
 else false
mutual
def d7 (made : Bool) : Ex -> Bool
 | .mk op nm n cs ks => bt made op nm n cs ks && kF made ks
def kF (made : Bool) : List Ex -> Bool
 | [] => true
 | k :: r => d7 made k && kF made r
end
theorem mo (made : Bool) (l : List Ex) : kF made l = l.all (d7 made) := by
 induction l with
 | nil => rfl
 | cons k r ih => simp [kF, ih]
def fy (made : Bool) (q : QEq) : Bool := fJ q.names 1 6 (cJ made) && d7 made q.e
def iT (made : Bool) (y : gW) : Bool := iq made y.to && d7 made y.cond
def eP (made : Bool) (s : ba) : Bool := iq made s.name && (fJ s.eqs 0 24 (fy made) && fJ s.ways 0 4 (iT made))
def qo : Ex := .mk 0 [] 0 [] []
def cQ (made : Bool) (i : cC) : Bool := if i.states = [] then fy made i.eq else i.eq.names.isEmpty && (ep i.eq.e qo && fJ i.states 1 8 (eP made))
def jq (made : Bool) (e : fp) : Bool := cJ made e.name && fJ e.cons 1 8 (iq made)
def ed (made : Bool) : Nat := if made then 9223372036854775807 else 24
def eh (made : Bool) : Nat := if made then 32 else 8
def eQ (made : Bool) (n : bc) : Bool := cJ made n.name && (fJ n.funs 0 6 (cJ made) && (fJ n.ins 1 6 (cJ made) && (fJ n.outs 1 6 (cJ made) && fJ n.items 0 (ed made) (cQ made))))
def od (made : Bool) (p : dH) : Bool := fJ p.enums 0 (eh made) (jq made) && fJ p.nodes 1 16 (eQ made)
def fT (s : ba) : List Ex := s.eqs.map QEq.e ++ s.ways.map gW.cond
def gP (i : cC) : List Ex := (if i.states = [] then [i.eq.e] else []) ++ i.states.flatMap fT
def eH (n : bc) : List Ex := n.items.flatMap gP
def jW : Int -> List Ex -> Bool
 | s, [] => decide (300 < s)
 | s, x :: r => if 40 < j5 x then true else jW (wrap64 (s + pY x)) r
def ig (n : bc) : Bool := jW 0 (eH n)
def dh (made : Bool) (p : dH) : Int := if od made p then (if p.nodes.any ig then 9 else 0) else 10
end Go.Proofs.YtdcjlihaldhhjaaGreatDoor
namespace Go.Proofs.YtdcjlihaldhhjaaGreatDoor
mutual
def gM (r : Ex -> Option Ex) : Ex -> Ex
 | .mk op nm n cs ks => match r (.mk op nm n cs ks) with
   | some y => y
   | none => .mk op nm n cs (s8 r ks)
def s8 (r : Ex -> Option Ex) : List Ex -> List Ex
 | [] => []
 | k :: l => gM r k :: s8 r l
end
theorem s6 (r : Ex -> Option Ex) : ∀ l, s8 r l = l.map (gM r)
 | [] => by rw [s8]; rfl
 | k :: l => by rw [s8, s6 r l]; rfl
theorem yk {r : Ex -> Option Ex} {op n : Int} {nm : Tx} {cs : List Tx} {ks : List Ex} (h : r (.mk op nm n cs ks) = none) : gM r (.mk op nm n cs ks) = .mk op nm n cs (ks.map (gM r)) := by rw [gM, h, s6]
theorem yj {r : Ex -> Option Ex} {x y : Ex} (h : r x = some y) : gM r x = y := by cases x; rw [gM, h]
mutual
theorem sZ : ∀ x : Ex, gM (λ _ => none) x = x
 | .mk op nm n cs ks => by rw [gM, qb ks]
theorem qb : ∀ l : List Ex, s8 (λ _ => none) l = l
 | [] => by rw [s8]
 | k :: l => by rw [s8, sZ k, qb l]
end
def nY (x con : Tx) : Ex -> Option Ex
 | .mk op nm n cs ks => if op = 4 then some (.mk 11 x 0 [con] [.mk op nm n cs ks]) else none
def fw (x con : Tx) (e : Ex) : Ex := gM (nY x con) e
def a5 : List Tx -> List Tx -> Bool
 | _, [] => true
 | m, s :: r => !m.contains s && a5 (m ++ [s]) r
theorem cV (m : List Tx) (s : Tx) (r : List Tx) : a5 m (s :: r) = (!m.contains s && a5 (m ++ [s]) r) := rfl
theorem yi (a b : List Tx) : ∀ m, a5 m (a ++ b) = (a5 m a && a5 (m ++ a) b) := by
 induction a with
 | nil => intro m; simp [a5]
 | cons x r ih => intro m; simp [a5, ih, Bool.and_assoc]
theorem yh (l : List Tx) : ∀ m, m.Nodup -> (a5 m l = true ↔ (m ++ l).Nodup) := by
 induction l with
 | nil => intro m hm; simp [a5, hm]
 | cons x r ih =>
   intro m hm; rw [cV, Bool.and_eq_true, Bool.not_eq_true', <- Bool.not_eq_true, List.contains_iff_mem]; constructor
   . rintro ⟨h1, h2⟩; have := (ih (m ++ [x]) (by rw [List.nodup_append]; exact ⟨hm, by simp, λ a ha b hb => by simp at hb; subst hb; intro e; subst e; exact h1 ha⟩)).1 h2; simpa using this
   . intro h; have h1 : x ∉ m := by
      rw [List.nodup_append] at h; intro hx; exact h.2.2 x hx x (by simp) rfl
     refine ⟨h1, (ih (m ++ [x]) ?_).2 (by simpa using h)⟩; rw [List.nodup_append]; exact ⟨hm, by simp, λ a ha b hb => by simp at hb; subst hb; intro e; subst e; exact h1 ha⟩
def bp (i : cC) : List Tx :=
 match i.states with
 | [] => i.eq.names
 | s :: _ => s.eqs.flatMap QEq.names
def ot : List Tx -> List QEq -> Option (List Tx)
 | m, [] => some m
 | m, q :: r => if q.names.length = 1 /\ a5 m q.names = true then ot (m ++ q.names) r else none
def dX (s : ba) : Option (List Tx) := ot [] s.eqs
def e7 (a b : List Tx) : Bool := a.length == b.length && a.all b.contains
def jV (s : ba) (names : List Tx) : Bool := s.ways.all λ y => names.contains y.to
structure a6 where
 enums : List Tx
 cons : List (Tx × List Tx)
 nodes : List (Tx × bc)
 states : List Tx
def a6.conKeys (s : a6) : List Tx := s.cons.map Prod.fst
def a6.nodeKeys (s : a6) : List Tx := s.nodes.map Prod.fst
def gD : List Tx := [[70, 97, 108, 115, 101], [84, 114, 117, 101]]
def a6.new : a6 := ⟨[], gD.map λ c => (c, gD), [], []⟩
def a6.addEnum (s : a6) (e : fp) : a6 := { s with enums := s.enums ++ [e.name], cons := s.cons ++ e.cons.map λ c => (c, e.cons) }
def gB (s : a6) (e : fp) : Bool := a5 s.enums [e.name] && a5 s.conKeys e.cons
def dF (s : a6) (n : bc) : Bool :=
 !s.nodeKeys.contains n.name && (a5 [] (n.funs ++ n.ins) && (a5 [] n.outs && !n.funs.any λ f => f == n.name || s.nodeKeys.contains f))
def ch (s : a6) (l : List ba) : Bool :=
 !((l.map ba.name).any s.conKeys.contains) && (a5 s.states (l.map ba.name) && l.all λ q =>
   match dX q with
   | none => false
   | some own => e7 own (((l.head?.bind dX).getD [])) && jV q (l.map ba.name))
def dt (s : a6) (vars : List Tx) (i : cC) : Bool :=
 a5 vars (bp i) && (if i.states = [] then i.eq.names.length == 1 || (i.eq.e.op == 14 || i.eq.e.op == 15) else ch s i.states)
def a6.addItem (s : a6) (i : cC) : a6 := { s with states := s.states ++ i.states.map ba.name }
def ft (b : Int) : a6 -> List Tx -> List cC -> (a6 × List Tx) ⊕ Int
 | s, vars, [] => .inl (s, vars)
 | s, vars, i :: r => if dt s vars i = true then ft (b + 1) (s.addItem i) (vars ++ bp i) r else .inr b
structure eD where
 prog : a6
 funs : List Tx
 vars : List Tx
def mS {X : Type} (l : List (Tx × X)) (s : Tx) : Option X := (l.find? λ p => p.1 == s).map Prod.snd
def jH (s : eD) (f : Tx) : Bool := s.funs.contains f || (match mS s.prog.nodes f with | some n => n.funs.isEmpty | none => false)
def dN (s : eD) (l : List Tx) : Bool :=
 match l with
 | [] => false
 | c :: _ => match mS s.prog.cons c with | some cs => l == cs | none => false
def gU (s : eD) (nm : Tx) (cs : List Tx) (k : Nat) (results : Int) : Bool :=
 if s.funs.contains nm then cs.isEmpty
 else match mS s.prog.nodes nm with
  | none => false
  | some n => n.ins.length == k && (n.funs.length == cs.length && ((n.outs.length : Int) == results && cs.all (jH s)))
def bj (s : eD) (op : Int) (nm : Tx) (cs : List Tx) (k : Nat) (results : Int) (uns : Bool) : Bool :=
 if op = 4 then s.vars.contains nm
 else if op = 3 then s.prog.conKeys.contains nm
 else if op = 11 then !uns && (s.vars.contains nm && s.prog.conKeys.contains (cs.headD []))
 else if op = 12 then !uns && (s.vars.contains nm && dN s cs)
 else if op = 13 then !uns && (s.vars.contains nm && dN s cs)
 else if op = 14 then gU s nm cs k results
 else true
mutual
def ej (s : eD) (results : Int) (uns : Bool) : Ex -> Bool
 | .mk op nm _ cs ks => bj s op nm cs ks.length results uns && eN s op results (uns || op == 13) true ks
def eN (s : eD) (op results : Int) (uns first : Bool) : List Ex -> Bool
 | [] => true
 | k :: r => ej s (if op = 15 /\ first = true then results else 1) uns k && eN s op results uns false r
end
def fg (s : eD) (i : cC) : Bool :=
 if i.states = [] then ej s i.eq.names.length false i.eq.e
 else i.states.all λ q => (q.eqs.all λ e => ej s 1 true e.e) && q.ways.all λ y => ej s 1 true y.cond
def iE (s : eD) (b : Int) : List cC -> Option Int
 | [] => none
 | i :: r => if fg s i = true then iE s (b + 1) r else some b
def cj (s : a6) (n : bc) : a6 ⊕ Int :=
 if dF s n = true then
  match ft 0 s n.ins n.items with
  | .inr b => .inr b
  | .inl (s', vars) =>
    if (n.outs.all λ o => (n.items.flatMap bp).contains o) = true then
     match iE ⟨s', n.funs, vars⟩ 0 n.items with
     | some b => .inr b
     | none => .inl { s' with nodes := s'.nodes ++ [(n.name, n)] }
    else .inr (-1)
 else .inr (-1)
def fr (k : Int) : a6 -> List bc -> Int × Int × Int
 | _, [] => (0, 0, 0)
 | s, n :: r => match cj s n with | .inr b => (4, k, b) | .inl s' => fr (k + 1) s' r
def fu (k : Int) : a6 -> List fp -> a6 ⊕ Int
 | s, [] => .inl s
 | s, e :: r => if gB s e = true then fu (k + 1) (s.addEnum e) r else .inr k
def bg (made : Bool) (p : dH) : Int × Int × Int :=
 if dh made p = 0 then
  match fu 0 .new p.enums with
  | .inr i => (4, -1, i)
  | .inl s => fr 0 s p.nodes
 else (dh made p, 0, 0)
end Go.Proofs.YtdcjlihaldhhjaaGreatDoor
