import Derived.Lib.ItoaNum
import Derived.Test.YtccihplmmfmonaaGreatDoorKm04
import Derived.Test.YtccihplmmfmonaaGreatDoorKm09
namespace Go.Proofs.YtccihplmmfmonaaGreatDoor
open Go.RowKit (wrap64)
abbrev Tx := List UInt8
inductive Ex where
 | mk (op : Int) (name : Tx) (n : Int) (cons : List Tx) (kids : List Ex)
def Ex.op : Ex -> Int | .mk o _ _ _ _ => o
def Ex.kids : Ex -> List Ex | .mk _ _ _ _ k => k
structure QEq where
 names : List Tx
 e : Ex
structure iK where
 cond : Ex
 to : Tx
structure aZ where
 name : Tx
 eqs : List QEq
 ways : List iK
structure bd where
 eq : QEq
 states : List aZ
structure fl where
 name : Tx
 cons : List Tx
structure aA where
 name : Tx
 funs : List Tx
 ins : List Tx
 outs : List Tx
 items : List bd
structure cy where
 enums : List fl
 nodes : List aA
theorem Ex.ind {P : Ex -> Prop} (h : ∀ op nm n cs ks, (∀ k ∈ ks, P k) -> P (.mk op nm n cs ks)) : ∀ x, P x
 | .mk op nm n cs ks => h op nm n cs ks λ k _ => Ex.ind h k
termination_by x => SizeOf.sizeOf x
decreasing_by
 have := List.sizeOf_lt_of_mem ‹k ∈ ks›
 simp
 omega
mutual
def oo : Ex -> Int
 | .mk _ _ _ _ ks => gu 1 ks
def gu : Int -> List Ex -> Int
 | n, [] => n
 | n, k :: r => gu (wrap64 (n + oo k)) r
end
mutual
def lV : Ex -> Int
 | .mk _ _ _ _ ks => wrap64 (fQ 0 ks + 1)
def fQ : Int -> List Ex -> Int
 | n, [] => n
 | n, k :: r => fQ (max n (lV k)) r
end
theorem AY (l m : List Ex) : ∀ n, gu n (l ++ m) = gu (gu n l) m := by
 induction l with
 | nil => intro n; simp [gu]
 | cons k r ih => intro n; simp [gu, ih]
theorem xD (n : Int) (l : List Ex) (k : Ex) : gu n (l ++ [k]) = wrap64 (gu n l + oo k) := by
 rw [AY]; simp [gu]
theorem yT (l m : List Ex) : ∀ n, fQ n (l ++ m) = fQ (fQ n l) m := by
 induction l with
 | nil => intro n; simp [fQ]
 | cons k r ih => intro n; simp [fQ, ih]
theorem wF (n : Int) (l : List Ex) (k : Ex) : fQ n (l ++ [k]) = max (fQ n l) (lV k) := by
 rw [yT]; simp [fQ]
mutual
def mu : Ex -> Ex -> Bool
 | .mk o a n c k, .mk o' a' n' c' k' => o == o' && a == a' && n == n' && c == c' && pV k k'
def pV : List Ex -> List Ex -> Bool
 | [], [] => true
 | [], _ :: _ => false
 | _ :: _, [] => false
 | x :: r, y :: s => mu x y && pV r s
end
def dh {X : Type} (f : X -> X -> Bool) : List X -> List X -> Bool
 | [], [] => true
 | [], _ :: _ => false
 | _ :: _, [] => false
 | x :: r, y :: s => f x y && dh f r s
theorem xH {X : Type} {f : X -> X -> Bool} (hf : ∀ x y, f x y = true ↔ x = y) (l l' : List X) : dh f l l' = true ↔ l = l' := by
 induction l generalizing l' with
 | nil => cases l' <;> simp [dh]
 | cons x r ih => cases l' <;> simp [dh, ih, hf]
theorem Ba (l l' : List Ex) : pV l l' = dh mu l l' := by
 induction l generalizing l' with
 | nil => cases l' <;> simp [pV, dh]
 | cons x r ih => cases l' <;> simp [pV, dh, ih]
theorem xG {X : Type} {f : X -> X -> Bool} {l l' : List X} (h : l.length ≠ l'.length) : dh f l l' = false := by
 induction l generalizing l' with
 | nil => cases l' <;> simp_all [dh]
 | cons x r ih =>
   cases l' with
   | nil => simp [dh]
   | cons y s =>
     have : dh f r s = false := ih (λ e => h (by simp [e])); simp [dh, this]
theorem xI {X : Type} {f : X -> X -> Bool} {l l' : List X} (hl : l.length = l'.length) (h : ∀ (i : Nat) x y, l[i]? = some x -> l'[i]? = some y -> f x y = true) : dh f l l' = true := by
 induction l generalizing l' with
 | nil => cases l' <;> simp_all [dh]
 | cons x r ih =>
   cases l' with
   | nil => simp at hl
   | cons y s => simp only [dh, h 0 x y rfl rfl, Bool.true_and]; exact ih (by simpa using hl) (λ i a b ha hb => h (i + 1) a b ha hb)
theorem Bb {X : Type} {f : X -> X -> Bool} {l l' : List X} {i : Nat} {x y : X} (hx : l[i]? = some x) (hy : l'[i]? = some y) (h : f x y = false) : dh f l l' = false := by
 induction l generalizing l' i with
 | nil => simp at hx
 | cons a r ih =>
   cases l' with
   | nil => simp at hy
   | cons b s =>
     cases i with
     | zero => simp at hx hy; subst hx hy; simp [dh, h]
     | succ i => simp at hx hy; simp [dh, ih hx hy]
def Ie (s : Tx) : List (List Tx) -> List Tx
 | [] => []
 | x :: r => x ++ r.flatMap λ y => s :: y
def DI (s : Tx) (l : List Tx) : List Tx := Ie s (l.map λ x => [x])
def CY (l : List Tx) : List Tx := if l = [] then [] else [91] :: (DI [44] l ++ [[93]])
def yy (T : List (List Tx)) (i : Nat) : List Tx := T.getD i [[63]]
def Hs : List Tx -> List (List Tx) -> List (List Tx)
 | c :: cs, t :: ts => (c :: [45, 62] :: t) :: Hs cs ts
 | _, _ => []
def zI (o : Tx) (T : List (List Tx)) : List Tx := [40] :: o :: (yy T 0 ++ [[41]])
def ua (o : Tx) (T : List (List Tx)) : List Tx := [40] :: (yy T 0 ++ o :: (yy T 1 ++ [[41]]))
def GI (T : List (List Tx)) : List Tx := [40] :: [105, 102] :: (yy T 0 ++ [116, 104, 101, 110] :: (yy T 1 ++ [101, 108, 115, 101] :: (yy T 2 ++ [[41]])))
def Jj (nm : Tx) (cs : List Tx) (T : List (List Tx)) : List Tx := [40] :: (yy T 0 ++ [119, 104, 101, 110] :: (DI [44] cs ++ [[40], nm, [41], [41]]))
def JW (word nm : Tx) (cs : List Tx) (T : List (List Tx)) : List Tx := word :: nm :: [40] :: (Ie [124] (Hs cs T) ++ [[41]])
def JR (nm : Tx) (cs : List Tx) (T : List (List Tx)) : List Tx := nm :: (CY cs ++ [40] :: (Ie [44] T ++ [[41]]))
def Jm : Tx := [116, 114, 117, 101]
def IW : Tx := [102, 97, 108, 115, 101]
def J8 : Tx := [102, 98, 121]
def J7 : Tx := [112, 114, 101]
def Jc : Tx := [45, 62]
def IF : Tx := [109, 101, 114, 103, 101]
def IG : Tx := [109, 97, 116, 99, 104]
def IX : Tx := [101, 118, 101, 114, 121]
def Hx (op : Int) (nm : Tx) (n : Int) (cs : List Tx) (T : List (List Tx)) : List Tx :=
 if op = 1 then [Lib.itoa n]
 else if op = 2 then [if n = 1 then Jm else IW]
 else if op = 3 then [nm]
 else if op = 4 then [nm]
 else if op = 5 then zI nm T
 else if op = 6 then ua nm T
 else if op = 7 then GI T
 else if op = 8 then ua J8 T
 else if op = 9 then zI J7 T
 else if op = 10 then ua Jc T
 else if op = 11 then Jj nm cs T
 else if op = 12 then JW IF nm cs T
 else if op = 13 then JW IG nm cs T
 else if op = 14 then JR nm cs T
 else if op = 15 then ua IX T
 else [[63]]
mutual
def Jn : Ex -> List Tx
 | .mk op nm n cs ks => Hx op nm n cs (CO ks)
def CO : List Ex -> List (List Tx)
 | [] => []
 | k :: r => Jn k :: CO r
end
def putL : Bool -> List Tx -> Tx
 | _, [] => []
 | false, t :: r => t ++ putL true r
 | true, t :: r => 32 :: (t ++ putL true r)
def jI (made : Bool) (l : Tx) : Tx := if made && [95].isPrefixOf l then l.drop 1 else l
def cM (made : Bool) (l : Tx) : Bool := zX (jI made l)
def jm (made : Bool) (l : Tx) : Bool := Gy (jI made l)
def fC {X : Type} (l : List X) (least most : Nat) (f : X -> Bool) : Bool := decide (least <= l.length) && decide (l.length <= most) && l.all f
def wQ : List Tx := [[43], [45], [42], [47], [37], [60], [60, 61], [61], [60, 62], [97, 110, 100], [111, 114]]
def bp (made : Bool) (op : Int) (nm : Tx) (n : Int) (cs : List Tx) (ks : List Ex) : Bool :=
 if op = 1 then nm == [] && decide (0 <= n) && cs.isEmpty && ks.isEmpty
 else if op = 2 then nm == [] && (decide (0 <= n) && decide (n <= 1)) && cs.isEmpty && ks.isEmpty
 else if op = 3 then jm made nm && n == 0 && cs.isEmpty && ks.isEmpty
 else if op = 4 then cM made nm && n == 0 && cs.isEmpty && ks.isEmpty
 else if op = 5 then [[110, 111, 116], [45]].contains nm && n == 0 && cs.isEmpty && ks.length == 1
 else if op = 6 then wQ.contains nm && n == 0 && cs.isEmpty && ks.length == 2
 else if op = 7 then nm == [] && n == 0 && cs.isEmpty && ks.length == 3
 else if op = 8 then nm == [] && n == 0 && cs.isEmpty && ks.length == 2
 else if op = 9 then nm == [] && n == 0 && cs.isEmpty && ks.length == 1
 else if op = 10 then nm == [] && n == 0 && cs.isEmpty && ks.length == 2
 else if op = 11 then cM made nm && n == 0 && fC cs 1 1 (jm made) && ks.length == 1
 else if op = 12 then cM made nm && n == 0 && fC cs 1 8 (jm made) && ks.length == cs.length
 else if op = 13 then cM made nm && n == 0 && fC cs 1 8 (jm made) && ks.length == cs.length
 else if op = 14 then cM made nm && n == 0 && fC cs 0 6 (cM made) && (decide (1 <= ks.length) && decide (ks.length <= 6))
 else if op = 15 then nm == [] && n == 0 && cs.isEmpty && (ks.length == 2 && (ks.headD (.mk 0 [] 0 [] [])).op == 14)
 else false
mutual
def bG (made : Bool) : Ex -> Bool
 | .mk op nm n cs ks => bp made op nm n cs ks && kK made ks
def kK (made : Bool) : List Ex -> Bool
 | [] => true
 | k :: r => bG made k && kK made r
end
theorem jP (made : Bool) (l : List Ex) : kK made l = l.all (bG made) := by
 induction l with
 | nil => rfl
 | cons k r ih => simp [kK, ih]
def fo (made : Bool) (q : QEq) : Bool := fC q.names 1 6 (cM made) && bG made q.e
def jQ (made : Bool) (y : iK) : Bool := jm made y.to && bG made y.cond
def fN (made : Bool) (s : aZ) : Bool := jm made s.name && (fC s.eqs 0 24 (fo made) && fC s.ways 0 4 (jQ made))
def sG : Ex := .mk 0 [] 0 [] []
def cJ (made : Bool) (i : bd) : Bool := if i.states = [] then fo made i.eq else i.eq.names.isEmpty && (mu i.eq.e sG && fC i.states 1 8 (fN made))
def kL (made : Bool) (e : fl) : Bool := cM made e.name && fC e.cons 1 8 (jm made)
def eU (made : Bool) : Nat := if made then 9223372036854775807 else 24
def eW (made : Bool) : Nat := if made then 32 else 8
def fe (made : Bool) (n : aA) : Bool := cM made n.name && (fC n.funs 0 6 (cM made) && (fC n.ins 1 6 (cM made) && (fC n.outs 1 6 (cM made) && fC n.items 0 (eU made) (cJ made))))
def lK (made : Bool) (p : cy) : Bool := fC p.enums 0 (eW made) (kL made) && fC p.nodes 1 16 (fe made)
def fK (s : aZ) : List Ex := s.eqs.map QEq.e ++ s.ways.map iK.cond
def gT (i : bd) : List Ex := (if i.states = [] then [i.eq.e] else []) ++ i.states.flatMap fK
def f7 (n : aA) : List Ex := n.items.flatMap gT
def iH : Int -> List Ex -> Bool
 | s, [] => decide (300 < s)
 | s, x :: r => if 40 < lV x then true else iH (wrap64 (s + oo x)) r
def iG (n : aA) : Bool := iH 0 (f7 n)
def dN (made : Bool) (p : cy) : Int := if lK made p then (if p.nodes.any iG then 9 else 0) else 10
end Go.Proofs.YtccihplmmfmonaaGreatDoor
namespace Go.Proofs.YtccihplmmfmonaaGreatDoor
def aU : List Tx -> List Tx -> Bool
 | _, [] => true
 | m, s :: r => !m.contains s && aU (m ++ [s]) r
theorem cZ (m : List Tx) (s : Tx) (r : List Tx) : aU m (s :: r) = (!m.contains s && aU (m ++ [s]) r) := rfl
theorem Bf (a b : List Tx) : ∀ m, aU m (a ++ b) = (aU m a && aU (m ++ a) b) := by
 induction a with
 | nil => intro m; simp [aU]
 | cons x r ih => intro m; simp [aU, ih, Bool.and_assoc]
theorem kN (l : List Tx) : ∀ m, m.Nodup -> (aU m l = true ↔ (m ++ l).Nodup) := by
 induction l with
 | nil => intro m hm; simp [aU, hm]
 | cons x r ih =>
   intro m hm; rw [cZ, Bool.and_eq_true, Bool.not_eq_true', <- Bool.not_eq_true, List.contains_iff_mem]; constructor
   . rintro ⟨h1, h2⟩; have := (ih (m ++ [x]) (by rw [List.nodup_append]; exact ⟨hm, by simp, λ a ha b hb => by simp at hb; subst hb; intro e; subst e; exact h1 ha⟩)).1 h2; simpa using this
   . intro h; have h1 : x ∉ m := by
      rw [List.nodup_append] at h; intro hx; exact h.2.2 x hx x (by simp) rfl
     refine ⟨h1, (ih (m ++ [x]) ?_).2 (by simpa using h)⟩; rw [List.nodup_append]; exact ⟨hm, by simp, λ a ha b hb => by simp at hb; subst hb; intro e; subst e; exact h1 ha⟩
def aH (i : bd) : List Tx :=
 match i.states with
 | [] => i.eq.names
 | s :: _ => s.eqs.flatMap QEq.names
def aD (n : aA) : List Tx := n.ins ++ n.items.flatMap aH
def qa : List Tx -> List QEq -> Option (List Tx)
 | m, [] => some m
 | m, q :: r => if q.names.length = 1 /\ aU m q.names = true then qa (m ++ q.names) r else none
def eL (s : aZ) : Option (List Tx) := qa [] s.eqs
def fU (a b : List Tx) : Bool := a.length == b.length && a.all b.contains
def lQ (s : aZ) (names : List Tx) : Bool := s.ways.all λ y => names.contains y.to
structure aK where
 enums : List Tx
 cons : List (Tx × List Tx)
 nodes : List (Tx × aA)
 states : List Tx
def aK.conKeys (s : aK) : List Tx := s.cons.map Prod.fst
def aK.nodeKeys (s : aK) : List Tx := s.nodes.map Prod.fst
def eH : List Tx := [[70, 97, 108, 115, 101], [84, 114, 117, 101]]
def aK.new : aK := ⟨[], eH.map λ c => (c, eH), [], []⟩
def aK.addEnum (s : aK) (e : fl) : aK := { s with enums := s.enums ++ [e.name], cons := s.cons ++ e.cons.map λ c => (c, e.cons) }
def iI (s : aK) (e : fl) : Bool := aU s.enums [e.name] && aU s.conKeys e.cons
def cN (s : aK) (n : aA) : Bool :=
 !s.nodeKeys.contains n.name && (aU [] (n.funs ++ n.ins) && (aU [] n.outs && !n.funs.any λ f => f == n.name || s.nodeKeys.contains f))
def ch (s : aK) (l : List aZ) : Bool :=
 !((l.map aZ.name).any s.conKeys.contains) && (aU s.states (l.map aZ.name) && l.all λ q =>
   match eL q with
   | none => false
   | some own => fU own (((l.head?.bind eL).getD [])) && lQ q (l.map aZ.name))
def da (s : aK) (vars : List Tx) (i : bd) : Bool :=
 aU vars (aH i) && (if i.states = [] then i.eq.names.length == 1 || (i.eq.e.op == 14 || i.eq.e.op == 15) else ch s i.states)
def aK.addItem (s : aK) (i : bd) : aK := { s with states := s.states ++ i.states.map aZ.name }
def d7 (b : Int) : aK -> List Tx -> List bd -> (aK × List Tx) ⊕ Int
 | s, vars, [] => .inl (s, vars)
 | s, vars, i :: r => if da s vars i = true then d7 (b + 1) (s.addItem i) (vars ++ aH i) r else .inr b
structure dJ where
 prog : aK
 funs : List Tx
 vars : List Tx
def bg {X : Type} (l : List (Tx × X)) (s : Tx) : Option X := (l.find? λ p => p.1 == s).map Prod.snd
def jz (s : dJ) (f : Tx) : Bool := s.funs.contains f || (match bg s.prog.nodes f with | some n => n.funs.isEmpty | none => false)
def et (s : dJ) (l : List Tx) : Bool :=
 match l with
 | [] => false
 | c :: _ => match bg s.prog.cons c with | some cs => l == cs | none => false
def hH (s : dJ) (nm : Tx) (cs : List Tx) (k : Nat) (results : Int) : Bool :=
 if s.funs.contains nm then cs.isEmpty
 else match bg s.prog.nodes nm with
  | none => false
  | some n => n.ins.length == k && (n.funs.length == cs.length && ((n.outs.length : Int) == results && cs.all (jz s)))
def bf (s : dJ) (op : Int) (nm : Tx) (cs : List Tx) (k : Nat) (results : Int) (uns : Bool) : Bool :=
 if op = 4 then s.vars.contains nm
 else if op = 3 then s.prog.conKeys.contains nm
 else if op = 11 then !uns && (s.vars.contains nm && s.prog.conKeys.contains (cs.headD []))
 else if op = 12 then !uns && (s.vars.contains nm && et s cs)
 else if op = 13 then !uns && (s.vars.contains nm && et s cs)
 else if op = 14 then hH s nm cs k results
 else true
mutual
def dP (s : dJ) (results : Int) (uns : Bool) : Ex -> Bool
 | .mk op nm _ cs ks => bf s op nm cs ks.length results uns && eP s op results (uns || op == 13) true ks
def eP (s : dJ) (op results : Int) (uns first : Bool) : List Ex -> Bool
 | [] => true
 | k :: r => dP s (if op = 15 /\ first = true then results else 1) uns k && eP s op results uns false r
end
def dT (s : dJ) (i : bd) : Bool :=
 if i.states = [] then dP s i.eq.names.length false i.eq.e
 else i.states.all λ q => (q.eqs.all λ e => dP s 1 true e.e) && q.ways.all λ y => dP s 1 true y.cond
def gJ (s : dJ) (b : Int) : List bd -> Option Int
 | [] => none
 | i :: r => if dT s i = true then gJ s (b + 1) r else some b
def bF (s : aK) (n : aA) : aK ⊕ Int :=
 if cN s n = true then
  match d7 0 s n.ins n.items with
  | .inr b => .inr b
  | .inl (s', vars) =>
    if (n.outs.all λ o => (n.items.flatMap aH).contains o) = true then
     match gJ ⟨s', n.funs, vars⟩ 0 n.items with
     | some b => .inr b
     | none => .inl { s' with nodes := s'.nodes ++ [(n.name, n)] }
    else .inr (-1)
 else .inr (-1)
def eC (k : Int) : aK -> List aA -> Int × Int × Int
 | _, [] => (0, 0, 0)
 | s, n :: r => match bF s n with | .inr b => (4, k, b) | .inl s' => eC (k + 1) s' r
def eG (k : Int) : aK -> List fl -> aK ⊕ Int
 | s, [] => .inl s
 | s, e :: r => if iI s e = true then eG (k + 1) (s.addEnum e) r else .inr k
def dE (made : Bool) (p : cy) : Int × Int × Int :=
 if dN made p = 0 then
  match eG 0 .new p.enums with
  | .inr i => (4, -1, i)
  | .inl s => eC 0 s p.nodes
 else (dN made p, 0, 0)
structure SgE where
 ins : List Int
 outs : List Int
structure bk where
 funs : List SgE
 sg : SgE
 vars : List (Tx × Int)
def eQ (l : Tx) (n : Nat) : Int × Int :=
 if n = 1 then (if l = [45] then (1, 1) else if l = [110, 111, 116] then (2, 2) else (0, 0))
 else if n = 2 then (if l = [43] ∨ l = [45] ∨ l = [42] ∨ l = [47] ∨ l = [37] then (1, 1) else if l = [60] ∨ l = [60, 61] then (1, 2) else if l = [61] ∨ l = [60, 62] then (0, 2) else if l = [97, 110, 100] ∨ l = [111, 114] then (2, 2) else (0, 0))
 else (0, 0)
structure TSt where
 ks : KS
 vars : List (Tx × Int)
 funs : List (Tx × SgE)
 ref : Bool
structure TCx where
 con : Tx -> Int
 sig : Tx -> Option bk
namespace TSt
def new : TSt := ⟨fp, [], [], false⟩
def add (t : TSt) : TSt := { t with ks := kB t.ks }
def is (t : TSt) (a m : Int) : TSt := { t with ks := gw t.ks a m, ref := t.ref || !gP t.ks a m }
def tie (t : TSt) (a b : Int) : TSt := { t with ks := lH t.ks a b, ref := t.ref || !jw t.ks a b }
def ties (t : TSt) (a : Int) : List Int -> TSt
 | [] => t
 | b :: l => (t.tie a b).ties a l
def same (t : TSt) (l : List Int) : TSt × Int := (t.ties (l.headD 0) l.tail, l.headD 0)
def isAll (t : TSt) (m : Int) : List Int -> TSt
 | [] => t
 | a :: l => (t.is a m).isAll m l
def adds (t : TSt) : Nat -> TSt
 | 0 => t
 | n + 1 => (t.adds n).add
def news (t : TSt) (n : Nat) : List Int := (List.range n).map λ i => ((t.ks.n + i : Nat) : Int)
def known (t : TSt) (m : Int) : TSt := t.add.is t.ks.n m
def var (t : TSt) (s : Tx) : Int := (bg t.vars s).getD 0
def standIn (t : TSt) (m : Int) : TSt := if m < 0 then t.add else t.known m
def elems (t : TSt) (fr : List (Int × Int)) : List Int -> TSt × List (Int × Int) × List Int
 | [] => (t, fr, [])
 | m :: r => match fr.lookup m with
   | some a => let u := t.elems fr r; (u.1, u.2.1, a :: u.2.2)
   | none => let u := (t.standIn m).elems (fr ++ [(m, (t.ks.n : Int))]) r; (u.1, u.2.1, (t.ks.n : Int) :: u.2.2)
def inst1 (t : TSt) (fr : List (Int × Int)) (s : SgE) : TSt × List (Int × Int) × SgE :=
 let a := t.elems fr s.ins
 let b := a.1.elems a.2.1 s.outs
 (b.1, b.2.1, ⟨a.2.2, b.2.2⟩)
def insts (t : TSt) (fr : List (Int × Int)) : List SgE -> TSt × List (Int × Int) × List SgE
 | [] => (t, fr, [])
 | s :: r =>
   let a := t.inst1 fr s
   let b := a.1.insts a.2.1 r
   (b.1, b.2.1, a.2.2 :: b.2.2)
def inst (t : TSt) (q : bk) : TSt × List SgE × SgE :=
 let a := t.insts [] q.funs
 let b := a.1.inst1 a.2.1 q.sg
 (b.1, a.2.2, b.2.2)
def agreeAll (t : TSt) : List Int -> List Int -> TSt
 | a :: l, b :: m => (t.tie a b).agreeAll l m
 | _, _ => t
def agreeL (t : TSt) (l m : List Int) : TSt := if l.length = m.length then t.agreeAll l m else { t with ref := true }
def agree (t : TSt) (r s : SgE) : TSt := (t.agreeL r.ins s.ins).agreeL r.outs s.outs
def den (cx : TCx) (t : TSt) (nm : Tx) : TSt × List SgE × SgE :=
 match bg t.funs nm with
 | some s => (t, [], s)
 | none => match cx.sig nm with
   | some q => t.inst q
   | none => (t, [], ⟨[], []⟩)
def pass (cx : TCx) (t : TSt) : List SgE -> List Tx -> TSt
 | f :: fs, c :: cs => let d := t.den cx c; (d.1.agree f d.2.2).pass cx fs cs
 | _, _ => t
def oper (t : TSt) (nm : Tx) (kids : List Int) : TSt × Int :=
 let r := eQ nm kids.length
 let u := if r.1 = 0 then (t.same kids).1 else t.isAll r.1 kids
 (u.known r.2, u.ks.n)
def value (cx : TCx) (t : TSt) (op : Int) (nm : Tx) (cs : List Tx) (kids : List Int) : TSt × Int :=
 if op = 1 then (t.known 1, t.ks.n)
 else if op = 2 then (t.known 2, t.ks.n)
 else if op = 3 then (t.known (cx.con nm), t.ks.n)
 else if op = 4 then (t, t.var nm)
 else if op = 5 ∨ op = 6 then t.oper nm kids
 else if op = 7 then (t.is (kids.headD 0) 2).same kids.tail
 else if op = 11 ∨ op = 12 then (t.is (t.var nm) (cx.con (cs.headD []))).same kids
 else t.same kids
end TSt
mutual
def dw (cx : TCx) (t : TSt) (n : Nat) : Ex -> TSt × List Int
 | .mk op nm _ cs ks =>
   if op = 14 then
    let d := t.den cx nm
    let k := bs cx (d.1.pass cx d.2.1 cs) ks
    ((k.1.adds n).agree d.2.2 ⟨k.2, k.1.news n⟩, k.1.news n)
   else if op = 15 then qI cx t n ks
   else
    let k := bs cx t ks
    let v := k.1.value cx op nm cs k.2
    (v.1, [v.2])
def bs (cx : TCx) (t : TSt) : List Ex -> TSt × List Int
 | [] => (t, [])
 | k :: r =>
   let a := dw cx t 1 k
   let b := bs cx a.1 r
   (b.1, a.2.headD 0 :: b.2)
def qI (cx : TCx) (t : TSt) (n : Nat) : List Ex -> TSt × List Int
 | [a, b] => let w := dw cx t 1 b; dw cx (w.1.is (w.2.headD 0) 2) n a
 | _ => (t, [])
end
mutual
def eM (fs : List Tx) (n : Nat) (t : TSt) : Ex -> TSt
 | .mk op nm _ _ ks =>
   aY fs op n true (if op = 14 /\ nm ∈ fs /\ bg t.funs nm = none then
    { (t.adds ks.length).adds n with funs := t.funs ++ [(nm, ⟨t.news ks.length, (t.adds ks.length).news n⟩)] } else t) ks
def aY (fs : List Tx) (op : Int) (n : Nat) (first : Bool) (t : TSt) : List Ex -> TSt
 | [] => t
 | k :: r => aY fs op n false (eM fs (if op = 15 /\ first = true then n else 1) t k) r
end
def db (t : TSt) : List Tx -> List Int -> TSt
 | s :: l, a :: r => db (t.tie (t.var s) a) l r
 | _, _ => t
def dL (cx : TCx) (t : TSt) (q : QEq) : TSt :=
 let r := dw cx t q.names.length q.e
 db r.1 q.names r.2
def cg (t : TSt) : List Tx -> TSt
 | [] => t
 | s :: l => cg { t.add with vars := t.vars ++ [(s, (t.ks.n : Int))] } l
def eD (cx : TCx) (b : Int) : TSt -> List bd -> TSt ⊕ Int
 | t, [] => .inl t
 | t, i :: r => let u := dL cx t i.eq; if u.ref = true then .inr b else eD cx (b + 1) u r
def jf (cx : TCx) (n : aA) : TSt ⊕ Int :=
 let t := n.items.foldl (λ t i => eM n.funs i.eq.names.length t i.eq.e) (cg .new (aD n))
 if t.funs.length < n.funs.length then .inr (-1) else eD cx 0 t n.items
def gN (ks : KS) (nums : List (Int × Int)) (a : Int) : List (Int × Int) × Int :=
 if 0 < ofS ks a then (nums, ofS ks a)
 else match nums.lookup (jh ks a) with
  | some x => (nums, x)
  | none => (nums ++ [(jh ks a, -((nums.length : Int) + 1))], -((nums.length : Int) + 1))
def aP (ks : KS) (nums : List (Int × Int)) : List Int -> List (Int × Int) × List Int
 | [] => (nums, [])
 | a :: l =>
   let x := gN ks nums a
   let y := aP ks x.1 l
   (y.1, x.2 :: y.2)
def ll (ks : KS) (nums : List (Int × Int)) (s : SgE) : List (Int × Int) × SgE :=
 let a := aP ks nums s.ins
 let b := aP ks a.1 s.outs
 (b.1, ⟨a.2, b.2⟩)
def aQ (ks : KS) (nums : List (Int × Int)) : List SgE -> List (Int × Int) × List SgE
 | [] => (nums, [])
 | s :: l =>
   let x := ll ks nums s
   let y := aQ ks x.1 l
   (y.1, x.2 :: y.2)
def jA (t : TSt) (n : aA) : bk :=
 let f := aQ t.ks [] (n.funs.map λ s => (bg t.funs s).getD ⟨[], []⟩)
 let g := ll t.ks f.1 ⟨n.ins.map t.var, n.outs.map t.var⟩
 let v := aP t.ks g.1 ((aD n).map t.var)
 ⟨f.2, g.2, (aD n).zip v.2⟩
mutual
def dK : Ex -> Bool
 | .mk op _ _ _ ks => op == 13 || gV ks
def gV : List Ex -> Bool
 | [] => false
 | k :: r => dK k || gV r
end
def gK (n : aA) : Bool := n.items.any λ i => !i.states.isEmpty || dK i.eq.e
def dB (con : Tx -> Int) (k : Int) : List (Tx × bk) -> List aA -> List bk × (Int × Int × Int)
 | l, [] => (l.map Prod.snd, (0, 0, 0))
 | l, n :: r => match jf ⟨con, bg l⟩ n with
   | .inr b => ([], (5, k, b))
   | .inl t => dB con (k + 1) (l ++ [(n.name, jA t n)]) r
def eE (con : Tx -> Int) (p : cy) : List bk × (Int × Int × Int) :=
 if dE true p = (0, 0, 0) then
  if p.nodes.any gK = true then ([], (1, 0, 0)) else dB con 0 [] p.nodes
 else ([], dE true p)
namespace TSt
theorem adds_n (t : TSt) : ∀ n, (t.adds n).ks.n = t.ks.n + n
 | 0 => rfl
 | n + 1 => by show (t.adds n).ks.n + 1 = _; rw [adds_n t n]; omega
theorem adds_vars (t : TSt) : ∀ n, (t.adds n).vars = t.vars /\ (t.adds n).funs = t.funs /\ (t.adds n).ref = t.ref
 | 0 => ⟨rfl, rfl, rfl⟩
 | n + 1 => adds_vars t n
theorem news_len (t : TSt) (n : Nat) : (t.news n).length = n := by simp [news]
theorem news_succ (t : TSt) (n : Nat) : t.news (n + 1) = t.news n ++ [((t.adds n).ks.n : Int)] := by rw [adds_n]; simp [news, List.range_succ]
theorem ties_app (t : TSt) (a : Int) (l m : List Int) : t.ties a (l ++ m) = (t.ties a l).ties a m := by
 induction l generalizing t with
 | nil => rfl
 | cons x r ih => exact ih _
theorem isAll_app (t : TSt) (a : Int) (l m : List Int) : t.isAll a (l ++ m) = (t.isAll a l).isAll a m := by
 induction l generalizing t with
 | nil => rfl
 | cons x r ih => exact ih _
theorem agreeAll_snoc (t : TSt) : ∀ (l m : List Int), l.length = m.length -> ∀ a b, t.agreeAll (l ++ [a]) (m ++ [b]) = (t.agreeAll l m).tie a b := by
 intro l; induction l generalizing t with
 | nil => intro m hm a b; cases m with | nil => rfl | cons _ _ => simp at hm
 | cons x r ih =>
   intro m hm a b; cases m with
   | nil => simp at hm
   | cons y s => exact ih _ s (by simpa using hm) a b
end TSt
end Go.Proofs.YtccihplmmfmonaaGreatDoor
