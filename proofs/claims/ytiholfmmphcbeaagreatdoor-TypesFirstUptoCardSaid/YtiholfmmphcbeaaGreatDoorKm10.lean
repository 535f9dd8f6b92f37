import Derived.Lib.ItoaNum
import Derived.Test.YtiholfmmphcbeaaGreatDoorKm04
import Derived.Test.YtiholfmmphcbeaaGreatDoorKm09
namespace Go.Proofs.YtiholfmmphcbeaaGreatDoor
open Go.RowKit (wrap64)
abbrev Tx := List UInt8
inductive Ex where
 | mk (op : Int) (name : Tx) (n : Int) (cons : List Tx) (kids : List Ex)
def Ex.op : Ex -> Int | .mk o _ _ _ _ => o
def Ex.kids : Ex -> List Ex | .mk _ _ _ _ k => k
structure QEq where
 names : List Tx
 e : Ex
structure iO where
 cond : Ex
 to : Tx
structure aZ where
 name : Tx
 eqs : List QEq
 ways : List iO
structure bf where
 eq : QEq
 states : List aZ
structure fo where
 name : Tx
 cons : List Tx
structure aA where
 name : Tx
 funs : List Tx
 ins : List Tx
 outs : List Tx
 items : List bf
structure cg where
 enums : List fo
 nodes : List aA
theorem Ex.ind {P : Ex -> Prop} (h : ∀ op nm n cs ks, (∀ k ∈ ks, P k) -> P (.mk op nm n cs ks)) : ∀ x, P x
 | .mk op nm n cs ks => h op nm n cs ks λ k _ => Ex.ind h k
termination_by x => SizeOf.sizeOf x
decreasing_by
 have := List.sizeOf_lt_of_mem ‹k ∈ ks›
 simp
 omega
mutual
def oc : Ex -> Int
 | .mk _ _ _ _ ks => gw 1 ks
def gw : Int -> List Ex -> Int
 | n, [] => n
 | n, k :: r => gw (wrap64 (n + oc k)) r
end
mutual
def lV : Ex -> Int
 | .mk _ _ _ _ ks => wrap64 (fR 0 ks + 1)
def fR : Int -> List Ex -> Int
 | n, [] => n
 | n, k :: r => fR (max n (lV k)) r
end
theorem AJ (l m : List Ex) : ∀ n, gw n (l ++ m) = gw (gw n l) m := by
 induction l with
 | nil => intro n; simp [gw]
 | cons k r ih => intro n; simp [gw, ih]
theorem xr (n : Int) (l : List Ex) (k : Ex) : gw n (l ++ [k]) = wrap64 (gw n l + oc k) := by
 rw [AJ]; simp [gw]
theorem yG (l m : List Ex) : ∀ n, fR n (l ++ m) = fR (fR n l) m := by
 induction l with
 | nil => intro n; simp [fR]
 | cons k r ih => intro n; simp [fR, ih]
theorem wj (n : Int) (l : List Ex) (k : Ex) : fR n (l ++ [k]) = max (fR n l) (lV k) := by
 rw [yG]; simp [fR]
mutual
def ml : Ex -> Ex -> Bool
 | .mk o a n c k, .mk o' a' n' c' k' => o == o' && a == a' && n == n' && c == c' && pO k k'
def pO : List Ex -> List Ex -> Bool
 | [], [] => true
 | [], _ :: _ => false
 | _ :: _, [] => false
 | x :: r, y :: s => ml x y && pO r s
end
def dm {X : Type} (f : X -> X -> Bool) : List X -> List X -> Bool
 | [], [] => true
 | [], _ :: _ => false
 | _ :: _, [] => false
 | x :: r, y :: s => f x y && dm f r s
theorem xx {X : Type} {f : X -> X -> Bool} (hf : ∀ x y, f x y = true ↔ x = y) (l l' : List X) : dm f l l' = true ↔ l = l' := by
 induction l generalizing l' with
 | nil => cases l' <;> simp [dm]
 | cons x r ih => cases l' <;> simp [dm, ih, hf]
theorem AL (l l' : List Ex) : pO l l' = dm ml l l' := by
 induction l generalizing l' with
 | nil => cases l' <;> simp [pO, dm]
 | cons x r ih => cases l' <;> simp [pO, dm, ih]
theorem xw {X : Type} {f : X -> X -> Bool} {l l' : List X} (h : l.length ≠ l'.length) : dm f l l' = false := by
 induction l generalizing l' with
 | nil => cases l' <;> simp_all [dm]
 | cons x r ih =>
   cases l' with
   | nil => simp [dm]
   | cons y s =>
     have : dm f r s = false := ih (λ e => h (by simp [e])); simp [dm, this]
theorem xy {X : Type} {f : X -> X -> Bool} {l l' : List X} (hl : l.length = l'.length) (h : ∀ (i : Nat) x y, l[i]? = some x -> l'[i]? = some y -> f x y = true) : dm f l l' = true := by
 induction l generalizing l' with
 | nil => cases l' <;> simp_all [dm]
 | cons x r ih =>
   cases l' with
   | nil => simp at hl
   | cons y s => simp only [dm, h 0 x y rfl rfl, Bool.true_and]; exact ih (by simpa using hl) (λ i a b ha hb => h (i + 1) a b ha hb)
theorem AM {X : Type} {f : X -> X -> Bool} {l l' : List X} {i : Nat} {x y : X} (hx : l[i]? = some x) (hy : l'[i]? = some y) (h : f x y = false) : dm f l l' = false := by
 induction l generalizing l' i with
 | nil => simp at hx
 | cons a r ih =>
   cases l' with
   | nil => simp at hy
   | cons b s =>
     cases i with
     | zero => simp at hx hy; subst hx hy; simp [dm, h]
     | succ i => simp at hx hy; simp [dm, ih hx hy]
def putL : Bool -> List Tx -> Tx
 | _, [] => []
 | false, t :: r => t ++ putL true r
 | true, t :: r => 32 :: (t ++ putL true r)
def jK (made : Bool) (l : Tx) : Tx := if made && [95].isPrefixOf l then l.drop 1 else l
def cM (made : Bool) (l : Tx) : Bool := zF (jK made l)
def jr (made : Bool) (l : Tx) : Bool := Gf (jK made l)
def fp {X : Type} (l : List X) (least most : Nat) (f : X -> Bool) : Bool := decide (least <= l.length) && decide (l.length <= most) && l.all f
def wE : List Tx := [[43], [45], [42], [47], [37], [60], [60, 61], [61], [60, 62], [97, 110, 100], [111, 114]]
def br (made : Bool) (op : Int) (nm : Tx) (n : Int) (cs : List Tx) (ks : List Ex) : Bool :=
 if op = 1 then nm == [] && decide (0 <= n) && cs.isEmpty && ks.isEmpty
 else if op = 2 then nm == [] && (decide (0 <= n) && decide (n <= 1)) && cs.isEmpty && ks.isEmpty
 else if op = 3 then jr made nm && n == 0 && cs.isEmpty && ks.isEmpty
 else if op = 4 then cM made nm && n == 0 && cs.isEmpty && ks.isEmpty
 else if op = 5 then [[110, 111, 116], [45]].contains nm && n == 0 && cs.isEmpty && ks.length == 1
 else if op = 6 then wE.contains nm && n == 0 && cs.isEmpty && ks.length == 2
 else if op = 7 then nm == [] && n == 0 && cs.isEmpty && ks.length == 3
 else if op = 8 then nm == [] && n == 0 && cs.isEmpty && ks.length == 2
 else if op = 9 then nm == [] && n == 0 && cs.isEmpty && ks.length == 1
 else if op = 10 then nm == [] && n == 0 && cs.isEmpty && ks.length == 2
 else if op = 11 then cM made nm && n == 0 && fp cs 1 1 (jr made) && ks.length == 1
 else if op = 12 then cM made nm && n == 0 && fp cs 1 8 (jr made) && ks.length == cs.length
 else if op = 13 then cM made nm && n == 0 && fp cs 1 8 (jr made) && ks.length == cs.length
 else if op = 14 then cM made nm && n == 0 && fp cs 0 6 (cM made) && (decide (1 <= ks.length) && decide (ks.length <= 6))
 else if op = 15 then nm == [] && n == 0 && cs.isEmpty && (ks.length == 2 && (ks.headD (.mk 0 [] 0 [] [])).op == 14)
 else false
mutual
def bI (made : Bool) : Ex -> Bool
 | .mk op nm n cs ks => br made op nm n cs ks && kN made ks
def kN (made : Bool) : List Ex -> Bool
 | [] => true
 | k :: r => bI made k && kN made r
end
theorem jR (made : Bool) (l : List Ex) : kN made l = l.all (bI made) := by
 induction l with
 | nil => rfl
 | cons k r ih => simp [kN, ih]
def fu (made : Bool) (q : QEq) : Bool := fp q.names 1 6 (cM made) && bI made q.e
def jS (made : Bool) (y : iO) : Bool := jr made y.to && bI made y.cond
def fO (made : Bool) (s : aZ) : Bool := jr made s.name && (fp s.eqs 0 24 (fu made) && fp s.ways 0 4 (jS made))
def su : Ex := .mk 0 [] 0 [] []
def cJ (made : Bool) (i : bf) : Bool := if i.states = [] then fu made i.eq else i.eq.names.isEmpty && (ml i.eq.e su && fp i.states 1 8 (fO made))
def kO (made : Bool) (e : fo) : Bool := cM made e.name && fp e.cons 1 8 (jr made)
def eV (made : Bool) : Nat := if made then 9223372036854775807 else 24
def eX (made : Bool) : Nat := if made then 32 else 8
def fg (made : Bool) (n : aA) : Bool := cM made n.name && (fp n.funs 0 6 (cM made) && (fp n.ins 1 6 (cM made) && (fp n.outs 1 6 (cM made) && fp n.items 0 (eV made) (cJ made))))
def gR (made : Bool) (p : cg) : Bool := fp p.enums 0 (eX made) (kO made) && fp p.nodes 1 16 (fg made)
def fM (s : aZ) : List Ex := s.eqs.map QEq.e ++ s.ways.map iO.cond
def gY (i : bf) : List Ex := (if i.states = [] then [i.eq.e] else []) ++ i.states.flatMap fM
def gb (n : aA) : List Ex := n.items.flatMap gY
def iL : Int -> List Ex -> Bool
 | s, [] => decide (300 < s)
 | s, x :: r => if 40 < lV x then true else iL (wrap64 (s + oc x)) r
def gu (n : aA) : Bool := iL 0 (gb n)
def dn (made : Bool) (p : cg) : Int := if gR made p then (if p.nodes.any gu then 9 else 0) else 10
end Go.Proofs.YtiholfmmphcbeaaGreatDoor
namespace Go.Proofs.YtiholfmmphcbeaaGreatDoor
def aV : List Tx -> List Tx -> Bool
 | _, [] => true
 | m, s :: r => !m.contains s && aV (m ++ [s]) r
theorem dd (m : List Tx) (s : Tx) (r : List Tx) : aV m (s :: r) = (!m.contains s && aV (m ++ [s]) r) := rfl
theorem AR (a b : List Tx) : ∀ m, aV m (a ++ b) = (aV m a && aV (m ++ a) b) := by
 induction a with
 | nil => intro m; simp [aV]
 | cons x r ih => intro m; simp [aV, ih, Bool.and_assoc]
theorem kQ (l : List Tx) : ∀ m, m.Nodup -> (aV m l = true ↔ (m ++ l).Nodup) := by
 induction l with
 | nil => intro m hm; simp [aV, hm]
 | cons x r ih =>
   intro m hm; rw [dd, Bool.and_eq_true, Bool.not_eq_true', <- Bool.not_eq_true, List.contains_iff_mem]; constructor
   . rintro ⟨h1, h2⟩; have := (ih (m ++ [x]) (by rw [List.nodup_append]; exact ⟨hm, by simp, λ a ha b hb => by simp at hb; subst hb; intro e; subst e; exact h1 ha⟩)).1 h2; simpa using this
   . intro h; have h1 : x ∉ m := by
      rw [List.nodup_append] at h; intro hx; exact h.2.2 x hx x (by simp) rfl
     refine ⟨h1, (ih (m ++ [x]) ?_).2 (by simpa using h)⟩; rw [List.nodup_append]; exact ⟨hm, by simp, λ a ha b hb => by simp at hb; subst hb; intro e; subst e; exact h1 ha⟩
def aH (i : bf) : List Tx :=
 match i.states with
 | [] => i.eq.names
 | s :: _ => s.eqs.flatMap QEq.names
def aG (n : aA) : List Tx := n.ins ++ n.items.flatMap aH
def pX : List Tx -> List QEq -> Option (List Tx)
 | m, [] => some m
 | m, q :: r => if q.names.length = 1 /\ aV m q.names = true then pX (m ++ q.names) r else none
def eL (s : aZ) : Option (List Tx) := pX [] s.eqs
def fX (a b : List Tx) : Bool := a.length == b.length && a.all b.contains
def lQ (s : aZ) (names : List Tx) : Bool := s.ways.all λ y => names.contains y.to
structure aK where
 enums : List Tx
 cons : List (Tx × List Tx)
 nodes : List (Tx × aA)
 states : List Tx
def aK.conKeys (s : aK) : List Tx := s.cons.map Prod.fst
def aK.nodeKeys (s : aK) : List Tx := s.nodes.map Prod.fst
def eH : List Tx := [[70, 97, 108, 115, 101], [84, 114, 117, 101]]
def aK.new : aK := ⟨[], eH.map λ c => (c, eH), [], []⟩
def aK.addEnum (s : aK) (e : fo) : aK := { s with enums := s.enums ++ [e.name], cons := s.cons ++ e.cons.map λ c => (c, e.cons) }
def iM (s : aK) (e : fo) : Bool := aV s.enums [e.name] && aV s.conKeys e.cons
def cN (s : aK) (n : aA) : Bool :=
 !s.nodeKeys.contains n.name && (aV [] (n.funs ++ n.ins) && (aV [] n.outs && !n.funs.any λ f => f == n.name || s.nodeKeys.contains f))
def cl (s : aK) (l : List aZ) : Bool :=
 !((l.map aZ.name).any s.conKeys.contains) && (aV s.states (l.map aZ.name) && l.all λ q =>
   match eL q with
   | none => false
   | some own => fX own (((l.head?.bind eL).getD [])) && lQ q (l.map aZ.name))
def de (s : aK) (vars : List Tx) (i : bf) : Bool :=
 aV vars (aH i) && (if i.states = [] then i.eq.names.length == 1 || (i.eq.e.op == 14 || i.eq.e.op == 15) else cl s i.states)
def aK.addItem (s : aK) (i : bf) : aK := { s with states := s.states ++ i.states.map aZ.name }
def ef (b : Int) : aK -> List Tx -> List bf -> (aK × List Tx) ⊕ Int
 | s, vars, [] => .inl (s, vars)
 | s, vars, i :: r => if de s vars i = true then ef (b + 1) (s.addItem i) (vars ++ aH i) r else .inr b
structure dM where
 prog : aK
 funs : List Tx
 vars : List Tx
def bl {X : Type} (l : List (Tx × X)) (s : Tx) : Option X := (l.find? λ p => p.1 == s).map Prod.snd
def jD (s : dM) (f : Tx) : Bool := s.funs.contains f || (match bl s.prog.nodes f with | some n => n.funs.isEmpty | none => false)
def ez (s : dM) (l : List Tx) : Bool :=
 match l with
 | [] => false
 | c :: _ => match bl s.prog.cons c with | some cs => l == cs | none => false
def ip (s : dM) (nm : Tx) (cs : List Tx) (k : Nat) (results : Int) : Bool :=
 if s.funs.contains nm then cs.isEmpty
 else match bl s.prog.nodes nm with
  | none => false
  | some n => n.ins.length == k && (n.funs.length == cs.length && ((n.outs.length : Int) == results && cs.all (jD s)))
def bg (s : dM) (op : Int) (nm : Tx) (cs : List Tx) (k : Nat) (results : Int) (uns : Bool) : Bool :=
 if op = 4 then s.vars.contains nm
 else if op = 3 then s.prog.conKeys.contains nm
 else if op = 11 then !uns && (s.vars.contains nm && s.prog.conKeys.contains (cs.headD []))
 else if op = 12 then !uns && (s.vars.contains nm && ez s cs)
 else if op = 13 then !uns && (s.vars.contains nm && ez s cs)
 else if op = 14 then ip s nm cs k results
 else true
mutual
def dV (s : dM) (results : Int) (uns : Bool) : Ex -> Bool
 | .mk op nm _ cs ks => bg s op nm cs ks.length results uns && eQ s op results (uns || op == 13) true ks
def eQ (s : dM) (op results : Int) (uns first : Bool) : List Ex -> Bool
 | [] => true
 | k :: r => dV s (if op = 15 /\ first = true then results else 1) uns k && eQ s op results uns false r
end
def dY (s : dM) (i : bf) : Bool :=
 if i.states = [] then dV s i.eq.names.length false i.eq.e
 else i.states.all λ q => (q.eqs.all λ e => dV s 1 true e.e) && q.ways.all λ y => dV s 1 true y.cond
def gN (s : dM) (b : Int) : List bf -> Option Int
 | [] => none
 | i :: r => if dY s i = true then gN s (b + 1) r else some b
def bu (s : aK) (n : aA) : aK ⊕ Int :=
 if cN s n = true then
  match ef 0 s n.ins n.items with
  | .inr b => .inr b
  | .inl (s', vars) =>
    if (n.outs.all λ o => (n.items.flatMap aH).contains o) = true then
     match gN ⟨s', n.funs, vars⟩ 0 n.items with
     | some b => .inr b
     | none => .inl { s' with nodes := s'.nodes ++ [(n.name, n)] }
    else .inr (-1)
 else .inr (-1)
def dE (k : Int) : aK -> List aA -> Int × Int × Int
 | _, [] => (0, 0, 0)
 | s, n :: r => match bu s n with | .inr b => (4, k, b) | .inl s' => dE (k + 1) s' r
def eG (k : Int) : aK -> List fo -> aK ⊕ Int
 | s, [] => .inl s
 | s, e :: r => if iM s e = true then eG (k + 1) (s.addEnum e) r else .inr k
def cO (made : Bool) (p : cg) : Int × Int × Int :=
 if dn made p = 0 then
  match eG 0 .new p.enums with
  | .inr i => (4, -1, i)
  | .inl s => dE 0 s p.nodes
 else (dn made p, 0, 0)
structure SgE where
 ins : List Int
 outs : List Int
structure bz where
 funs : List SgE
 sg : SgE
 vars : List (Tx × Int)
def eR (l : Tx) (n : Nat) : Int × Int :=
 if n = 1 then (if l = [45] then (1, 1) else if l = [110, 111, 116] then (2, 2) else (0, 0))
 else if n = 2 then (if l = [43] ∨ l = [45] ∨ l = [42] ∨ l = [47] ∨ l = [37] then (1, 1) else if l = [60] ∨ l = [60, 61] then (1, 2) else if l = [61] ∨ l = [60, 62] then (0, 2) else if l = [97, 110, 100] ∨ l = [111, 114] then (2, 2) else (0, 0))
 else (0, 0)
structure TSt where
 ks : KS
 vars : List (Tx × Int)
 funs : List (Tx × SgE)
 ref : Bool
structure TCx where
 con : Tx -> Int
 sig : Tx -> Option bz
namespace TSt
def new : TSt := ⟨fw, [], [], false⟩
def add (t : TSt) : TSt := { t with ks := kD t.ks }
def is (t : TSt) (a m : Int) : TSt := { t with ks := gy t.ks a m, ref := t.ref || !gU t.ks a m }
def tie (t : TSt) (a b : Int) : TSt := { t with ks := lJ t.ks a b, ref := t.ref || !jA t.ks a b }
def ties (t : TSt) (a : Int) : List Int -> TSt
 | [] => t
 | b :: l => (t.tie a b).ties a l
def same (t : TSt) (l : List Int) : TSt × Int := (t.ties (l.headD 0) l.tail, l.headD 0)
def isAll (t : TSt) (m : Int) : List Int -> TSt
 | [] => t
 | a :: l => (t.is a m).isAll m l
def adds (t : TSt) : Nat -> TSt
 | 0 => t
 | n + 1 => (t.adds n).add
def news (t : TSt) (n : Nat) : List Int := (List.range n).map λ i => ((t.ks.n + i : Nat) : Int)
def known (t : TSt) (m : Int) : TSt := t.add.is t.ks.n m
def var (t : TSt) (s : Tx) : Int := (bl t.vars s).getD 0
def standIn (t : TSt) (m : Int) : TSt := if m < 0 then t.add else t.known m
def elems (t : TSt) (fr : List (Int × Int)) : List Int -> TSt × List (Int × Int) × List Int
 | [] => (t, fr, [])
 | m :: r => match fr.lookup m with
   | some a => let u := t.elems fr r; (u.1, u.2.1, a :: u.2.2)
   | none => let u := (t.standIn m).elems (fr ++ [(m, (t.ks.n : Int))]) r; (u.1, u.2.1, (t.ks.n : Int) :: u.2.2)
def inst1 (t : TSt) (fr : List (Int × Int)) (s : SgE) : TSt × List (Int × Int) × SgE :=
 let a := t.elems fr s.ins
 let b := a.1.elems a.2.1 s.outs
 (b.1, b.2.1, ⟨a.2.2, b.2.2⟩)
def insts (t : TSt) (fr : List (Int × Int)) : List SgE -> TSt × List (Int × Int) × List SgE
 | [] => (t, fr, [])
 | s :: r =>
   let a := t.inst1 fr s
   let b := a.1.insts a.2.1 r
   (b.1, b.2.1, a.2.2 :: b.2.2)
def inst (t : TSt) (q : bz) : TSt × List SgE × SgE :=
 let a := t.insts [] q.funs
 let b := a.1.inst1 a.2.1 q.sg
 (b.1, a.2.2, b.2.2)
def agreeAll (t : TSt) : List Int -> List Int -> TSt
 | a :: l, b :: m => (t.tie a b).agreeAll l m
 | _, _ => t
def agreeL (t : TSt) (l m : List Int) : TSt := if l.length = m.length then t.agreeAll l m else { t with ref := true }
def agree (t : TSt) (r s : SgE) : TSt := (t.agreeL r.ins s.ins).agreeL r.outs s.outs
def den (cx : TCx) (t : TSt) (nm : Tx) : TSt × List SgE × SgE :=
 match bl t.funs nm with
 | some s => (t, [], s)
 | none => match cx.sig nm with
   | some q => t.inst q
   | none => (t, [], ⟨[], []⟩)
def pass (cx : TCx) (t : TSt) : List SgE -> List Tx -> TSt
 | f :: fs, c :: cs => let d := t.den cx c; (d.1.agree f d.2.2).pass cx fs cs
 | _, _ => t
def oper (t : TSt) (nm : Tx) (kids : List Int) : TSt × Int :=
 let r := eR nm kids.length
 let u := if r.1 = 0 then (t.same kids).1 else t.isAll r.1 kids
 (u.known r.2, u.ks.n)
def value (cx : TCx) (t : TSt) (op : Int) (nm : Tx) (cs : List Tx) (kids : List Int) : TSt × Int :=
 if op = 1 then (t.known 1, t.ks.n)
 else if op = 2 then (t.known 2, t.ks.n)
 else if op = 3 then (t.known (cx.con nm), t.ks.n)
 else if op = 4 then (t, t.var nm)
 else if op = 5 ∨ op = 6 then t.oper nm kids
 else if op = 7 then (t.is (kids.headD 0) 2).same kids.tail
 else if op = 11 ∨ op = 12 then (t.is (t.var nm) (cx.con (cs.headD []))).same kids
 else t.same kids
end TSt
mutual
def dA (cx : TCx) (t : TSt) (n : Nat) : Ex -> TSt × List Int
 | .mk op nm _ cs ks =>
   if op = 14 then
    let d := t.den cx nm
    let k := bt cx (d.1.pass cx d.2.1 cs) ks
    ((k.1.adds n).agree d.2.2 ⟨k.2, k.1.news n⟩, k.1.news n)
   else if op = 15 then qz cx t n ks
   else
    let k := bt cx t ks
    let v := k.1.value cx op nm cs k.2
    (v.1, [v.2])
def bt (cx : TCx) (t : TSt) : List Ex -> TSt × List Int
 | [] => (t, [])
 | k :: r =>
   let a := dA cx t 1 k
   let b := bt cx a.1 r
   (b.1, a.2.headD 0 :: b.2)
def qz (cx : TCx) (t : TSt) (n : Nat) : List Ex -> TSt × List Int
 | [a, b] => let w := dA cx t 1 b; dA cx (w.1.is (w.2.headD 0) 2) n a
 | _ => (t, [])
end
mutual
def eM (fs : List Tx) (n : Nat) (t : TSt) : Ex -> TSt
 | .mk op nm _ _ ks =>
   aY fs op n true (if op = 14 /\ nm ∈ fs /\ bl t.funs nm = none then
    { (t.adds ks.length).adds n with funs := t.funs ++ [(nm, ⟨t.news ks.length, (t.adds ks.length).news n⟩)] } else t) ks
def aY (fs : List Tx) (op : Int) (n : Nat) (first : Bool) (t : TSt) : List Ex -> TSt
 | [] => t
 | k :: r => aY fs op n false (eM fs (if op = 15 /\ first = true then n else 1) t k) r
end
def df (t : TSt) : List Tx -> List Int -> TSt
 | s :: l, a :: r => df (t.tie (t.var s) a) l r
 | _, _ => t
def dO (cx : TCx) (t : TSt) (q : QEq) : TSt :=
 let r := dA cx t q.names.length q.e
 df r.1 q.names r.2
def cz (t : TSt) : List Tx -> TSt
 | [] => t
 | s :: l => cz { t.add with vars := t.vars ++ [(s, (t.ks.n : Int))] } l
def eE (cx : TCx) (b : Int) : TSt -> List bf -> TSt ⊕ Int
 | t, [] => .inl t
 | t, i :: r => let u := dO cx t i.eq; if u.ref = true then .inr b else eE cx (b + 1) u r
def jk (cx : TCx) (n : aA) : TSt ⊕ Int :=
 let t := n.items.foldl (λ t i => eM n.funs i.eq.names.length t i.eq.e) (cz .new (aG n))
 if t.funs.length < n.funs.length then .inr (-1) else eE cx 0 t n.items
def iW (ks : KS) (nums : List (Int × Int)) (a : Int) : List (Int × Int) × Int :=
 if 0 < ofS ks a then (nums, ofS ks a)
 else match nums.lookup (j5 ks a) with
  | some x => (nums, x)
  | none => (nums ++ [(j5 ks a, -((nums.length : Int) + 1))], -((nums.length : Int) + 1))
def a7 (ks : KS) (nums : List (Int × Int)) : List Int -> List (Int × Int) × List Int
 | [] => (nums, [])
 | a :: l =>
   let x := iW ks nums a
   let y := a7 ks x.1 l
   (y.1, x.2 :: y.2)
def oM (ks : KS) (nums : List (Int × Int)) (s : SgE) : List (Int × Int) × SgE :=
 let a := a7 ks nums s.ins
 let b := a7 ks a.1 s.outs
 (b.1, ⟨a.2, b.2⟩)
def aT (ks : KS) (nums : List (Int × Int)) : List SgE -> List (Int × Int) × List SgE
 | [] => (nums, [])
 | s :: l =>
   let x := oM ks nums s
   let y := aT ks x.1 l
   (y.1, x.2 :: y.2)
def oq (t : TSt) (n : aA) : bz :=
 let f := aT t.ks [] (n.funs.map λ s => (bl t.funs s).getD ⟨[], []⟩)
 let g := oM t.ks f.1 ⟨n.ins.map t.var, n.outs.map t.var⟩
 let v := a7 t.ks g.1 ((aG n).map t.var)
 ⟨f.2, g.2, (aG n).zip v.2⟩
mutual
def dN : Ex -> Bool
 | .mk op _ _ _ ks => op == 13 || hH ks
def hH : List Ex -> Bool
 | [] => false
 | k :: r => dN k || hH r
end
def f7 (n : aA) : Bool := n.items.any λ i => !i.states.isEmpty || dN i.eq.e
def b9 (con : Tx -> Int) (k : Int) : List (Tx × bz) -> List aA -> List bz × (Int × Int × Int)
 | l, [] => (l.map Prod.snd, (0, 0, 0))
 | l, n :: r => match jk ⟨con, bl l⟩ n with
   | .inr b => ([], (5, k, b))
   | .inl t => b9 con (k + 1) (l ++ [(n.name, oq t n)]) r
def dR (con : Tx -> Int) (p : cg) : List bz × (Int × Int × Int) :=
 if cO true p = (0, 0, 0) then
  if p.nodes.any f7 = true then ([], (1, 0, 0)) else b9 con 0 [] p.nodes
 else ([], cO true p)
namespace TSt
theorem adds_n (t : TSt) : ∀ n, (t.adds n).ks.n = t.ks.n + n
 | 0 => rfl
 | n + 1 => by show (t.adds n).ks.n + 1 = _; rw [adds_n t n]; omega
theorem adds_vars (t : TSt) : ∀ n, (t.adds n).vars = t.vars /\ (t.adds n).funs = t.funs /\ (t.adds n).ref = t.ref
 | 0 => ⟨rfl, rfl, rfl⟩
 | n + 1 => adds_vars t n
theorem news_len (t : TSt) (n : Nat) : (t.news n).length = n := by simp [news]
theorem news_succ (t : TSt) (n : Nat) : t.news (n + 1) = t.news n ++ [((t.adds n).ks.n : Int)] := by rw [adds_n]; simp [news, List.range_succ]
theorem ties_app (t : TSt) (a : Int) (l m : List Int) : t.ties a (l ++ m) = (t.ties a l).ties a m := by
 induction l generalizing t with
 | nil => rfl
 | cons x r ih => exact ih _
theorem isAll_app (t : TSt) (a : Int) (l m : List Int) : t.isAll a (l ++ m) = (t.isAll a l).isAll a m := by
 induction l generalizing t with
 | nil => rfl
 | cons x r ih => exact ih _
theorem agreeAll_snoc (t : TSt) : ∀ (l m : List Int), l.length = m.length -> ∀ a b, t.agreeAll (l ++ [a]) (m ++ [b]) = (t.agreeAll l m).tie a b := by
 intro l; induction l generalizing t with
 | nil => intro m hm a b; cases m with | nil => rfl | cons _ _ => simp at hm
 | cons x r ih =>
   intro m hm a b; cases m with
   | nil => simp at hm
   | cons y s => exact ih _ s (by simpa using hm) a b
end TSt
end Go.Proofs.YtiholfmmphcbeaaGreatDoor
