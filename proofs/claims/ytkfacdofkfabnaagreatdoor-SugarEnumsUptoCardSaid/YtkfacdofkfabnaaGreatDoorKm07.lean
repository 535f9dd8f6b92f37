import Derived.Lib.ItoaNum
import Derived.Test.YtkfacdofkfabnaaGreatDoorKm06
namespace Go.Proofs.YtkfacdofkfabnaaGreatDoor
open Go.RowKit (wrap64)
abbrev Tx := List UInt8
inductive Ex where
 | mk (op : Int) (name : Tx) (n : Int) (cons : List Tx) (kids : List Ex)
def Ex.op : Ex -> Int | .mk o _ _ _ _ => o
def Ex.kids : Ex -> List Ex | .mk _ _ _ _ k => k
structure QEq where
 names : List Tx
 e : Ex
structure eO where
 cond : Ex
 to : Tx
structure aM where
 name : Tx
 eqs : List QEq
 ways : List eO
structure a8 where
 eq : QEq
 states : List aM
structure dw where
 name : Tx
 cons : List Tx
structure aY where
 name : Tx
 funs : List Tx
 ins : List Tx
 outs : List Tx
 items : List a8
structure cZ where
 enums : List dw
 nodes : List aY
theorem Ex.ind {P : Ex -> Prop} (h : ∀ op nm n cs ks, (∀ k ∈ ks, P k) -> P (.mk op nm n cs ks)) : ∀ x, P x
 | .mk op nm n cs ks => h op nm n cs ks λ k _ => Ex.ind h k
termination_by x => SizeOf.sizeOf x
decreasing_by
 have := List.sizeOf_lt_of_mem ‹k ∈ ks›
 simp
 omega
mutual
def rO : Ex -> Int
 | .mk _ _ _ _ ks => iK 1 ks
def iK : Int -> List Ex -> Int
 | n, [] => n
 | n, k :: r => iK (wrap64 (n + rO k)) r
end
mutual
def lQ : Ex -> Int
 | .mk _ _ _ _ ks => wrap64 (fL 0 ks + 1)
def fL : Int -> List Ex -> Int
 | n, [] => n
 | n, k :: r => fL (max n (lQ k)) r
end
theorem Bp (l m : List Ex) : ∀ n, iK n (l ++ m) = iK (iK n l) m := by
 induction l with
 | nil => intro n; simp [iK]
 | cons k r ih => intro n; simp [iK, ih]
theorem xE (n : Int) (l : List Ex) (k : Ex) : iK n (l ++ [k]) = wrap64 (iK n l + rO k) := by
 rw [Bp]; simp [iK]
theorem yX (l m : List Ex) : ∀ n, fL n (l ++ m) = fL (fL n l) m := by
 induction l with
 | nil => intro n; simp [fL]
 | cons k r ih => intro n; simp [fL, ih]
theorem wE (n : Int) (l : List Ex) (k : Ex) : fL n (l ++ [k]) = max (fL n l) (lQ k) := by
 rw [yX]; simp [fL]
mutual
def ma : Ex -> Ex -> Bool
 | .mk o a n c k, .mk o' a' n' c' k' => o == o' && a == a' && n == n' && c == c' && pO k k'
def pO : List Ex -> List Ex -> Bool
 | [], [] => true
 | [], _ :: _ => false
 | _ :: _, [] => false
 | x :: r, y :: s => ma x y && pO r s
end
def dB {X : Type} (f : X -> X -> Bool) : List X -> List X -> Bool
 | [], [] => true
 | [], _ :: _ => false
 | _ :: _, [] => false
 | x :: r, y :: s => f x y && dB f r s
theorem xM {X : Type} {f : X -> X -> Bool} (hf : ∀ x y, f x y = true ↔ x = y) (l l' : List X) : dB f l l' = true ↔ l = l' := by
 induction l generalizing l' with
 | nil => cases l' <;> simp [dB]
 | cons x r ih => cases l' <;> simp [dB, ih, hf]
theorem Bw (l l' : List Ex) : pO l l' = dB ma l l' := by
 induction l generalizing l' with
 | nil => cases l' <;> simp [pO, dB]
 | cons x r ih => cases l' <;> simp [pO, dB, ih]
theorem xL {X : Type} {f : X -> X -> Bool} {l l' : List X} (h : l.length ≠ l'.length) : dB f l l' = false := by
 induction l generalizing l' with
 | nil => cases l' <;> simp_all [dB]
 | cons x r ih =>
   cases l' with
   | nil => simp [dB]
   | cons y s =>
     have : dB f r s = false := ih (λ e => h (by simp [e])); simp [dB, this]
theorem xN {X : Type} {f : X -> X -> Bool} {l l' : List X} (hl : l.length = l'.length) (h : ∀ (i : Nat) x y, l[i]? = some x -> l'[i]? = some y -> f x y = true) : dB f l l' = true := by
 induction l generalizing l' with
 | nil => cases l' <;> simp_all [dB]
 | cons x r ih =>
   cases l' with
   | nil => simp at hl
   | cons y s => simp only [dB, h 0 x y rfl rfl, Bool.true_and]; exact ih (by simpa using hl) (λ i a b ha hb => h (i + 1) a b ha hb)
theorem By {X : Type} {f : X -> X -> Bool} {l l' : List X} {i : Nat} {x y : X} (hx : l[i]? = some x) (hy : l'[i]? = some y) (h : f x y = false) : dB f l l' = false := by
 induction l generalizing l' i with
 | nil => simp at hx
 | cons a r ih =>
   cases l' with
   | nil => simp at hy
   | cons b s =>
     cases i with
     | zero => simp at hx hy; subst hx hy; simp [dB, h]
     | succ i => simp at hx hy; simp [dB, ih hx hy]
def iM (s : Tx) : List (List Tx) -> List Tx
 | [] => []
 | x :: r => x ++ r.flatMap λ y => s :: y
theorem nB (s : Tx) (l : List (List Tx)) (x : List Tx) : iM s (l ++ [x]) = iM s l ++ ((if l = [] then [] else [s]) ++ x) := by
 cases l with
 | nil => simp [iM]
 | cons y r => simp [iM]
def dN (s : Tx) (l : List Tx) : List Tx := iM s (l.map λ x => [x])
def fg (l : List Tx) : List Tx := if l = [] then [] else [91] :: (dN [44] l ++ [[93]])
def fY (T : List (List Tx)) (i : Nat) : List Tx := T.getD i [[63]]
def dV : List Tx -> List (List Tx) -> List (List Tx)
 | c :: cs, t :: ts => (c :: [45, 62] :: t) :: dV cs ts
 | _, _ => []
def fR (o : Tx) (T : List (List Tx)) : List Tx := [40] :: o :: (fY T 0 ++ [[41]])
def eK (o : Tx) (T : List (List Tx)) : List Tx := [40] :: (fY T 0 ++ o :: (fY T 1 ++ [[41]]))
def jt (T : List (List Tx)) : List Tx := [40] :: [105, 102] :: (fY T 0 ++ [116, 104, 101, 110] :: (fY T 1 ++ [101, 108, 115, 101] :: (fY T 2 ++ [[41]])))
def pw (nm : Tx) (cs : List Tx) (T : List (List Tx)) : List Tx := [40] :: (fY T 0 ++ [119, 104, 101, 110] :: (dN [44] cs ++ [[40], nm, [41], [41]]))
def nY (word nm : Tx) (cs : List Tx) (T : List (List Tx)) : List Tx := word :: nm :: [40] :: (iM [124] (dV cs T) ++ [[41]])
def lr (nm : Tx) (cs : List Tx) (T : List (List Tx)) : List Tx := nm :: (fg cs ++ [40] :: (iM [44] T ++ [[41]]))
def rE : Tx := [116, 114, 117, 101]
def nU : Tx := [102, 97, 108, 115, 101]
def Hc : Tx := [102, 98, 121]
def Gg : Tx := [112, 114, 101]
def ui : Tx := [45, 62]
def tH : Tx := [109, 101, 114, 103, 101]
def tI : Tx := [109, 97, 116, 99, 104]
def tW : Tx := [101, 118, 101, 114, 121]
def aV (op : Int) (nm : Tx) (n : Int) (cs : List Tx) (T : List (List Tx)) : List Tx :=
 if op = 1 then [Lib.itoa n]
 else if op = 2 then [if n = 1 then rE else nU]
 else if op = 3 then [nm]
 else if op = 4 then [nm]
 else if op = 5 then fR nm T
 else if op = 6 then eK nm T
 else if op = 7 then jt T
 else if op = 8 then eK Hc T
 else if op = 9 then fR Gg T
 else if op = 10 then eK ui T
 else if op = 11 then pw nm cs T
 else if op = 12 then nY tH nm cs T
 else if op = 13 then nY tI nm cs T
 else if op = 14 then lr nm cs T
 else if op = 15 then eK tW T
 else [[63]]
mutual
def aE : Ex -> List Tx
 | .mk op nm n cs ks => aV op nm n cs (s8 ks)
def s8 : List Ex -> List (List Tx)
 | [] => []
 | k :: r => aE k :: s8 r
end
theorem xr (l : List Ex) : s8 l = l.map aE := by
 induction l with
 | nil => rfl
 | cons k r ih => simp [s8, ih]
theorem Db (op : Int) (nm : Tx) (n : Int) (cs : List Tx) (ks : List Ex) : aE (.mk op nm n cs ks) = aV op nm n cs (ks.map aE) := by rw [aE, xr]
def putL : Bool -> List Tx -> Tx
 | _, [] => []
 | false, t :: r => t ++ putL true r
 | true, t :: r => 32 :: (t ++ putL true r)
theorem mu (l m : List Tx) : ∀ g, putL g (l ++ m) = putL g l ++ putL (g || !l.isEmpty) m := by
 induction l with
 | nil => intro g; simp [putL]
 | cons t r ih => intro g; cases g <;> simp [putL, ih]
theorem xV (l : List Tx) : putL true l = if l = [] then [] else 32 :: jO l := by
 induction l with
 | nil => rfl
 | cons t r ih => simp only [putL, jO, ih]; simp
theorem xW (l : List Tx) : putL false l = jO l := by
 cases l with
 | nil => rfl
 | cons t r => simp only [putL, jO, xV]
def jL (made : Bool) (l : Tx) : Tx := if made && [95].isPrefixOf l then l.drop 1 else l
def db (made : Bool) (l : Tx) : Bool := As (jL made l)
def jr (made : Bool) (l : Tx) : Bool := Hx (jL made l)
def gk {X : Type} (l : List X) (least most : Nat) (f : X -> Bool) : Bool := decide (least <= l.length) && decide (l.length <= most) && l.all f
def xa : List Tx := [[43], [45], [42], [47], [37], [60], [60, 61], [61], [60, 62], [97, 110, 100], [111, 114]]
def bO (made : Bool) (op : Int) (nm : Tx) (n : Int) (cs : List Tx) (ks : List Ex) : Bool :=
 if op = 1 then nm == [] && decide (0 <= n) && cs.isEmpty && ks.isEmpty
 else if op = 2 then nm == [] && (decide (0 <= n) && decide (n <= 1)) && cs.isEmpty && ks.isEmpty
 else if op = 3 then jr made nm && n == 0 && cs.isEmpty && ks.isEmpty
 else if op = 4 then db made nm && n == 0 && cs.isEmpty && ks.isEmpty
 else if op = 5 then [[110, 111, 116], [45]].contains nm && n == 0 && cs.isEmpty && ks.length == 1
 else if op = 6 then xa.contains nm && n == 0 && cs.isEmpty && ks.length == 2
 else if op = 7 then nm == [] && n == 0 && cs.isEmpty && ks.length == 3
 else if op = 8 then nm == [] && n == 0 && cs.isEmpty && ks.length == 2
 else if op = 9 then nm == [] && n == 0 && cs.isEmpty && ks.length == 1
 else if op = 10 then nm == [] && n == 0 && cs.isEmpty && ks.length == 2
 else if op = 11 then db made nm && n == 0 && gk cs 1 1 (jr made) && ks.length == 1
 else if op = 12 then db made nm && n == 0 && gk cs 1 8 (jr made) && ks.length == cs.length
 else if op = 13 then db made nm && n == 0 && gk cs 1 8 (jr made) && ks.length == cs.length
 else if op = 14 then db made nm && n == 0 && gk cs 0 6 (db made) && (decide (1 <= ks.length) && decide (ks.length <= 6))
 else if op = 15 then nm == [] && n == 0 && cs.isEmpty && (ks.length == 2 && (ks.headD (.mk 0 [] 0 [] [])).op == 14)
 else false
mutual
def ed (made : Bool) : Ex -> Bool
 | .mk op nm n cs ks => bO made op nm n cs ks && mh made ks
def mh (made : Bool) : List Ex -> Bool
 | [] => true
 | k :: r => ed made k && mh made r
end
theorem jR (made : Bool) (l : List Ex) : mh made l = l.all (ed made) := by
 induction l with
 | nil => rfl
 | cons k r ih => simp [mh, ih]
def fi (made : Bool) (q : QEq) : Bool := gk q.names 1 6 (db made) && ed made q.e
def iP (made : Bool) (y : eO) : Bool := jr made y.to && ed made y.cond
def dM (made : Bool) (s : aM) : Bool := jr made s.name && (gk s.eqs 0 24 (fi made) && gk s.ways 0 4 (iP made))
def pZ : Ex := .mk 0 [] 0 [] []
def cK (made : Bool) (i : a8) : Bool := if i.states = [] then fi made i.eq else i.eq.names.isEmpty && (ma i.eq.e pZ && gk i.states 1 8 (dM made))
def iQ (made : Bool) (e : dw) : Bool := db made e.name && gk e.cons 1 8 (jr made)
def eI (made : Bool) : Nat := if made then 9223372036854775807 else 24
def eL (made : Bool) : Nat := if made then 32 else 8
def e8 (made : Bool) (n : aY) : Bool := db made n.name && (gk n.funs 0 6 (db made) && (gk n.ins 1 6 (db made) && (gk n.outs 1 6 (db made) && gk n.items 0 (eI made) (cK made))))
def lD (made : Bool) (p : cZ) : Bool := gk p.enums 0 (eL made) (iQ made) && gk p.nodes 1 16 (e8 made)
def fH (s : aM) : List Ex := s.eqs.map QEq.e ++ s.ways.map eO.cond
def fZ (i : a8) : List Ex := (if i.states = [] then [i.eq.e] else []) ++ i.states.flatMap fH
def fc (n : aY) : List Ex := n.items.flatMap fZ
def lM : Int -> List Ex -> Bool
 | s, [] => decide (300 < s)
 | s, x :: r => if 40 < lQ x then true else lM (wrap64 (s + rO x)) r
def ji (n : aY) : Bool := lM 0 (fc n)
def dg (made : Bool) (p : cZ) : Int := if lD made p then (if p.nodes.any ji then 9 else 0) else 10
end Go.Proofs.YtkfacdofkfabnaaGreatDoor
namespace Go.Proofs.YtkfacdofkfabnaaGreatDoor
def bg : List Tx -> List Tx -> Bool
 | _, [] => true
 | m, s :: r => !m.contains s && bg (m ++ [s]) r
theorem du (m : List Tx) (s : Tx) (r : List Tx) : bg m (s :: r) = (!m.contains s && bg (m ++ [s]) r) := rfl
theorem BE (a b : List Tx) : ∀ m, bg m (a ++ b) = (bg m a && bg (m ++ a) b) := by
 induction a with
 | nil => intro m; simp [bg]
 | cons x r ih => intro m; simp [bg, ih, Bool.and_assoc]
theorem rU (l : List Tx) : ∀ m, m.Nodup -> (bg m l = true ↔ (m ++ l).Nodup) := by
 induction l with
 | nil => intro m hm; simp [bg, hm]
 | cons x r ih =>
   intro m hm; rw [du, Bool.and_eq_true, Bool.not_eq_true', <- Bool.not_eq_true, List.contains_iff_mem]; constructor
   . rintro ⟨h1, h2⟩; have := (ih (m ++ [x]) (by rw [List.nodup_append]; exact ⟨hm, by simp, λ a ha b hb => by simp at hb; subst hb; intro e; subst e; exact h1 ha⟩)).1 h2; simpa using this
   . intro h; have h1 : x ∉ m := by
      rw [List.nodup_append] at h; intro hx; exact h.2.2 x hx x (by simp) rfl
     refine ⟨h1, (ih (m ++ [x]) ?_).2 (by simpa using h)⟩; rw [List.nodup_append]; exact ⟨hm, by simp, λ a ha b hb => by simp at hb; subst hb; intro e; subst e; exact h1 ha⟩
def bH (i : a8) : List Tx :=
 match i.states with
 | [] => i.eq.names
 | s :: _ => s.eqs.flatMap QEq.names
def lp : List Tx -> List QEq -> Option (List Tx)
 | m, [] => some m
 | m, q :: r => if q.names.length = 1 /\ bg m q.names = true then lp (m ++ q.names) r else none
def dY (s : aM) : Option (List Tx) := lp [] s.eqs
def fh (a b : List Tx) : Bool := a.length == b.length && a.all b.contains
def lL (s : aM) (names : List Tx) : Bool := s.ways.all λ y => names.contains y.to
structure bc where
 enums : List Tx
 cons : List (Tx × List Tx)
 nodes : List (Tx × aY)
 states : List Tx
def bc.conKeys (s : bc) : List Tx := s.cons.map Prod.fst
def bc.nodeKeys (s : bc) : List Tx := s.nodes.map Prod.fst
def iE : List Tx := [[70, 97, 108, 115, 101], [84, 114, 117, 101]]
def bc.new : bc := ⟨[], iE.map λ c => (c, iE), [], []⟩
def bc.addEnum (s : bc) (e : dw) : bc := { s with enums := s.enums ++ [e.name], cons := s.cons ++ e.cons.map λ c => (c, e.cons) }
def iC (s : bc) (e : dw) : Bool := bg s.enums [e.name] && bg s.conKeys e.cons
def dQ (s : bc) (n : aY) : Bool :=
 !s.nodeKeys.contains n.name && (bg [] (n.funs ++ n.ins) && (bg [] n.outs && !n.funs.any λ f => f == n.name || s.nodeKeys.contains f))
def cm (s : bc) (l : List aM) : Bool :=
 !((l.map aM.name).any s.conKeys.contains) && (bg s.states (l.map aM.name) && l.all λ q =>
   match dY q with
   | none => false
   | some own => fh own (((l.head?.bind dY).getD [])) && lL q (l.map aM.name))
def dD (s : bc) (vars : List Tx) (i : a8) : Bool :=
 bg vars (bH i) && (if i.states = [] then i.eq.names.length == 1 || (i.eq.e.op == 14 || i.eq.e.op == 15) else cm s i.states)
def bc.addItem (s : bc) (i : a8) : bc := { s with states := s.states ++ i.states.map aM.name }
def eJ (b : Int) : bc -> List Tx -> List a8 -> (bc × List Tx) ⊕ Int
 | s, vars, [] => .inl (s, vars)
 | s, vars, i :: r => if dD s vars i = true then eJ (b + 1) (s.addItem i) (vars ++ bH i) r else .inr b
structure fu where
 prog : bc
 funs : List Tx
 vars : List Tx
def oO {X : Type} (l : List (Tx × X)) (s : Tx) : Option X := (l.find? λ p => p.1 == s).map Prod.snd
def ll (s : fu) (f : Tx) : Bool := s.funs.contains f || (match oO s.prog.nodes f with | some n => n.funs.isEmpty | none => false)
def eC (s : fu) (l : List Tx) : Bool :=
 match l with
 | [] => false
 | c :: _ => match oO s.prog.cons c with | some cs => l == cs | none => false
def iW (s : fu) (nm : Tx) (cs : List Tx) (k : Nat) (results : Int) : Bool :=
 if s.funs.contains nm then cs.isEmpty
 else match oO s.prog.nodes nm with
  | none => false
  | some n => n.ins.length == k && (n.funs.length == cs.length && ((n.outs.length : Int) == results && cs.all (ll s)))
def bK (s : fu) (op : Int) (nm : Tx) (cs : List Tx) (k : Nat) (results : Int) (uns : Bool) : Bool :=
 if op = 4 then s.vars.contains nm
 else if op = 3 then s.prog.conKeys.contains nm
 else if op = 11 then !uns && (s.vars.contains nm && s.prog.conKeys.contains (cs.headD []))
 else if op = 12 then !uns && (s.vars.contains nm && eC s cs)
 else if op = 13 then !uns && (s.vars.contains nm && eC s cs)
 else if op = 14 then iW s nm cs k results
 else true
mutual
def eY (s : fu) (results : Int) (uns : Bool) : Ex -> Bool
 | .mk op nm _ cs ks => bK s op nm cs ks.length results uns && fG s op results (uns || op == 13) true ks
def fG (s : fu) (op results : Int) (uns first : Bool) : List Ex -> Bool
 | [] => true
 | k :: r => eY s (if op = 15 /\ first = true then results else 1) uns k && fG s op results uns false r
end
def fW (s : fu) (i : a8) : Bool :=
 if i.states = [] then eY s i.eq.names.length false i.eq.e
 else i.states.all λ q => (q.eqs.all λ e => eY s 1 true e.e) && q.ways.all λ y => eY s 1 true y.cond
def gZ (s : fu) (b : Int) : List a8 -> Option Int
 | [] => none
 | i :: r => if fW s i = true then gZ s (b + 1) r else some b
def b5 (s : bc) (n : aY) : bc ⊕ Int :=
 if dQ s n = true then
  match eJ 0 s n.ins n.items with
  | .inr b => .inr b
  | .inl (s', vars) =>
    if (n.outs.all λ o => (n.items.flatMap bH).contains o) = true then
     match gZ ⟨s', n.funs, vars⟩ 0 n.items with
     | some b => .inr b
     | none => .inl { s' with nodes := s'.nodes ++ [(n.name, n)] }
    else .inr (-1)
 else .inr (-1)
def eH (k : Int) : bc -> List aY -> Int × Int × Int
 | _, [] => (0, 0, 0)
 | s, n :: r => match b5 s n with | .inr b => (4, k, b) | .inl s' => eH (k + 1) s' r
def fo (k : Int) : bc -> List dw -> bc ⊕ Int
 | s, [] => .inl s
 | s, e :: r => if iC s e = true then fo (k + 1) (s.addEnum e) r else .inr k
def br (made : Bool) (p : cZ) : Int × Int × Int :=
 if dg made p = 0 then
  match fo 0 .new p.enums with
  | .inr i => (4, -1, i)
  | .inl s => eH 0 s p.nodes
 else (dg made p, 0, 0)
mutual
def i8 (r : Ex -> Option Ex) : Ex -> Ex
 | .mk op nm n cs ks => match r (.mk op nm n cs ks) with
   | some y => y
   | none => .mk op nm n cs (uZ r ks)
def uZ (r : Ex -> Option Ex) : List Ex -> List Ex
 | [] => []
 | k :: l => i8 r k :: uZ r l
end
theorem uY (r : Ex -> Option Ex) : ∀ l, uZ r l = l.map (i8 r)
 | [] => by rw [uZ]; rfl
 | k :: l => by rw [uZ, uY r l]; rfl
theorem BH {r : Ex -> Option Ex} {op n : Int} {nm : Tx} {cs : List Tx} {ks : List Ex} (h : r (.mk op nm n cs ks) = none) : i8 r (.mk op nm n cs ks) = .mk op nm n cs (ks.map (i8 r)) := by rw [i8, h, uY]
theorem BG {r : Ex -> Option Ex} {x y : Ex} (h : r x = some y) : i8 r x = y := by cases x; rw [i8, h]
mutual
theorem uX : ∀ x : Ex, i8 (λ _ => none) x = x
 | .mk op nm n cs ks => by rw [i8, rV ks]
theorem rV : ∀ l : List Ex, uZ (λ _ => none) l = l
 | [] => by rw [uZ]
 | k :: l => by rw [uZ, uX k, rV l]
end
def pN (x con : Tx) : Ex -> Option Ex
 | .mk op nm n cs ks => if op = 4 then some (.mk 11 x 0 [con] [.mk op nm n cs ks]) else none
def zT (x con : Tx) (e : Ex) : Ex := i8 (pN x con) e
end Go.Proofs.YtkfacdofkfabnaaGreatDoor
