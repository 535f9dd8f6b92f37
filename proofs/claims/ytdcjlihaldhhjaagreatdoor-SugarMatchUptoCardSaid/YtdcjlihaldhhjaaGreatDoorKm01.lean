import Derived.Below
import Derived.Defers
import Derived.Laws.Cells
import Derived.Laws.IdiomCopy
import Derived.Laws.Strings
import Derived.Laws.StructEq
import Derived.Orders
import Derived.Test.YtdcjlihaldhhjaaGreatDoorKm00
noncomputable section
namespace Go.Sx
open Go.RowKit (zH zO zD zK zW zA zB zG)
inductive AV where
 | bool (b : Bool)
 | int (k : IntKind) (n : Int)
 | str (s : List Nat)
 | ptr (a : Option (Nat × Nat))
 | slice (a : Option (Nat × Nat)) (len cap z : Nat)
 | map (r : Option Nat)
 | fn (f : Nat) (first cap : List AV)
 | nilFn
 | iface (t : Nat) (v : AV)
 | nilIface
 | agg (l : List AV)
 | tuple (l : List AV)
inductive T (α : Type) where
 | leaf
 | node (v : Option α) (l r : T α)
inductive AO where
 | row (cells : List AV)
 | mp (es : List (AV × AV × Nat)) (clock : Nat)
abbrev H := T AO
abbrev Log := List (Nat × Option Nat × Bool)
inductive Rs (α : Type) where
 | fail
 | ok (a : α) (c : Nat) (h : H) (l : Log)
abbrev M (α : Type) := Nat -> H -> Rs α
section
variable {α β : Type}
def T.get (t : T α) : Nat -> Option α := T.rec (motive := λ _ => Nat -> Option α) (λ _ => none)
 (λ v _ _ gl gr n => Bool.rec (Bool.rec (gr (Nat.pred (Nat.div n 2))) (gl (Nat.div n 2)) (Nat.beq (Nat.mod n 2) 1)) v (Nat.beq n 0)) t
def T.set1 (x : Option α) (f : Nat) : Nat -> T α := Nat.rec (motive := λ _ => Nat -> T α) (λ _ => .leaf)
 (λ _ g n => Bool.rec (Bool.rec (.node none .leaf (g (Nat.pred (Nat.div n 2)))) (.node none (g (Nat.div n 2)) .leaf) (Nat.beq (Nat.mod n 2) 1)) (.node x .leaf .leaf) (Nat.beq n 0)) f
def T.set (t : T α) (n : Nat) (x : Option α) : T α := T.rec (motive := λ _ => Nat -> T α) (λ n => T.set1 x (Nat.succ n) n)
 (λ v l r gl gr n => Bool.rec (Bool.rec (.node v l (gr (Nat.pred (Nat.div n 2)))) (.node v (gl (Nat.div n 2)) r) (Nat.beq (Nat.mod n 2) 1)) (.node x l r) (Nat.beq n 0)) t n
def ifB (b : Bool) (x y : α) : α := Bool.rec y x b
def ifS (d : β) (k : α -> β) (o : Option α) : β := Option.rec d k o
def ifC (d : β) (k : α -> List α -> β) (l : List α) : β := List.rec d (λ a t _ => k a t) l
def onBool (d : α) (k : Bool -> α) (v : AV) : α :=
 AV.rec (motive_1 := λ _ => α) (motive_2 := λ _ => Unit) k (λ _ _ => d) (λ _ => d) (λ _ => d) (λ _ _ _ _ => d) (λ _ => d) (λ _ _ _ _ _ => d) d (λ _ _ _ => d) d (λ _ _ => d) (λ _ _ => d) () (λ _ _ _ _ => ()) v
def onInt (d : α) (k : IntKind -> Int -> α) (v : AV) : α :=
 AV.rec (motive_1 := λ _ => α) (motive_2 := λ _ => Unit) (λ _ => d) k (λ _ => d) (λ _ => d) (λ _ _ _ _ => d) (λ _ => d) (λ _ _ _ _ _ => d) d (λ _ _ _ => d) d (λ _ _ => d) (λ _ _ => d) () (λ _ _ _ _ => ()) v
def onStr (d : α) (k : List Nat -> α) (v : AV) : α :=
 AV.rec (motive_1 := λ _ => α) (motive_2 := λ _ => Unit) (λ _ => d) (λ _ _ => d) k (λ _ => d) (λ _ _ _ _ => d) (λ _ => d) (λ _ _ _ _ _ => d) d (λ _ _ _ => d) d (λ _ _ => d) (λ _ _ => d) () (λ _ _ _ _ => ()) v
def onPtr (d : α) (k : Option (Nat × Nat) -> α) (v : AV) : α :=
 AV.rec (motive_1 := λ _ => α) (motive_2 := λ _ => Unit) (λ _ => d) (λ _ _ => d) (λ _ => d) k (λ _ _ _ _ => d) (λ _ => d) (λ _ _ _ _ _ => d) d (λ _ _ _ => d) d (λ _ _ => d) (λ _ _ => d) () (λ _ _ _ _ => ()) v
def onSlice (d : α) (k : Option (Nat × Nat) -> Nat -> Nat -> Nat -> α) (v : AV) : α :=
 AV.rec (motive_1 := λ _ => α) (motive_2 := λ _ => Unit) (λ _ => d) (λ _ _ => d) (λ _ => d) (λ _ => d) k (λ _ => d) (λ _ _ _ _ _ => d) d (λ _ _ _ => d) d (λ _ _ => d) (λ _ _ => d) () (λ _ _ _ _ => ()) v
def onMap (d : α) (k : Option Nat -> α) (v : AV) : α :=
 AV.rec (motive_1 := λ _ => α) (motive_2 := λ _ => Unit) (λ _ => d) (λ _ _ => d) (λ _ => d) (λ _ => d) (λ _ _ _ _ => d) k (λ _ _ _ _ _ => d) d (λ _ _ _ => d) d (λ _ _ => d) (λ _ _ => d) () (λ _ _ _ _ => ()) v
def onFn (d : α) (k : Nat -> List AV -> List AV -> α) (v : AV) : α :=
 AV.rec (motive_1 := λ _ => α) (motive_2 := λ _ => Unit) (λ _ => d) (λ _ _ => d) (λ _ => d) (λ _ => d) (λ _ _ _ _ => d) (λ _ => d) (λ f a b _ _ => k f a b) d (λ _ _ _ => d) d (λ _ _ => d) (λ _ _ => d) () (λ _ _ _ _ => ()) v
def onAgg (d : α) (k : List AV -> α) (v : AV) : α :=
 AV.rec (motive_1 := λ _ => α) (motive_2 := λ _ => Unit) (λ _ => d) (λ _ _ => d) (λ _ => d) (λ _ => d) (λ _ _ _ _ => d) (λ _ => d) (λ _ _ _ _ _ => d) d (λ _ _ _ => d) d (λ l _ => k l) (λ _ _ => d) () (λ _ _ _ _ => ()) v
def onTuple (d : α) (k : List AV -> α) (v : AV) : α :=
 AV.rec (motive_1 := λ _ => α) (motive_2 := λ _ => Unit) (λ _ => d) (λ _ _ => d) (λ _ => d) (λ _ => d) (λ _ _ _ _ => d) (λ _ => d) (λ _ _ _ _ _ => d) d (λ _ _ _ => d) d (λ _ _ => d) (λ l _ => k l) () (λ _ _ _ _ => ()) v
def onIface (d : α) (n : α) (k : Nat -> AV -> α) (v : AV) : α :=
 AV.rec (motive_1 := λ _ => α) (motive_2 := λ _ => Unit) (λ _ => d) (λ _ _ => d) (λ _ => d) (λ _ => d) (λ _ _ _ _ => d) (λ _ => d) (λ _ _ _ _ _ => d) d (λ t v _ => k t v) n (λ _ _ => d) (λ _ _ => d) () (λ _ _ _ _ => ()) v
def onNat (d : α) (k : Nat -> α) (n : Int) : α := Int.rec k (λ _ => d) n
def M.pure (a : α) : M α := λ c h => .ok a c h []
def Rs.andThen (k : α -> M β) (r : Rs α) : Rs β :=
 Rs.rec (motive := λ _ => Rs β) .fail (λ a c h l => Rs.rec (motive := λ _ => Rs β) .fail (λ b c h l2 => .ok b c h (List.append l l2)) (k a c h)) r
def M.bind (m : M α) (k : α -> M β) : M β := λ c h => Rs.andThen k (m c h)
def M.map (f : α -> β) (m : M α) : M β := λ c h => Rs.rec (motive := λ _ => Rs β) .fail (λ a c h l => .ok (f a) c h l) (m c h)
def fail : M α := λ _ _ => .fail
def Ec (o : Option α) : M α := ifS fail M.pure o
end
def len {α : Type} (l : List α) : Nat := List.rec 0 (λ _ _ n => Nat.succ n) l
def newO (o : AO) : M Nat := λ c h => .ok c (Nat.succ c) (h.set c (some o)) []
def AO.row? (o : AO) : Option (List AV) := AO.rec (λ cs => some cs) (λ _ _ => none) o
def AO.map? (o : AO) : Option (List (AV × AV × Nat) × Nat) := AO.rec (λ _ => none) (λ es k => some (es, k)) o
def rowOf (h : H) (n : Nat) : Option (List AV) := ifS none AO.row? (h.get n)
def getMap (n : Nat) : M (List (AV × AV × Nat) × Nat) := λ c h =>
 ifB (Nat.blt n c) (ifS .fail (λ r => .ok r c h [(n, none, false)]) (ifS none AO.map? (h.get n))) .fail
def setMap (n : Nat) (r : List (AV × AV × Nat) × Nat) : M Unit := λ c h => ifB (Nat.blt n c) (ifS .fail (λ _ => .ok () c (h.set n (some (.mp r.1 r.2))) [(n, none, true)]) (h.get n)) .fail
def dropN (n : Nat) : List AV -> List AV := Nat.rec (motive := λ _ => List AV -> List AV) (λ l => l) (λ _ g l => ifC [] (λ _ t => g t) l) n
def takeN (n : Nat) : List AV -> Option (List AV) :=
 Nat.rec (motive := λ _ => List AV -> Option (List AV)) (λ _ => some []) (λ _ g l => ifC none (λ a t => ifS none (λ r => some (a :: r)) (g t)) l) n
def i7 (b : Bool) (n : Nat) (k : Nat) : Nat -> Log :=
 Nat.rec (motive := λ _ => Nat -> Log) (λ _ => []) (λ _ g off => (n, some off, b) :: g (Nat.succ off)) k
def load1 (n off : Nat) : M AV := λ c h => ifB (Nat.blt n c) (ifS .fail (λ cs => ifC .fail (λ v _ => .ok v c h [(n, some off, false)]) (dropN off cs)) (rowOf h n)) .fail
def qp (n off k : Nat) : M (List AV) := λ c h => ifB (Nat.blt n c) (ifS .fail (λ cs => ifS .fail (λ l => .ok l c h (i7 false n k off)) (takeN k (dropN off cs))) (rowOf h n)) .fail
def loadN (n off k : Nat) : M (List AV) := ifB (Nat.beq k 0) (M.pure []) (qp n off k)
def putL (vs : List AV) : List AV -> Option (List AV) :=
 List.rec (motive := λ _ => List AV -> Option (List AV)) some (λ v _ g cs => ifC none (λ _ t => ifS none (λ r => some (v :: r)) (g t)) cs) vs
def fx (vs : List AV) (n : Nat) : List AV -> Option (List AV) :=
 Nat.rec (motive := λ _ => List AV -> Option (List AV)) (putL vs) (λ _ g cs => ifC none (λ x t => ifS none (λ r => some (x :: r)) (g t)) cs) n
def CO (v : AV) : Bool := onAgg (onTuple true (λ _ => false) v) (λ _ => false) v
def gL (l : List AV) : Bool := List.rec true (λ v _ r => ifB (CO v) r false) l
def lG (n off : Nat) (vs : List AV) : M Unit := λ c h =>
 ifB (Nat.blt n c) (ifS .fail (λ cs => ifS .fail (λ r => ifB (gL vs) (.ok () c (h.set n (some (.row r))) (i7 true n (len vs) off)) .fail) (fx vs off cs)) (rowOf h n)) .fail
def storeN (n off : Nat) (vs : List AV) : M Unit := ifC (M.pure ()) (λ _ _ => lG n off vs) vs
def killRow (n off k : Nat) : M (List AV) := λ c h =>
 ifB (Nat.blt n c) (ifS .fail (λ cs => ifS .fail (λ l => .ok l c (h.set n none) [(n, none, true)]) (takeN k (dropN off cs))) (rowOf h n)) .fail
inductive Opd where
 | tmp (t : Nat)
 | const (v : AV)
inductive Env where
 | base (t : T AV)
 | put (t : Nat) (v : AV) (e : Env)
def undefA : AV := .tuple []
def Env.get (t : Nat) (e : Env) : AV := Env.rec (motive := λ _ => AV) (λ b => ifS undefA (λ v => v) (b.get t)) (λ u v _ g => Bool.rec g v (Nat.beq u t)) e
def Env.flush (e : Env) : T AV := Env.rec (motive := λ _ => T AV) (λ b => b) (λ u v _ g => g.set u (some v)) e
def ev (e : Env) (x : Opd) : AV := Opd.rec (λ t => e.get t) (λ v => v) x
def evs (e : Env) (l : List Opd) : List AV := List.rec [] (λ x _ r => ev e x :: r) l
structure St where
 env : Env
 defers : List (Nat × List AV)
abbrev Ctx := Nat -> List AV -> M AV
abbrev Ev := Ctx -> Env -> M AV
def AV.cells (v : AV) : List AV := onAgg [v] (λ l => l) v
def qm (x : Opd) : Ev := λ _ e => M.pure (ev e x)
def xa (c a b : Opd) : Ev := λ _ e => onBool fail (λ t => M.pure (ifB t (ev e a) (ev e b))) (ev e c)
def xj (n : Nat) : AV := .ptr (some (n, 0))
def vo (z : List AV) : Ev := λ _ _ => M.map xj (newO (.row z))
def Dd (x : Opd) : Ev := λ _ e => M.map xj (newO (.row (ev e x).cells))
def i9 (e : Env) (ps : List (Nat × Nat × Opd)) : List AV -> Option (List AV) :=
 List.rec (motive := λ _ => List AV -> Option (List AV)) some (λ p _ g cs => ifB (Nat.beq (ev e p.2.2).cells.length p.2.1) (ifS none g (fx (ev e p.2.2).cells p.1 cs)) none) ps
def lS (z : List AV) (ps : List (Nat × Nat × Opd)) : Ev := λ _ e => ifS fail (λ l => M.pure (.agg l)) (i9 e ps z)
def gm (z1 : Nat) (z : List AV) (n : Nat) (ps : List (Nat × Nat × Opd)) : Ev := λ _ e =>
 ifS fail (λ l => M.map (λ k => .slice (some (k, 0)) n n z1) (newO (.row l))) (i9 e ps z)
def kX (v : AV) : M AV := onPtr fail (ifS fail λ a => load1 a.1 a.2) v
def kW (n : Nat) (v : AV) : M AV := onPtr fail (ifS fail λ a => M.map .agg (loadN a.1 a.2 n)) v
def rB (a : Opd) : Ev := λ _ e => kX (ev e a)
def jS (n : Nat) (a : Opd) : Ev := λ _ e => kW n (ev e a)
def rA (n : Nat) (a x : Opd) : Ev := λ _ e =>
 ifB (Nat.beq (ev e x).cells.length n) (onPtr fail (ifS fail λ a => M.map (λ _ => undefA) (storeN a.1 a.2 (ev e x).cells)) (ev e a)) fail
def jt (x : Opd) : Ev := λ _ e => onPtr fail (ifS fail λ a => M.pure (.ptr (some a))) (ev e x)
def pP (k : IntKind) (n : Int) : Int := Int.rec (λ m => ifB (Nat.blt m 128) (.ofNat m) (k.wrap (.ofNat m))) (λ m => k.wrap (.negSucc m)) n
def ltS (x : List Nat) : List Nat -> Bool := List.rec (motive := λ _ => List Nat -> Bool) (ifC false λ _ _ => true)
 (λ a _ g y => ifC false (λ b t => ifB (Nat.blt a b) true (ifB (Nat.beq a b) (g t) false)) y) x
def eqS (x : List Nat) : List Nat -> Bool := List.rec (motive := λ _ => List Nat -> Bool) (ifC true λ _ _ => false)
 (λ a _ g y => ifC false (λ b t => ifB (Nat.beq a b) (g t) false) y) x
def eqI (a b : Int) : Bool := Int.rec (λ m => Int.rec (λ n => Nat.beq m n) (λ _ => false) b) (λ m => Int.rec (λ _ => false) (λ n => Nat.beq m n) b) a
def ltI (a b : Int) : Bool := Int.rec (λ m => Int.rec (λ n => Nat.blt m n) (λ _ => false) b) (λ m => Int.rec (λ _ => true) (λ n => Nat.blt n m) b) a
def eqP (a b : Option (Nat × Nat)) : Option Bool := ifS (some (ifS true (λ _ => false) b)) (λ a => ifS (some false) (λ b => ifB (Nat.beq a.1 b.1) (some (Nat.beq a.2 b.2)) none) b) a
def Ed {α : Type} (a b : Option α) : Option Bool := ifS (some (ifS true (λ _ => false) b)) (λ _ => ifS (some false) (λ _ => none) b) a
def jI (k : IntKind) : Nat := IntKind.rec 0 1 2 3 4 5 6 7 k
def z7 (op : BinOp) (k : IntKind) (a b : Int) : Option AV :=
 BinOp.rec none none none none none none none none (ifB (ltI b 0) none (some (.int k (k.wrap (a * 2 ^ (min b.toNat k.bits)))))) (ifB (ltI b 0) none (some (.int k (a.fdiv (2 ^ (min b.toNat k.bits)))))) none none none none none none none op
def vJ (op : BinOp) (k : IntKind) (a b : Int) : Option AV :=
 BinOp.rec (some (.int k (pP k (Int.add a b)))) (some (.int k (pP k (Int.sub a b)))) (some (.int k (pP k (Int.mul a b))))
  (ifB (eqI b 0) none (some (.int k (k.wrap (a.tdiv b))))) (ifB (eqI b 0) none (some (.int k (a.tmod b))))
  (some (.int k (k.wrap (BitVec.ofInt k.bits a &&& BitVec.ofInt k.bits b).toNat))) (some (.int k (k.wrap (BitVec.ofInt k.bits a ||| BitVec.ofInt k.bits b).toNat))) none
  (ifB (ltI b 0) none (some (.int k (k.wrap (a * 2 ^ (min b.toNat k.bits)))))) (ifB (ltI b 0) none (some (.int k (a.fdiv (2 ^ (min b.toNat k.bits)))))) none
  (some (.bool (eqI a b))) (some (.bool (not (eqI a b)))) (some (.bool (ltI a b))) (some (.bool (not (ltI b a)))) (some (.bool (ltI b a))) (some (.bool (not (ltI a b)))) op
def zQ (op : BinOp) (a b : List Nat) : Option AV :=
 BinOp.rec (ifB (Nat.ble (Nat.add (len a) (len b)) 1048576) (some (.str (List.append a b))) none) none none none none none none none none none none (some (.bool (eqS a b))) (some (.bool (not (eqS a b)))) (some (.bool (ltS a b)))
  (some (.bool (ifB (ltS a b) true (eqS a b)))) (some (.bool (not (ifB (ltS a b) true (eqS a b))))) (some (.bool (not (ltS a b)))) op
def Ga (op : BinOp) (x y : AV) : Option AV :=
 onInt (onStr none (λ a => onStr none (λ b => zQ op a b) y) x) (λ k a => onInt none (λ j b => ifB (Nat.beq (jI k) (jI j)) (vJ op k a b) (z7 op k a b)) y) x
def De (op : BinOp) (x y : Opd) : Ev := λ _ e => Ec (Ga op (ev e x) (ev e y))
inductive FK where
 | int
 | str
 | bool
def eU (k : FK) (x y : AV) : Option Bool :=
 FK.rec (onInt none (λ i a => onInt none (λ j b => ifB (Nat.beq (jI i) (jI j)) (some (eqI a b)) none) y) x) (onStr none (λ a => onStr none (λ b => some (eqS a b)) y) x)
  (onBool none (λ a => onBool none (λ b => some (ifB a b (not b))) y) x) k
def Eh (x y : AV) : Option Bool := onPtr none (λ a => onPtr none (eqP a) y) x
def FR (x y : AV) : Option Bool := onSlice none (λ a _ _ _ => onSlice none (λ b _ _ _ => Ed a b) y) x
def Ei (x y : AV) : Option Bool := onMap none (λ a => onMap none (Ed a) y) x
def EJ (v : AV) : Option Bool :=
 AV.rec (motive_1 := λ _ => Option Bool) (motive_2 := λ _ => Unit) (λ _ => none) (λ _ _ => none) (λ _ => none) (λ _ => none) (λ _ _ _ _ => none) (λ _ => none) (λ _ _ _ _ _ => some false) (some true) (λ _ _ _ => none) none (λ _ _ => none) (λ _ _ => none) () (λ _ _ _ _ => ()) v
def EI (v : AV) : Option Bool := onIface none (some true) (λ _ _ => some false) v
def EK (a b : Option Bool) : Option Bool := ifS none (λ a => ifS none (λ b => ifB a (some b) (ifB b (some false) none)) b) a
def FV (x y : AV) : Option Bool := EK (EJ x) (EJ y)
def FT (x y : AV) : Option Bool := EK (EI x) (EI y)
def FU (ks : List (Nat × FK)) (x y : AV) : Option Bool := onAgg none (λ a => onAgg none (λ b => List.rec (some true) (λ k _ r =>
 ifC none (λ p _ => ifC none (λ q _ => ifS none (λ t => ifB t r (some false)) (eU k.2 p q)) (dropN k.1 b)) (dropN k.1 a)) ks) y) x
def oEq (f : AV -> AV -> Option Bool) (pos : Bool) (x y : Opd) : Ev := λ _ e => ifS fail (λ b => M.pure (.bool (ifB pos b (not b)))) (f (ev e x) (ev e y))
def C9 (x : Opd) : Ev := λ _ e => onBool fail (λ b => M.pure (.bool (not b))) (ev e x)
def Da (x : Opd) : Ev := λ _ e => onInt fail (λ k n => M.pure (.int k (pP k (Int.sub 0 n)))) (ev e x)
def xe (k : IntKind) (x : Opd) : Ev := λ _ e => onInt fail (λ _ n => M.pure (.int k (pP k n))) (ev e x)
def wZ (x : Opd) : Ev := λ _ e => onStr fail (λ s => M.pure (.str s)) (ev e x)
def Db (x : Opd) : Ev := λ _ e => onInt fail (λ _ n => onNat fail (λ n => ifB (Nat.blt n 128) (M.pure (.str [n])) fail) n) (ev e x)
def u8s (s : List Nat) : List AV := List.rec [] (λ b _ r => .int .u8 (.ofNat b) :: r) s
def jr (x : Opd) : Ev := λ _ e => onStr fail (λ s => ifB (Nat.ble (len s) 1048576) (M.map (λ k => .slice (some (k, 0)) (len s) (len s) 1) (newO (.row (u8s s)))) fail) (ev e x)
def rD (t : Nat) (x : Opd) : Ev := λ _ e => M.pure (.iface t (ev e x))
def xb (f : Nat) (a b : List Opd) : Ev := λ _ e => M.pure (.fn f (evs e a) (evs e b))
def ow : Ev := λ _ _ => M.map (λ n => .map (some n)) (newO (.mp [] 0))
def asN (v : AV) : Option Nat := onInt none (λ _ n => onNat none some n) v
def mQ (z : List AV) (n : Nat) : List AV := Nat.rec [] (λ _ r => List.append z r) n
def hU (z : List AV) (l c : Opd) : Ev := λ _ e => ifS fail (λ l => ifS fail (λ c =>
 ifB (ifB (Nat.ble l c) (Nat.ble c 1048576) false) (M.map (λ k => .slice (some (k, 0)) l c (len z)) (newO (.row (mQ z c)))) fail) (asN (ev e c))) (asN (ev e l))
def evB (e : Env) (d : Nat) (x : Option Opd) : Option Nat := ifS (some d) (λ x => asN (ev e x)) x
def BG (n : Nat) : List Nat -> List Nat := Nat.rec (motive := λ _ => List Nat -> List Nat) (λ l => l) (λ _ g l => ifC [] (λ _ t => g t) l) n
def D7 (n : Nat) : List Nat -> List Nat := Nat.rec (motive := λ _ => List Nat -> List Nat) (λ _ => []) (λ _ g l => ifC [] (λ a t => a :: g t) l) n
def js (x : Opd) (lo hi : Option Opd) : Ev := λ _ e => onStr fail (λ s => ifS fail (λ l => ifS fail (λ h =>
 ifB (ifB (Nat.ble l h) (Nat.ble h (len s)) false) (M.pure (.str (D7 (Nat.sub h l) (BG l s)))) fail) (evB e (len s) hi)) (evB e 0 lo)) (ev e x)
def rh (k : Nat) (a : Option (Nat × Nat)) : Option (Nat × Nat) := ifS none (λ a => some (a.1, Nat.add a.2 k)) a
def Fs (size : Nat) (a : Option (Nat × Nat)) (c : Nat) (l h : Option Nat) : M AV := ifS fail (λ l => ifS fail (λ h =>
 ifB (ifB (Nat.ble l h) (Nat.ble h c) false) (M.pure (.slice (rh (Nat.mul l size) a) (Nat.sub h l) (Nat.sub c l) size)) fail) h) l
def kP (size : Nat) (x : Opd) (lo hi : Option Opd) : Ev := λ _ e => onSlice fail (λ a n c z => ifB (ifS true (λ _ => Nat.beq z size) a) (Fs size a c (evB e 0 lo) (evB e n hi)) fail) (ev e x)
def ia (off : Nat) (x : Opd) : Ev := λ _ e => onPtr fail (ifS fail λ a => M.pure (.ptr (some (a.1, Nat.add a.2 off)))) (ev e x)
def wT (off : Nat) (v : AV) : M AV := onAgg fail (λ l => ifC fail (λ v _ => M.pure v) (dropN off l)) v
def wS (off n : Nat) (v : AV) : M AV := onAgg fail (λ l => ifS fail (λ r => M.pure (.agg r)) (takeN n (dropN off l))) v
def np (off : Nat) (x : Opd) : Ev := λ _ e => wT off (ev e x)
def hY (off n : Nat) (x : Opd) : Ev := λ _ e => wS off n (ev e x)
def ixA (size n : Nat) (a : Nat × Nat) (i : Option Nat) : M AV :=
 ifS fail (λ i => ifB (Nat.blt i n) (M.pure (.ptr (some (a.1, Nat.add a.2 (Nat.mul i size))))) fail) i
def kQ (size : Nat) (x i : Opd) : Ev := λ _ e => onSlice fail (λ a n _ _ => ifS fail (λ a => ixA size n a (asN (ev e i))) a) (ev e x)
def kR (n size : Nat) (x i : Opd) : Ev := λ _ e => onPtr fail (ifS fail λ a => ixA size n a (asN (ev e i))) (ev e x)
def jx (x i : Opd) : Ev := λ _ e => onStr fail (λ s => ifS fail (λ i => ifC fail (λ b _ => M.pure (.int .u8 (.ofNat b))) (BG i s)) (asN (ev e i))) (ev e x)
def jw (n size : Nat) (agg : Bool) (x i : Opd) : Ev := λ _ e =>
 ifS fail (λ i => ifB (Nat.blt i n) (ifB agg (wS (Nat.mul i size) size (ev e x)) (wT (Nat.mul i size) (ev e x))) fail) (asN (ev e i))
def Bk (f : FK) (k : AV) (es : List (AV × AV × Nat)) : Option (Option AV) :=
 List.rec (some none) (λ a _ r => ifS none (λ t => ifB t (some (some a.2.1)) r) (eU f k a.1)) es
def Es (f : FK) (k v : AV) (clock : Nat) (es : List (AV × AV × Nat)) : Option (List (AV × AV × Nat) × Nat) :=
 List.rec (some ([(k, v, clock)], Nat.succ clock)) (λ a t r => ifS none (λ b => ifB b (some ((k, v, a.2.2) :: t, clock)) (ifS none (λ q => some (a :: q.1, q.2)) r)) (eU f k a.1)) es
def CY (z : AV) (ok : Bool) (r : Option AV) : AV := ifS (ifB ok (.tuple [z, .bool false]) z) (λ v => ifB ok (.tuple [v, .bool true]) v) r
def mZ (f : FK) (z : AV) (m k : Opd) (ok : Bool) : Ev := λ _ e =>
 onMap fail (ifS (M.pure (CY z ok none)) λ n => M.bind (getMap n) λ r => ifS fail (λ x => M.pure (CY z ok x)) (Bk f (ev e k) r.1)) (ev e m)
def eR (f : FK) (m k x : Opd) : Ev := λ _ e =>
 onMap fail (ifS fail λ n => M.bind (getMap n) λ r => ifS fail (λ q => M.map (λ _ => undefA) (setMap n q)) (Es f (ev e k) (ev e x) r.2 r.1)) (ev e m)
def kS (x : Opd) (i : Nat) : Ev := λ _ e => onTuple fail (λ l => ifC fail (λ v _ => M.pure v) (dropN i l)) (ev e x)
def xf (f : Opd) (args : List Opd) : Ev := λ call e => onFn fail (λ g a b => call g (List.append a (List.append (evs e args) b))) (ev e f)
def Ai (q : Option Nat) (v : AV) : M AV := ifS (M.pure v) (λ off => onPtr fail (ifS fail λ a => load1 a.1 (Nat.add a.2 off)) v) q
def nj (mt : Nat -> Option (Nat × Option Nat)) (x : Opd) (args : List Opd) : Ev := λ call e =>
 onIface fail fail (λ t v => ifS fail (λ q => M.bind (Ai q.2 v) λ r => call q.1 (r :: evs e args)) (mt t)) (ev e x)
def vn (z : Option AV) : M AV := ifS fail (λ z => M.pure (.tuple [z, .bool false])) z
def fD (t : Nat) (z : Option AV) (x : Opd) : Ev := λ _ e =>
 onIface fail (vn z) (λ u v => ifB (Nat.beq u t) (M.pure (ifS v (λ _ => .tuple [v, .bool true]) z)) (vn z)) (ev e x)
def strCells (size : Nat) (s : List Nat) : M (List AV × Nat) := ifB (Nat.beq size 1) (M.pure (u8s s, len s)) fail
def zU (size : Nat) (v : AV) : M (List AV × Nat) :=
 onSlice (onStr fail (strCells size) v) (λ a k _ _ => ifS (ifB (Nat.beq k 0) (M.pure ([], 0)) fail) (λ a => M.map (λ l => (l, k)) (loadN a.1 a.2 (Nat.mul k size))) a) v
def Cu (z : List AV) (v : AV) : M (List AV × Nat) := ifS fail (λ k => ifB (Nat.ble k 1048576) (M.pure (mQ z k, k)) fail) (asN v)
def Du (size : Nat) (n : Nat) (src : M Nat) : M AV := M.map (λ m => .slice (some (m, 0)) n n size) src
def FY (size : Nat) (p : Nat × Nat) (n c z : Nat) (l : List AV) (k : Nat) : M AV := M.map (λ _ => .slice (some p) (Nat.add n k) c z) (storeN p.1 (Nat.add p.2 (Nat.mul n size)) l)
def Cc (size : Nat) (p : Nat × Nat) (n z : Nat) (l : List AV) (k : Nat) : M AV := ifB (ifB (ifB (Nat.beq p.2 0) (Nat.beq z size) false) (gL l) false)
 (M.bind (killRow p.1 0 (Nat.mul n size)) λ o => Du size (Nat.add n k) (newO (.row (List.append o l)))) fail
def FZ (size : Nat) (a : Option (Nat × Nat)) (n c z : Nat) (l : List AV) (k : Nat) : M AV :=
 ifB (Nat.ble (Nat.add n k) 1048576)
  (Bool.rec (ifS (ifB (Nat.beq n 0) (Du size (Nat.add n k) (newO (.row l))) fail) (λ p => Cc size p n z l k) a)
    (ifS (M.pure (.slice none (Nat.add n k) c z)) (λ p => FY size p n c z l k) a) (Nat.ble (Nat.add n k) c)) fail
def Fi (size : Nat) (src : M (List AV × Nat)) (v : AV) : M AV := onSlice fail (λ a n c z => M.bind src λ r => FZ size a n c z r.1 r.2) v
def nr (size : Nat) (x y : Opd) : Ev := λ _ e => Fi size (zU size (ev e y)) (ev e x)
def kT (size : Nat) (z : List AV) (x y : Opd) : Ev := λ _ e => Fi size (Cu z (ev e y)) (ev e x)
def int64 (n : Nat) : AV := .int .i64 (.ofNat n)
def ng (x : Opd) : Ev := λ _ e => onStr fail (λ s => M.pure (int64 (len s))) (ev e x)
def rC (x : Opd) : Ev := λ _ e => onSlice fail (λ _ n _ _ => M.pure (int64 n)) (ev e x)
def nh (x : Opd) : Ev := λ _ e => onMap fail (ifS (M.pure (int64 0)) λ m => M.map (λ r => int64 (len r.1)) (getMap m)) (ev e x)
def ni (n : Nat) : Ev := λ _ _ => M.pure (int64 n)
def Dc (x : Opd) : Ev := λ _ e => onSlice fail (λ a _ c _ => ifS (M.pure (int64 c)) (λ _ => fail) a) (ev e x)
def ju (mx : Bool) (x y : Opd) : Ev := λ _ e => onInt fail (λ k a => onInt fail (λ _ b => M.pure (.int k (ifB (ifB mx (ltI a b) (ltI b a)) b a))) (ev e y)) (ev e x)
def xd (size : Nat) (x y : Opd) : Ev := λ _ e => onSlice fail (λ a n _ z => ifB (ifS true (λ _ => Nat.beq z size) a) (M.bind (zU size (ev e y)) λ r => ifB (Nat.ble r.2 n) (M.map (λ _ => int64 r.2) (ifS (M.pure ()) (λ p => storeN p.1 p.2 r.1) a)) fail) fail) (ev e x)
def Fb (f : FK) (k z : AV) (clock : Nat) (es : List (AV × AV × Nat)) : Option ((List (AV × AV × Nat) × Nat) × AV × Nat) :=
 List.rec (some (([(k, z, clock)], Nat.succ clock), z, clock)) (λ a t r => ifS none (λ b => ifB b (some (((k, a.2.1, a.2.2) :: t, clock), a.2.1, a.2.2)) (ifS none (λ q => some ((a :: q.1.1, q.1.2), q.2)) r)) (eU f k a.1)) es
def jv (f : FK) (z : AV) (m k : Opd) : Ev := λ _ e =>
 onMap fail (ifS fail λ n => M.bind (getMap n) λ r => ifS fail (λ q => M.map (λ _ => .tuple [q.2.1, int64 q.2.2]) (setMap n q.1)) (Fb f (ev e k) z r.2 r.1)) (ev e m)
def CU (b : Nat) (x : AV) (es : List (AV × AV × Nat)) : Option (List (AV × AV × Nat)) :=
 List.rec none (λ a t r => ifB (Nat.beq a.2.2 b) (some ((a.1, x, a.2.2) :: t)) (ifS none (λ q => some (a :: q)) r)) es
def gk (m s x : Opd) : Ev := λ _ e =>
 onMap fail (ifS fail λ n => ifS fail (λ b => M.bind (getMap n) λ r => ifS fail (λ q => M.map (λ _ => undefA) (setMap n (q, r.2))) (CU b (ev e x) r.1)) (asN (ev e s))) (ev e m)
def AK : Ev := λ _ _ => fail
def putE (d : Option Nat) (v : AV) (s : St) : St := ifS s (λ d => ⟨.put d v s.env, s.defers⟩) d
def isB (w : Bool) (v : AV) : Bool := onBool false (λ b => ifB b w (not w)) v
inductive It where
 | val (d : Option Nat) (g : Option (Nat × Bool)) (f : Ev)
 | dfr (d : Option Nat) (f : Opd) (args : List Opd)
 | bad
def iP (d : Option Nat) (g : Option (Nat × Bool)) (f : Ev) (call : Ctx) (s : St) : M St :=
 ifS (M.map (λ v => putE d v s) (f call s.env)) (λ q => ifB (isB q.2 (s.env.get q.1)) (M.map (λ v => putE d v s) (f call s.env)) (M.pure (putE d undefA s))) g
def D8 (d : Option Nat) (f : Opd) (args : List Opd) (s : St) : M St :=
 onFn fail (λ g a b => M.pure (putE d undefA ⟨s.env, (g, List.append a (List.append (evs s.env args) b)) :: s.defers⟩)) (ev s.env f)
def mm (call : Ctx) (s : St) (i : It) : M St := It.rec (λ d g f => iP d g f call s) (λ d f args => D8 d f args s) fail i
def tV (call : Ctx) (l : List It) : St -> M St := List.rec (motive := λ _ => St -> M St) M.pure (λ i _ ih s => M.bind (mm call s i) ih) l
def gH (call : Ctx) (s : St) (i : It) : M St := It.rec (λ d g f => iP d g f call s) (λ _ _ _ => fail) fail i
def ef (call : Ctx) (l : List It) : St -> M (List (Nat × Nat × Log) × St) := List.rec (motive := λ _ => St -> M (List (Nat × Nat × Log) × St)) (λ s => M.pure ([], s))
 (λ i _ ih s c h => Rs.rec .fail (λ s1 c1 h1 f1 => Rs.rec .fail (λ r c2 h2 f2 => .ok ((c, c1, f1) :: r.1, r.2) c2 h2 (List.append f1 f2)) (ih s1 c1 h1)) (gH call s i c h)) l
def AR (x y : Option Nat) : Bool := ifS true (λ a => ifS true (Nat.beq a) y) x
def qN (q p : Nat × Option Nat × Bool) : Bool := ifB (Nat.beq q.1 p.1) (ifB (ifB q.2.2 true p.2.2) (AR q.2.1 p.2.1) false) false
def pv (q : Nat × Option Nat × Bool) (l : Log) : Bool := List.rec true (λ p _ r => ifB (qN q p) false r) l
def jg (k l : Log) : Bool := List.rec true (λ q _ r => ifB (pv q l) r false) k
def rE (n : Nat) : List (Nat × Nat × Log) -> Nat × Nat × Log := Nat.rec (motive := λ _ => List (Nat × Nat × Log) -> Nat × Nat × Log) (ifC (0, 0, []) λ a _ => a) (λ _ g l => ifC (0, 0, []) (λ _ t => g t) l) n
def Ao (lo hi : Nat) (l : Log) : Bool := List.rec true (λ q _ r => ifB (ifB (Nat.blt q.1 lo) true (Nat.ble hi q.1)) r false) l
def iB (a b : Nat × Nat × Log) : Bool := ifB (jg a.2.2 b.2.2) (Ao a.1 a.2.1 b.2.2) false
def mY (fs : List (Nat × Nat × Log)) (ps : List (Nat × Nat)) : Bool := List.rec true (λ p _ r => ifB (iB (rE p.1 fs) (rE p.2 fs)) r false) ps
inductive X where
 | normal
 | ret
 | exit (id : Nat)
abbrev cM := Ctx -> St -> M (X × St)
def xC : cM := λ _ s => M.pure (.normal, s)
def xD (l : List It) : cM := λ call s => M.map (λ s => (.normal, s)) (tV call l s)
def pg (ps : List (Nat × Nat)) (l : List It) : cM := λ call s => M.bind (ef call l s) λ r => ifB (mY r.1 ps) (M.pure (.normal, r.2)) fail
inductive Box (α : Type) where
 | mk (a : α)
def Box.rn {α β : Type} (k : α -> β) (b : Box α) : β := Box.rec k b
def onN (k : St -> M (X × St)) (r : X × St) : M (X × St) := X.rec (k r.2) (M.pure (.ret, r.2)) (λ i => M.pure (.exit i, r.2)) r.1
def Fd (a b : cM) : cM := λ call s => M.bind (a call s) (onN (b call))
def BW (c : Opd) (a b : cM) : cM := λ call s => onBool fail (λ t => ifB t (a call s) (b call s)) (ev s.env c)
def Fg (id : Nat) (r : X × St) : X × St := (X.rec .normal .ret (λ i => ifB (Nat.beq i id) .normal (.exit i)) r.1, r.2)
def wi (id : Nat) (b : cM) : cM := λ call s => M.map (Fg id) (b call s)
def lY (s : St) : St := ⟨.base s.env.flush, s.defers⟩
def xl (b : cM) (n : Nat) : cM := Nat.rec (motive := λ _ => cM) (λ _ _ => fail) (λ _ g call s => M.bind (b call s) (onN λ s => g call (lY s))) n
def BV (b : cM) : cM := xl b 100000
def Ej (id : Nat) : cM := λ _ s => M.pure (.exit id, s)
def FW : cM := λ _ s => M.pure (.ret, s)
def pK : cM := λ _ _ => fail
def gE {α β : Type} (f : α -> Option β) (l : List α) : Option (List β) := List.rec (some []) (λ a _ r => ifS none (λ b => ifS none (λ r => some (b :: r)) r) (f a)) l
def ofS (v : Value) : Option AV := match v with
 | .bool b => some (.bool b)
 | .int k n => some (.int k n)
 | .string s => some (.str (s.data.toList.map UInt8.toNat))
 | .pointer none => some (.ptr none)
 | .slice none 0 0 => some (.slice none 0 0 0)
 | .map none => some (.map none)
 | .nilFunc => some .nilFn
 | .nilIface => some .nilIface
 | .func (.func f) ⟨[]⟩ ⟨[]⟩ => some (.fn f [] [])
 | _ => none
def ofV (v : Value) : Option AV := match v with
 | .agg cs => ifS none (λ l => some (.agg l)) (gE ofS cs.toList)
 | .tuple ⟨[]⟩ => some (.tuple [])
 | v => ofS v
def aS (x : Operand) : Option Opd := match x with
 | .tmp t => some (.tmp t)
 | .const v => ifS none (λ a => some (.const a)) (ofV v)
 | .global _ => none
 | .func f => some (.const (.fn f [] []))
def gC (l : List Operand) : Option (List Opd) := gE aS l
def jb (x : Option Operand) : Option (Option Opd) := ifS (some none) (λ x => ifS none (λ y => some (some y)) (aS x)) x
variable (P : Program)
def cD (t : TypeId) : Option AV := ifS none (λ i => ifS none (λ z => ifS none (λ v => ifB (ifB (Nat.beq (len v.cells) i.size) (Nat.ble i.bytes 1048576) false) (some v) none) (ofV z)) i.zero) (P.info? t)
def bY (t : TypeId) : Option Nat := ifS none (λ i => some i.size) (P.info? t)
def Bb (d : TypeDesc) : Bool := match d with
 | .struct _ => true
 | .array _ _ => true
 | _ => false
def jh (t : TypeId) : Option Bool := ifS none (λ d => some (Bb d)) (P.underlying t)
def lj (t : TypeId) : Option TypeId := match P.underlying t with
 | some (.slice e) => some e
 | _ => none
def DT (s e : TypeId) (x y : Opd) : Option Ev :=
 ifS none (λ el => ifS none (λ z => ifS none (λ d => match d with
  | .int _ => some (kT (len z.cells) z.cells x y)
  | _ => some (nr (len z.cells) x y)) (P.underlying e)) (cD P el)) (lj P s)
def DQ (t : TypeId) (x : Opd) : Option Ev := match P.underlying t with
 | some (.array n _) => some (ni n)
 | some (.pointer a) => (match P.underlying a with | some (.array n _) => some (ni n) | _ => none)
 | some .string => some (ng x)
 | some (.slice _) => some (rC x)
 | some (.map _ _) => some (nh x)
 | _ => none
def eW (b : Builtin) (args : List Opd) (ts : List TypeId) : Option Ev :=
 match b, args, ts with
 | .append, [x, y], [s, e] => DT P s e x y
 | .len, [x], [t] => DQ P t x
 | .cap, [x], [t] => ifS none (λ _ => some (Dc x)) (lj P t)
 | .min, [x, y], _ => some (ju false x y)
 | .max, [x, y], _ => some (ju true x y)
 | _, _, _ => none
def xF (args : List Opd) (ts : List TypeId) : Option Ev := match args, ts with
 | [x, y], [s, _] => ifS none (λ el => ifS none (λ n => some (xd n x y)) (bY P el)) (lj P s)
 | _, _ => none
def f9 (b : Builtin) (args : List Opd) (ts : List TypeId) : Option Ev := match b with
 | .copy => xF P args ts
 | b => eW P b args ts
def CX (fs : Array Field) : Option (List (Nat × Nat)) := fs.toList.mapM (λ f => (P.info? f.type).map λ i => (f.offset, i.size))
def An (ps : List (Nat × Nat)) (q : Nat × Operand) : Option (Nat × Nat × Opd) := ifS none (λ p => ifS none (λ x => some (p.1, p.2, x)) (aS q.2)) ps[q.1]?
def qg (s : Nat) (q : Nat × Operand) : Option (Nat × Nat × Opd) := ifS none (λ x => some (q.1 * s, s, x)) (aS q.2)
def pj (t : TypeId) (ps : List (Nat × Operand)) (z : AV) : Option Ev := match P.underlying t with
 | some (.struct fs) => ifS none (λ pl => ifS none (λ l => some (lS z.cells l)) (gE (An pl) ps)) (CX P fs)
 | some (.array _ el) => ifS none (λ s => ifS none (λ l => some (lS z.cells l)) (gE (qg s) ps)) (bY P el)
 | _ => none
def xG (x : Opd) (a b : TypeDesc) : Option Ev := match a, b with
 | .int _, .int k => some (xe k x)
 | .int _, .string => some (Db x)
 | .string, .string => some (wZ x)
 | _, _ => none
def r8 (x : Opd) (a b : TypeDesc) : Option Ev := match a, b with
 | .string, .slice e => (match P.underlying e with | some (.int .u8) => some (jr x) | _ => none)
 | a, b => xG x a b
def r6 (t : TypeId) (x : Opd) (lo hi : Option Opd) : Option Ev := match P.underlying t with
 | some .string => some (js x lo hi)
 | some (.slice el) => ifS none (λ n => some (kP n x lo hi)) (bY P el)
 | _ => none
def ja (s : TypeId) (i : Nat) : Option Field := match P.underlying s with
 | some (.struct fs) => fs[i]?
 | _ => none
def lN (t : TypeId) : Bool := match P.underlying t with
 | some (.interface _) => false
 | some _ => true
 | none => false
def iu (t : TypeId) (x i : Opd) : Option Ev := match P.underlying t with
 | some (.array n el) => ifS none (λ z => some (kR n z x i)) (bY P el)
 | some (.slice el) => ifS none (λ z => some (kQ z x i)) (bY P el)
 | _ => none
def r7 (t : TypeId) (x i : Opd) : Option Ev := match P.underlying t with
 | some (.array n el) => ifS none (λ z => ifS none (λ b => some (jw n z b x i)) (jh P el)) (bY P el)
 | some .string => some (jx x i)
 | _ => none
def rK (t : TypeId) : Option (TypeId × TypeId) := match P.underlying t with
 | some (.map k e) => some (k, e)
 | _ => none
def fkO (t : TypeId) : Option FK := match P.underlying t with
 | some (.int _) => some .int
 | some .string => some .str
 | some .bool => some .bool
 | _ => none
def oU (f : Field) : Option (Nat × FK) := ifB (f.name != "_") (ifS none (λ k => some (f.offset, k)) (fkO P f.type)) none
def jz (x : Operand) : Bool := match x with
 | .const _ => true
 | _ => false
def yQ (t : TypeId) (x y : Operand) : Option (AV -> AV -> Option Bool) := match P.underlying t with
 | some .bool => some (eU .bool)
 | some (.pointer e) => ifS none (λ n => ifB (Nat.beq n 0) none (some Eh)) (bY P e)
 | some (.slice _) => some FR
 | some (.map _ _) => some Ei
 | some (.func _ _ _) => some FV
 | some (.interface _) => ifB (ifB (jz x) true (jz y)) (some FT) none
 | some (.struct fs) => ifB (ifB (P.eqGuardType P.depth t) false (not (P.stoodInHeld t))) (ifS none (λ ks => some (FU ks)) (gE (oU P) fs.toList)) none
 | _ => none
def rO (t : TypeId) : Bool := match P.underlying t with
 | some (.int _) => true
 | some .string => true
 | _ => false
def B9 (op : BinOp) (t : TypeId) (x y : Operand) (a b : Opd) : Option Ev := ifB (rO P t) (some (De op a b)) (match op with
 | .eql => ifS none (λ f => some (oEq f true a b)) (yQ P t x y)
 | .neq => ifS none (λ f => some (oEq f false a b)) (yQ P t x y)
 | _ => none)
def qC (f : Field) : Option Nat := ifB (ifB (P.underlying f.type matches some (.pointer _)) false true) (ifS none (λ b => ifB b none (ifS none (λ n => ifB (Nat.beq n 0) none (some f.offset)) (bY P f.type))) (jh P f.type)) none
def Ee (t : TypeId) (m : Method) : Option (Nat × Option Nat) := match m.path.toList, m.func with
 | [], some (f, true) => (match P.underlying t with | some (.pointer _) => some (f, none) | _ => none)
 | [s], some (f, false) => ifB s.deref (ifS none (λ fd => ifS none (λ off => some (f, some off)) (qC P fd)) (ja P s.struct s.index)) none
 | _, _ => none
def AP (name : String) (t : TypeId) : Option (Nat × Option Nat) := ifS none (λ i => ifS none (Ee P t) (i.methods.find? (·.name == name))) (P.info? t)
def xH (c : Call) (args : List Opd) : Option Ev := match c.callee with
 | .value f => ifS none (λ f => some (xf f args)) (aS f)
 | .builtin b => f9 P b args c.argTypes.toList
 | .invoke x name => ifS none (λ x => some (nj (AP P name) x args)) (aS x)
def cOp (o : Op) : Option Ev :=
 match o with
 | .move x => ifS none (λ x => some (qm x)) (aS x)
 | .assign x => ifS none (λ x => some (qm x)) (aS x)
 | .pick c a b => ifS none (λ c => ifS none (λ a => ifS none (λ b => some (xa c a b)) (aS b)) (aS a)) (aS c)
 | .alloc e => ifS none (λ z => some (vo z.cells)) (cD P e)
 | .box _ x => ifS none (λ x => some (Dd x)) (aS x)
 | .build t ps => ifS none (pj P t ps.toList) (cD P t)
 | .buildSlice t n ps => ifS none (λ el => ifS none (λ z => ifB (Nat.ble (n * Nat.succ (len z.cells)) 16777216) (ifS none (λ l => some (gm (len z.cells) (mQ z.cells n) n l)) (gE (qg (len z.cells)) ps.toList)) none) (cD P el)) (lj P t)
 | .load t a => ifS none (λ a => ifS none (λ b => ifB b (ifS none (λ n => some (jS n a)) (bY P t)) (some (rB a))) (jh P t)) (aS a)
 | .store t a x => ifS none (λ a => ifS none (λ x => ifS none (λ n => some (rA n a x)) (bY P t)) (aS x)) (aS a)
 | .nilCheck x => ifS none (λ x => some (jt x)) (aS x)
 | .binOp op t x y _ => ifS none (λ a => ifS none (λ b => B9 P op t x y a b) (aS y)) (aS x)
 | .unOp .not _ x => ifS none (λ x => some (C9 x)) (aS x)
 | .unOp .neg _ x => ifS none (λ x => some (Da x)) (aS x)
 | .convert s d x => ifS none (λ x => ifS none (λ a => ifS none (λ b => r8 P x a b) (P.underlying d)) (P.underlying s)) (aS x)
 | .makeInterface t x => ifS none (λ x => ifB (lN P t) (some (rD t x)) none) (aS x)
 | .makeFunc (.func f) a b => ifS none (λ a => ifS none (λ b => some (xb f a b)) (gC b.toList)) (gC a.toList)
 | .makeMap _ none => some ow
 | .makeSlice t l c => ifS none (λ el => ifS none (λ z => ifS none (λ l => ifS none (λ c => some (hU z.cells l c)) (aS c)) (aS l)) (cD P el)) (lj P t)
 | .slice t x lo hi none => ifS none (λ x => ifS none (λ lo => ifS none (λ hi => r6 P t x lo hi) (jb hi)) (jb lo)) (aS x)
 | .fieldAddr s x i => ifS none (λ x => ifS none (λ f => ifS none (λ n => ifB (Nat.beq n 0) none (some (ia f.offset x))) (bY P f.type)) (ja P s i)) (aS x)
 | .field s x i => ifS none (λ x => ifS none (λ f => ifS none (λ b => ifB b (ifS none (λ n => some (hY f.offset n x)) (bY P f.type)) (some (np f.offset x))) (jh P f.type)) (ja P s i)) (aS x)
 | .indexAddr t x i => ifS none (λ x => ifS none (λ i => iu P t x i) (aS i)) (aS x)
 | .index t x i => ifS none (λ x => ifS none (λ i => r7 P t x i) (aS i)) (aS x)
 | .lookup t m k ok => ifS none (λ m => ifS none (λ k => ifS none (λ q => ifS none (λ f => ifS none (λ z => some (mZ f z m k ok)) (cD P q.2)) (fkO P q.1)) (rK P t)) (aS k)) (aS m)
 | .mapUpdate t m k x => ifS none (λ m => ifS none (λ k => ifS none (λ x => ifS none (λ q => ifS none (λ f => some (eR f m k x)) (fkO P q.1)) (rK P t)) (aS x)) (aS k)) (aS m)
 | .insert t m k x => ifS none (λ m => ifS none (λ k => ifS none (λ x => ifS none (λ q => ifS none (λ f => some (eR f m k x)) (fkO P q.1)) (rK P t)) (aS x)) (aS k)) (aS m)
 | .mapEntry t m k => ifS none (λ m => ifS none (λ k => ifS none (λ q => ifS none (λ f => ifS none (λ z => some (jv f z m k)) (cD P q.2)) (fkO P q.1)) (rK P t)) (aS k)) (aS m)
 | .entryStore _ m s x => ifS none (λ m => ifS none (λ s => ifS none (λ x => some (gk m s x)) (aS x)) (aS s)) (aS m)
 | .extract x i => ifS none (λ x => some (kS x i)) (aS x)
 | .call c => ifS none (xH P c) (gC c.args.toList)
 | .typeAssert x _ t ok => ifS none (λ x => ifB (lN P t) (ifB ok (ifS none (λ z => some (fD t (some z) x)) (cD P t)) (some (fD t none x))) none) (aS x)
 | _ => none
def j6 (o : Op) : Option (Opd × List Opd) := match o with
 | .defer c => (match c.callee with
   | .value f => ifS none (λ f => ifS none (λ l => some (f, l)) (gC c.args.toList)) (aS f)
   | _ => none)
 | _ => none
def jX (ops : Array Oper) (g : Option (Nat × Bool)) : Option (Option (Nat × Bool)) :=
 ifS (some none) (λ g => ifS none (λ o => ifS none (λ t => some (some (t, g.2))) o.dst) ops[g.1]?) g
def qI (n : Nat) (d : Option Nat) : Bool := ifS true (λ d => Nat.blt d n) d
def cIt (n : Nat) (ops : Array Oper) (o : Oper) : It :=
 ifB (qI n o.dst) (ifS (ifS .bad (λ g => .val o.dst g (ifS AK (λ f => f) (cOp P o.op))) (jX ops o.guard)) (λ q => ifS (.dfr o.dst q.1 q.2) (λ _ => .bad) o.guard) (j6 o.op)) .bad
def iJ {α β : Type} (f : α -> β) (l : List α) : List β := List.rec [] (λ a _ r => f a :: r) l
def gu (ps : List Nat) (l : List Edge) : Nat :=
 List.rec 0 (λ e _ r => ifB (Region.binds .any e) (ifS r (λ m => Nat.lor r (Nat.lor m (Nat.shiftLeft 1 e.on))) (ps[e.on]?)) r) l
def sl (l : List Oper) : List Nat -> List Nat := List.rec (motive := λ _ => List Nat -> List Nat) (λ ps => ps) (λ o _ g ps => g (List.append ps [gu ps o.after.toList])) l
def lO (ops : Array Oper) (m j : Nat) (oj : Oper) (i : Nat) : Option (List (Nat × Nat)) :=
 Nat.rec (some []) (λ i r => ifB (Nat.testBit m i) r (ifS none (λ oi => ifB (Oper.apart ops oi oj) (ifS none (λ l => some ((i, j) :: l)) r) none) ops[i]?)) i
def qP (j : Nat) (l : List Edge) : Bool := List.rec true (λ e _ r => ifB (ifB (Region.binds .any e) (Nat.blt e.on j) true) r false) l
def oq (ops : Array Oper) (ps : List Nat) (j : Nat) : Option (List (Nat × Nat)) :=
 Nat.rec (some []) (λ j r => ifS none (λ m => ifS none (λ oj => ifB (qP j oj.after.toList) (ifS none (λ l => ifS none (λ k => some (List.append l k)) (lO ops m j oj j)) r) none) ops[j]?) ps[j]?) j
def gj (ops : Array Oper) : Option (List (Nat × Nat)) := oq ops (sl ops.toList []) ops.size
def BR (n : Nat) (ops : Array Oper) (draw : Bool) : Box cM :=
 ifB draw (ifB (P.follows .mixedOrders) (ifS (.mk pK) (λ ps => .mk (pg ps (iJ (cIt P n ops) ops.toList))) (gj ops)) (.mk pK)) (.mk (xD (iJ (cIt P n ops) ops.toList)))
def fl (n : Nat) (c : Code) : Box cM :=
 Code.rec (motive := λ _ => Box cM) (.mk xC) (λ _ ops d => BR P n ops d)
  (λ _ _ f g => Box.rn (λ f => Box.rn (λ g => .mk (Fd f g)) g) f)
  (λ c _ _ f g => ifS (.mk pK) (λ x => Box.rn (λ f => Box.rn (λ g => .mk (BW x f g)) g) f) (aS c))
  (λ id _ f => Box.rn (λ f => .mk (wi id f)) f) (λ _ f => Box.rn (λ f => .mk (BV f)) f) (λ _ _ _ _ _ _ => .mk pK)
  (λ id => .mk (Ej id)) (λ _ f => f) (λ _ => .mk xC) (λ _ => .mk pK) (.mk FW) (λ _ => .mk pK) c
inductive RV where
 | tmp (t : Nat)
 | one (a : Nat)
 | many (a : Nat) (n : Nat)
structure AF where
 results : List RV
 body : cM
def wg (r : ResultVar) : Option RV := match r with
 | .tmp t => some (.tmp t)
 | .cell a t => ifS none (λ b => ifB b (ifS none (λ n => some (.many a n)) (bY P t)) (some (.one a))) (jh P t)
def FX (f : Func) : Option AF := ifS none (λ rs => ifS none (λ b => Box.rn (λ g => some ⟨rs, g⟩) (fl P f.ntmps b)) f.body) (gE (wg P) f.results.toList)
def tab (f : Nat) : Option AF := ifS none (λ fn => ifB (fn.name == "runtime.NumGoroutine") none (FX P fn)) P.funcs[f]?
def tR (l : List AV) : T AV -> Nat -> T AV := List.rec (motive := λ _ => T AV -> Nat -> T AV) (λ t _ => t) (λ v _ g t i => g (t.set i (some v)) (Nat.succ i)) l
def CS (e : Env) (r : RV) : M AV := RV.rec (λ t => M.pure (e.get t)) (λ a => kX (e.get a)) (λ a n => kW n (e.get a)) r
def uU (e : Env) (l : List RV) : M (List AV) := List.rec (M.pure []) (λ r _ g => M.bind (CS e r) λ v => M.map (λ vs => v :: vs) g) l
def one (l : List AV) : AV := ifC (.tuple []) (λ v t => ifC v (λ _ _ => .tuple l) t) l
def hasN (n : Nat) (l : List Nat) : Bool := List.rec false (λ a _ r => ifB (Nat.beq a n) true r) l
def rx (l : List AV) : Bool := ifC false (λ v t => ifC (onPtr false (ifS false λ _ => true) v) (λ _ _ => false) t) l
def il (idle : List Nat) (l : List (Nat × List AV)) : Bool := List.rec true (λ q _ r => ifB (ifB (hasN q.1 idle) (rx q.2) false) r false) l
def keep (c : Nat) (l : Log) : Log := List.rec [] (λ q _ r => ifB (Nat.blt q.1 c) (q :: r) r) l
def dropPriv {α : Type} (m : M α) : M α := λ c h => Rs.rec (motive := λ _ => Rs α) .fail (λ a c1 h1 l => .ok a c1 h1 (keep c l)) (m c h)
def rP (x : X) : Bool := X.rec false false (λ _ => true) x
def Ef (idle : List Nat) (rs : List RV) (r : X × St) : M AV :=
 ifB (rP r.1) fail (ifB (il idle r.2.defers) (M.map one (uU r.2.env rs)) fail)
def By (idle : List Nat) (call : Ctx) (args : List AV) (o : Option AF) : M AV :=
 ifS fail (λ fn => dropPriv (M.bind (fn.body call ⟨.base (tR args .leaf 0), []⟩) (Ef idle fn.results))) o
def wJ (args : List AV) : M AV := ifC fail (λ v t => ifC (onStr fail (λ s => ifB (Nat.ble (len s) 1048576) (M.pure (.str s)) fail) v) (λ _ _ => fail) t) args
def evCall (idle same : List Nat) (d : Nat) : Ctx := Nat.rec (motive := λ _ => Ctx) (λ _ _ => fail) (λ _ g f args => ifB (hasN f same) (wJ args) (By idle g args (tab P f))) d
abbrev Ren := Nat -> Option (Nat × Nat)
mutual
def VR (ρ : Ren) : AV -> Value -> Prop
 | .bool b, v => v = .bool b
 | .int k n, v => v = .int k n
 | .str s, v => ∃ b : ByteArray, v = .string b /\ b.data.toList.map UInt8.toNat = s
 | .ptr none, v => v = .pointer none
 | .ptr (some a), v => ∃ b z, ρ a.1 = some (b, z) /\ v = .pointer (some ⟨b, a.2, none⟩)
 | .slice none n c _, v => v = .slice none n c
 | .slice (some a) n c z, v => ∃ b s o k, ρ a.1 = some (b, s) /\ v = .slice (some ⟨b, o, none⟩) n k /\ c <= k /\ n <= c /\ (k = 0 ∨ o = a.2) /\ o + k * z <= s /\ k <= 9223372036854775807
 | .map none, v => v = .map none
 | .map (some a), v => ∃ b z, ρ a = some (b, z) /\ v = .map (some b)
 | .fn f a c, v => ∃ x y, v = .func (.func f) x y /\ VRs ρ a x.toList /\ VRs ρ c y.toList
 | .nilFn, v => v = .nilFunc
 | .iface t x, v => ∃ y, v = .iface t y /\ VR ρ x y
 | .nilIface, v => v = .nilIface
 | .agg l, v => ∃ x, v = .agg x /\ VRs ρ l x.toList
 | .tuple l, v => ∃ x, v = .tuple x /\ VRs ρ l x.toList
def VRs (ρ : Ren) : List AV -> List Value -> Prop
 | [], l => l = []
 | a :: x, l => ∃ v r, l = v :: r /\ VR ρ a v /\ VRs ρ x r
end
def Ren.le (ρ σ : Ren) : Prop := ∀ n p, ρ n = some p -> σ n = some p
theorem Ren.le_refl (ρ : Ren) : Ren.le ρ ρ := λ _ _ h => h
mutual
theorem VR.mono {ρ σ : Ren} (h : Ren.le ρ σ) : ∀ (a : AV) (v : Value), VR ρ a v -> VR σ a v
 | .bool _, _, e => by simpa only [VR] using e
 | .int _ _, _, e => by simpa only [VR] using e
 | .str _, _, e => by simpa only [VR] using e
 | .ptr none, _, e => by simpa only [VR] using e
 | .ptr (some _), _, e => by
   simp only [VR] at e ⊢
   obtain ⟨b, z, e, f⟩ := e
   exact ⟨b, z, h _ _ e, f⟩
 | .slice none _ _ _, _, e => by simpa only [VR] using e
 | .slice (some _) _ _ _, _, e => by
   simp only [VR] at e ⊢
   obtain ⟨b, s, o, k, e, f⟩ := e
   exact ⟨b, s, o, k, h _ _ e, f⟩
 | .map none, _, e => by simpa only [VR] using e
 | .map (some _), _, e => by
   simp only [VR] at e ⊢
   obtain ⟨b, z, e, f⟩ := e
   exact ⟨b, z, h _ _ e, f⟩
 | .fn _ a c, _, e => by
   simp only [VR] at e ⊢
   obtain ⟨x, y, e, f, g⟩ := e
   exact ⟨x, y, e, VRs.mono h a _ f, VRs.mono h c _ g⟩
 | .nilFn, _, e => by simpa only [VR] using e
 | .iface _ x, _, e => by
   simp only [VR] at e ⊢
   obtain ⟨y, e, f⟩ := e
   exact ⟨y, e, VR.mono h x _ f⟩
 | .nilIface, _, e => by simpa only [VR] using e
 | .agg l, _, e => by
   simp only [VR] at e ⊢
   obtain ⟨x, e, f⟩ := e
   exact ⟨x, e, VRs.mono h l _ f⟩
 | .tuple l, _, e => by
   simp only [VR] at e ⊢
   obtain ⟨x, e, f⟩ := e
   exact ⟨x, e, VRs.mono h l _ f⟩
theorem VRs.mono {ρ σ : Ren} (h : Ren.le ρ σ) : ∀ (a : List AV) (l : List Value), VRs ρ a l -> VRs σ a l
 | [], _, e => by simpa only [VRs] using e
 | a :: x, _, e => by
   simp only [VRs] at e ⊢
   obtain ⟨v, r, e, f, g⟩ := e
   exact ⟨v, r, e, VR.mono h a _ f, VRs.mono h x _ g⟩
end
theorem VRs.nil (ρ : Ren) : VRs ρ [] [] := by simp only [VRs]
theorem VRs.cons {ρ : Ren} {a : AV} {v : Value} {x : List AV} {r : List Value} (h : VR ρ a v) (k : VRs ρ x r) : VRs ρ (a :: x) (v :: r) := by
 simp only [VRs]; exact ⟨v, r, rfl, h, k⟩
theorem VRs.length {ρ : Ren} : ∀ {a : List AV} {l : List Value}, VRs ρ a l -> l.length = a.length
 | [], _, e => by simp only [VRs] at e; subst e; rfl
 | a :: x, _, e => by
   simp only [VRs] at e
   obtain ⟨v, r, rfl, _, g⟩ := e
   simp [VRs.length g]
theorem VRs.append {ρ : Ren} : ∀ {a b : List AV} {l m : List Value}, VRs ρ a l -> VRs ρ b m -> VRs ρ (a ++ b) (l ++ m)
 | [], _, _, _, e, f => by simp only [VRs] at e; subst e; exact f
 | a :: x, _, _, _, e, f => by
   simp only [VRs] at e
   obtain ⟨v, r, rfl, h, g⟩ := e
   exact VRs.cons h (VRs.append g f)
theorem VRs.get {ρ : Ren} : ∀ {a : List AV} {l : List Value} {i : Nat} {x : AV}, VRs ρ a l -> a[i]? = some x -> ∃ v, l[i]? = some v /\ VR ρ x v
 | [], _, _, _, _, h => by simp at h
 | a :: x, _, i, _, e, h => by
   simp only [VRs] at e
   obtain ⟨v, r, rfl, hv, g⟩ := e
   cases i with
   | zero => simp only [List.getElem?_cons_zero, Option.some.injEq] at h; subst h; exact ⟨v, rfl, hv⟩
   | succ i => simp only [List.getElem?_cons_succ] at h ⊢; exact VRs.get g h
theorem VRs.drop {ρ : Ren} : ∀ {a : List AV} {l : List Value} (n : Nat), VRs ρ a l -> VRs ρ (a.drop n) (l.drop n)
 | a, l, 0, e => by simpa using e
 | [], _, n + 1, e => by simp only [VRs] at e; subst e; simp [VRs]
 | a :: x, _, n + 1, e => by
   simp only [VRs] at e
   obtain ⟨v, r, rfl, _, g⟩ := e
   exact VRs.drop n g
theorem VRs.take {ρ : Ren} : ∀ {a : List AV} {l : List Value} (n : Nat), VRs ρ a l -> VRs ρ (a.take n) (l.take n)
 | a, l, 0, e => by simp [VRs]
 | [], _, n + 1, e => by simp only [VRs] at e; subst e; simp [VRs]
 | a :: x, _, n + 1, e => by
   simp only [VRs] at e
   obtain ⟨v, r, rfl, h, g⟩ := e
   exact VRs.cons h (VRs.take n g)
theorem VR.cells {ρ : Ren} {a : AV} {v : Value} (h : VR ρ a v) : VRs ρ a.cells v.cells.toList := by
 have k := h; cases a with
 | agg l => simp only [VR] at h; obtain ⟨x, rfl, h⟩ := h; exact h
 | bool b => simp only [VR] at h; subst h; exact VRs.cons k (VRs.nil ρ)
 | int b n => simp only [VR] at h; subst h; exact VRs.cons k (VRs.nil ρ)
 | str s => simp only [VR] at h; obtain ⟨_, rfl, _⟩ := h; exact VRs.cons k (VRs.nil ρ)
 | ptr a => cases a <;> simp only [VR] at h <;> (first | subst h | obtain ⟨_, _, _, rfl⟩ := h) <;> exact VRs.cons k (VRs.nil ρ)
 | slice a n c z => cases a <;> simp only [VR] at h <;> (first | subst h | obtain ⟨_, _, _, _, _, rfl, _⟩ := h) <;> exact VRs.cons k (VRs.nil ρ)
 | map a => cases a <;> simp only [VR] at h <;> (first | subst h | obtain ⟨_, _, _, rfl⟩ := h) <;> exact VRs.cons k (VRs.nil ρ)
 | fn f a c => simp only [VR] at h; obtain ⟨_, _, rfl, _⟩ := h; exact VRs.cons k (VRs.nil ρ)
 | nilFn => simp only [VR] at h; subst h; exact VRs.cons k (VRs.nil ρ)
 | iface t x => simp only [VR] at h; obtain ⟨_, rfl, _⟩ := h; exact VRs.cons k (VRs.nil ρ)
 | nilIface => simp only [VR] at h; subst h; exact VRs.cons k (VRs.nil ρ)
 | tuple l => simp only [VR] at h; obtain ⟨_, rfl, _⟩ := h; exact VRs.cons k (VRs.nil ρ)
section
variable {α β : Type}
theorem b8 (x y : α) : ifB true x y = x := rfl
theorem dL (x y : α) : ifB false x y = y := rfl
theorem i8 (d : β) (k : α -> β) : ifS d k none = d := rfl
theorem ld (d : β) (k : α -> β) (a : α) : ifS d k (some a) = k a := rfl
theorem Dt (d : β) (k : α -> List α -> β) : ifC d k [] = d := rfl
theorem T.get_leaf (n : Nat) : (T.leaf : T α).get n = none := rfl
theorem T.get_node (v : Option α) (l r : T α) (n : Nat) : (T.node v l r).get n = if n = 0 then v else if n % 2 = 1 then l.get (n / 2) else r.get (n / 2 - 1) := by
 show Bool.rec (motive := λ _ => Option α) (Bool.rec (motive := λ _ => Option α) (r.get (n / 2 - 1)) (l.get (n / 2)) (Nat.beq (n % 2) 1)) v (Nat.beq n 0) = _; cases h : Nat.beq n 0
 . have h0 : n ≠ 0 := λ e => by subst e; cases h
   rw [if_neg h0]; cases k : Nat.beq (n % 2) 1
   . have k0 : n % 2 ≠ 1 := λ e => by rw [e] at k; cases k
     rw [if_neg k0]
   . rw [if_pos (Nat.eq_of_beq_eq_true k)]
 . rw [if_pos (Nat.eq_of_beq_eq_true h)]
theorem T.set_node (v : Option α) (l r : T α) (n : Nat) (x : Option α) : (T.node v l r).set n x = if n = 0 then .node x l r else if n % 2 = 1 then .node v (l.set (n / 2) x) r else .node v l (r.set (n / 2 - 1) x) := by
 show Bool.rec (motive := λ _ => T α) (Bool.rec (motive := λ _ => T α) (.node v l (r.set (n / 2 - 1) x)) (.node v (l.set (n / 2) x) r) (Nat.beq (n % 2) 1)) (.node x l r) (Nat.beq n 0) = _; cases h : Nat.beq n 0
 . have h0 : n ≠ 0 := λ e => by subst e; cases h
   rw [if_neg h0]; cases k : Nat.beq (n % 2) 1
   . have k0 : n % 2 ≠ 1 := λ e => by rw [e] at k; cases k
     rw [if_neg k0]
   . rw [if_pos (Nat.eq_of_beq_eq_true k)]
 . rw [if_pos (Nat.eq_of_beq_eq_true h)]
theorem T.set1_succ (x : Option α) (f n : Nat) : T.set1 x (f + 1) n = if n = 0 then .node x .leaf .leaf else if n % 2 = 1 then .node none (T.set1 x f (n / 2)) .leaf else .node none .leaf (T.set1 x f (n / 2 - 1)) := by
 show Bool.rec (motive := λ _ => T α) (Bool.rec (motive := λ _ => T α) (.node none .leaf (T.set1 x f (n / 2 - 1))) (.node none (T.set1 x f (n / 2)) .leaf) (Nat.beq (n % 2) 1)) (.node x .leaf .leaf) (Nat.beq n 0) = _; cases h : Nat.beq n 0
 . have h0 : n ≠ 0 := λ e => by subst e; cases h
   rw [if_neg h0]; cases k : Nat.beq (n % 2) 1
   . have k0 : n % 2 ≠ 1 := λ e => by rw [e] at k; cases k
     rw [if_neg k0]
   . rw [if_pos (Nat.eq_of_beq_eq_true k)]
 . rw [if_pos (Nat.eq_of_beq_eq_true h)]
theorem T.get_set1 (x : Option α) : ∀ (f n : Nat), n < f -> ∀ m, (T.set1 x f n).get m = if m = n then x else none
 | 0, n, h, _ => absurd h (Nat.not_lt_zero n)
 | f + 1, n, h, m => by
   rw [T.set1_succ]
   by_cases h0 : n = 0
   . rw [if_pos h0, T.get_node]
     subst h0
     by_cases hm : m = 0
     . rw [if_pos hm, if_pos hm]
     . rw [if_neg hm, if_neg hm, T.get_leaf, T.get_leaf]
       simp
   . rw [if_neg h0]
     by_cases h1 : n % 2 = 1
     . rw [if_pos h1, T.get_node, T.get_leaf]
       by_cases hm : m = 0
       . rw [if_pos hm, if_neg zO]
       rw [if_neg hm]
       by_cases m1 : m % 2 = 1
       . rw [if_pos m1, T.get_set1 x f (n / 2) zO]
         by_cases e : m = n
         . rw [if_pos e, if_pos (by rw [e])]
         . rw [if_neg e, if_neg zO]
       . rw [if_neg m1, if_neg zO]
     . rw [if_neg h1, T.get_node, T.get_leaf]
       by_cases hm : m = 0
       . rw [if_pos hm, if_neg zO]
       rw [if_neg hm]
       by_cases m1 : m % 2 = 1
       . rw [if_pos m1, if_neg zO]
       . rw [if_neg m1, T.get_set1 x f (n / 2 - 1) zO]
         by_cases e : m = n
         . rw [if_pos e, if_pos (by rw [e])]
         . rw [if_neg e, if_neg zO]
theorem T.get_set (x : Option α) : ∀ (t : T α) (n m : Nat), (t.set n x).get m = if m = n then x else t.get m
 | .leaf, n, m => by
   show (T.set1 x (n + 1) n).get m = _
   rw [T.get_set1 x (n + 1) n (Nat.lt_succ_self n), T.get_leaf]
 | .node v l r, n, m => by
   rw [T.set_node]
   by_cases h0 : n = 0
   . rw [if_pos h0, T.get_node, T.get_node]
     by_cases hm : m = 0
     . rw [if_pos hm, if_pos zO]
     . rw [if_neg hm, if_neg (show ¬ m = n by omega), if_neg hm]
   . rw [if_neg h0]
     by_cases h1 : n % 2 = 1
     . rw [if_pos h1, T.get_node, T.get_node]
       by_cases hm : m = 0
       . rw [if_pos hm, if_pos hm, if_neg zO]
       rw [if_neg hm, if_neg hm]
       by_cases m1 : m % 2 = 1
       . rw [if_pos m1, if_pos m1, T.get_set x l]
         by_cases e : m = n
         . rw [if_pos e, if_pos (by rw [e])]
         . rw [if_neg e, if_neg zO]
       . rw [if_neg m1, if_neg m1, if_neg zO]
     . rw [if_neg h1, T.get_node, T.get_node]
       by_cases hm : m = 0
       . rw [if_pos hm, if_pos hm, if_neg zO]
       rw [if_neg hm, if_neg hm]
       by_cases m1 : m % 2 = 1
       . rw [if_pos m1, if_pos m1, if_neg zO]
       . rw [if_neg m1, if_neg m1, T.get_set x r]
         by_cases e : m = n
         . rw [if_pos e, if_pos (by rw [e])]
         . rw [if_neg e, if_neg zO]
end
theorem dropN_eq : ∀ (n : Nat) (l : List AV), dropN n l = l.drop n
 | 0, _ => rfl
 | _ + 1, [] => rfl
 | n + 1, _ :: l => dropN_eq n l
theorem takeN_eq : ∀ (n : Nat) (l r : List AV), takeN n l = some r -> r = l.take n /\ n <= l.length
 | 0, _, r, h => by cases h; exact ⟨rfl, Nat.zero_le _⟩
 | n + 1, [], r, h => by cases h
 | n + 1, a :: l, r, h => by
   have h : ifS none (λ r => some (a :: r)) (takeN n l) = some r := h
   cases k : takeN n l with
   | none => rw [k] at h; cases h
   | some q =>
     rw [k] at h
     cases h
     obtain ⟨rfl, e⟩ := takeN_eq n l q k
     exact ⟨rfl, Nat.succ_le_succ e⟩
theorem wQ : ∀ (vs cs r : List AV), putL vs cs = some r -> r = vs ++ cs.drop vs.length /\ vs.length <= cs.length
 | [], _, r, h => by cases h; exact ⟨rfl, Nat.zero_le _⟩
 | _ :: _, [], r, h => by cases h
 | v :: vs, _ :: cs, r, h => by
   have h : ifS none (λ r => some (v :: r)) (putL vs cs) = some r := h
   cases k : putL vs cs with
   | none => rw [k] at h; cases h
   | some q =>
     rw [k] at h
     cases h
     obtain ⟨rfl, e⟩ := wQ vs cs q k
     exact ⟨rfl, Nat.succ_le_succ e⟩
theorem iV (vs : List AV) : ∀ (n : Nat) (cs r : List AV), fx vs n cs = some r -> r = cs.take n ++ (vs ++ cs.drop (n + vs.length)) /\ n + vs.length <= cs.length
 | 0, cs, r, h => by
   obtain ⟨rfl, e⟩ := wQ vs cs r h
   simpa using e
 | n + 1, [], r, h => by cases h
 | n + 1, a :: cs, r, h => by
   have h : ifS none (λ r => some (a :: r)) (fx vs n cs) = some r := h
   cases k : fx vs n cs with
   | none => rw [k] at h; cases h
   | some q =>
     rw [k] at h
     cases h
     obtain ⟨rfl, e⟩ := iV vs n cs q k
     refine ⟨?_, by simp only [List.length_cons]; omega⟩
     have : n + 1 + vs.length = n + vs.length + 1 := by omega
     rw [this]
     rfl
theorem len_eq {α : Type} : ∀ (l : List α), len l = l.length
 | [] => rfl
 | _ :: l => congrArg Nat.succ (len_eq l)
end Go.Sx
namespace Go.Sx
open Go.RowKit
def ERs (ρ : Ren) : List (AV × AV × Nat) -> List MapEntry -> Prop
 | [], l => l = []
 | q :: x, l => ∃ e r, l = e :: r /\ VR ρ q.1 e.key /\ VR ρ q.2.1 e.val /\ e.born = q.2.2 /\ ERs ρ x r
theorem ERs.mono {ρ σ : Ren} (h : Ren.le ρ σ) : ∀ (x : List (AV × AV × Nat)) (l : List MapEntry), ERs ρ x l -> ERs σ x l
 | [], _, e => e
 | _ :: x, _, ⟨e, r, h1, h2, h3, h4, h5⟩ => ⟨e, r, h1, VR.mono h _ _ h2, VR.mono h _ _ h3, h4, ERs.mono h x r h5⟩
def OR (ρ : Ren) (w : World) (b s : Nat) : AO -> Prop
 | .row cs => ∃ arr e lo hi l rest, w.heap[b]? = some (.cells arr e (lo, hi)) /\ arr.size = s /\ arr.toList = l ++ rest /\ VRs ρ cs l /\ ∀ i, i < s -> ¬ (lo <= i /\ i < hi)
 | .mp es k => ∃ a, w.heap[b]? = some (.map a k) /\ ERs ρ es a.toList
theorem OR.mono {ρ σ : Ren} (h : Ren.le ρ σ) {w w' : World} {b s : Nat} (hb : w'.heap[b]? = w.heap[b]?) : ∀ {o : AO}, OR ρ w b s o -> OR σ w' b s o
 | .row _, ⟨arr, e, lo, hi, l, rest, h1, h2, h3, h4, h5⟩ => ⟨arr, e, lo, hi, l, rest, hb.trans h1, h2, h3, VRs.mono h _ _ h4, h5⟩
 | .mp _ _, ⟨a, h1, h2⟩ => ⟨a, hb.trans h1, ERs.mono h _ _ h2⟩
theorem OR.lt {ρ : Ren} {w : World} {b s : Nat} {o : AO} (h : OR ρ w b s o) : b < w.heap.size := by
 have : ∃ x, w.heap[b]? = some x := by
  cases o with
  | row cs => obtain ⟨arr, e, lo, hi, l, rest, h1, _⟩ := h; exact ⟨_, h1⟩
  | mp es k => obtain ⟨a, h1, _⟩ := h; exact ⟨_, h1⟩
 obtain ⟨x, hx⟩ := this; rcases Nat.lt_or_ge b w.heap.size with h | h
 . exact h
 . rw [Array.getElem?_eq_none h] at hx; cases hx
structure Rel (ρ : Ren) (h : H) (w : World) : Prop where
 lies : ∀ n o, h.get n = some o -> ∃ b s, ρ n = some (b, s) /\ OR ρ w b s o
 alone : ∀ n m o p b s t, h.get n = some o -> h.get m = some p -> ρ n = some (b, s) -> ρ m = some (b, t) -> n = m
structure Post (ρ : Ren) (h : H) (w : World) (c c' : Nat) (ρ' : Ren) (h' : H) (w' : World) : Prop where
 rel : Rel ρ' h' w'
 ext : ∀ n, ¬ (c <= n /\ n < c') -> ρ' n = ρ n
 os : w'.os = w.os
 tape : w'.tape = w.tape
 output : w'.output = w.output
 size : w.heap.size <= w'.heap.size
 old : ∀ b, b < w.heap.size -> (∀ n o s, h.get n = some o -> ρ n ≠ some (b, s)) -> w'.heap[b]? = w.heap[b]?
 new : ∀ n o b s, h'.get n = some o -> ρ' n = some (b, s) -> b < w.heap.size -> ∃ m p t, h.get m = some p /\ ρ m = some (b, t)
def kj (ρ : Ren) (c c' : Nat) : Prop := ∀ n, c <= n -> n < c' -> ρ n = none
theorem Post.le {ρ : Ren} {h : H} {w : World} {c c' : Nat} {ρ' : Ren} {h' : H} {w' : World} (p : Post ρ h w c c' ρ' h' w') (f : kj ρ c c') : Ren.le ρ ρ' := by
 intro n q e; rw [p.ext n (λ ⟨h1, h2⟩ => by rw [f n h1 h2] at e; cases e)]; exact e
theorem Post.refl {ρ : Ren} {h : H} {w : World} {c : Nat} (r : Rel ρ h w) : Post ρ h w c c ρ h w :=
 ⟨r, λ _ _ => rfl, rfl, rfl, rfl, Nat.le_refl _, λ _ _ _ => rfl, λ n o _ s h1 h2 _ => ⟨n, o, s, h1, h2⟩⟩
theorem Post.trans {ρ : Ren} {h : H} {w : World} {c c1 c2 : Nat} {ρ1 : Ren} {h1 : H} {w1 : World} {ρ2 : Ren} {h2 : H} {w2 : World}
  (p : Post ρ h w c c1 ρ1 h1 w1) (q : Post ρ1 h1 w1 c1 c2 ρ2 h2 w2) (k : c <= c1) (m : c1 <= c2) : Post ρ h w c c2 ρ2 h2 w2 where
 rel := q.rel
 ext n hn := by rw [q.ext n zO, p.ext n zO]
 os := q.os.trans p.os
 tape := q.tape.trans p.tape
 output := q.output.trans p.output
 size := Nat.le_trans p.size q.size
 old b hb hn := by
  rw [q.old b (Nat.lt_of_lt_of_le hb p.size) (λ n o s e f => ?_), p.old b hb hn]; obtain ⟨m, o', t, e', f'⟩ := p.new n o b s e f hb; exact hn m o' t e' f'
 new n o b s e f hb := by
  obtain ⟨m, o', t, e', f'⟩ := q.new n o b s e f (Nat.lt_of_lt_of_le hb p.size); exact p.new m o' b t e' f' hb
theorem Rel.drew {ρ : Ren} {h : H} {w : World} (r : Rel ρ h w) (n : Nat) : Rel ρ h { w with drawn := n } :=
 ⟨λ n o e => by obtain ⟨b, s, f, g⟩ := r.lies n o e; exact ⟨b, s, f, OR.mono (Ren.le_refl ρ) rfl g⟩, r.alone⟩
theorem Post.from_drawn {ρ : Ren} {h : H} {w : World} {c c' : Nat} {ρ' : Ren} {h' : H} {w' : World} {n : Nat} (p : Post ρ h { w with drawn := n } c c' ρ' h' w') : Post ρ h w c c' ρ' h' w' :=
 ⟨p.rel, p.ext, p.os, p.tape, p.output, p.size, p.old, p.new⟩
theorem rowOf_some {h : H} {n : Nat} {cs : List AV} (e : rowOf h n = some cs) : h.get n = some (.row cs) := by
 have e : ifS none AO.row? (h.get n) = some cs := e; cases k : h.get n with
 | none => rw [k] at e; cases e
 | some o =>
   rw [k] at e; cases o with
   | row x => cases e; rfl
   | mp es q => cases e
theorem Rel.cells {ρ : Ren} {h : H} {w : World} (r : Rel ρ h w) {n : Nat} {cs : List AV} (e : h.get n = some (.row cs)) :
  ∃ b s, ρ n = some (b, s) /\ cs.length <= s /\ (∀ i, i < s -> (w.cell? ⟨b, i, none⟩).isSome = true /\ w.frozen? ⟨b, i, none⟩ = false) /\
    ∀ i x, cs[i]? = some x -> ∃ v, w.cell? ⟨b, i, none⟩ = some v /\ VR ρ x v := by
 obtain ⟨b, s, f, arr, t, lo, hi, l, rest, h1, h2, h3, h4, h5⟩ := r.lies n _ e; have hlen := h4.length; have hsz : arr.size = l.length + rest.length := (by rw [<- Array.length_toList, h3, List.length_append]); refine ⟨b, s, f, by omega, λ i hi' => ⟨?_, ?_⟩, λ i x hx => ?_⟩
 . simp [World.cell?, h1, h2, hi']
 . have := h5 i hi'; simp only [World.frozen?, h1]; simp only [Bool.and_eq_false_iff, decide_eq_false_iff_not]; omega
 . obtain ⟨v, hv, k⟩ := h4.get hx; refine ⟨v, ?_, k⟩; have hl : i < l.length := by
    rcases Nat.lt_or_ge i l.length with hh | hh
    . exact hh
    . rw [List.getElem?_eq_none hh] at hv; cases hv
   simp only [World.cell?, h1, Option.isSome_none, Bool.false_eq_true, if_false]; rw [<- Array.getElem?_toList, h3, List.getElem?_append_left hl, hv]
theorem fU (b : Nat) (e : TypeId) (f : Nat × Nat) : ∀ (vs : List Value) (o : Nat) (w : World) (arr : Array Value), w.heap[b]? = some (.cells arr e f) -> o + vs.length <= arr.size ->
  ∃ arr', (w.setCells b o vs).heap[b]? = some (.cells arr' e f) /\ arr'.size = arr.size /\ arr'.toList = arr.toList.take o ++ (vs ++ arr.toList.drop (o + vs.length))
 | [], o, w, arr, h, _ => ⟨arr, h, rfl, by simp⟩
 | v :: vs, o, w, arr, h, k => by
   simp only [List.length_cons] at k
   have h1 : (w.setCell ⟨b, o, none⟩ v).heap[b]? = some (.cells (arr.setIfInBounds o v) e f) := by
    simp only [World.setCell, Array.getElem?_modify, h]; simp
   obtain ⟨arr', h2, h3, h4⟩ := fU b e f vs (o + 1) (w.setCell ⟨b, o, none⟩ v) _ h1 (by simp; omega); refine ⟨arr', h2, by simpa using h3, ?_⟩; rw [h4]; have ho : o < arr.toList.length := (by rw [Array.length_toList]; omega); simp only [Array.toList_setIfInBounds, List.length_cons]; rw [show o + (vs.length + 1) = o + 1 + vs.length by omega]; rw [List.drop_set_of_lt zO, List.set_eq_take_append_cons_drop, if_pos ho]; rw [List.take_append, List.take_take]; simp only [List.length_take, List.cons_append, List.append_assoc]; rw [show min (o + 1) o = o by omega, show o + 1 - min o arr.toList.length = 1 by omega]; simp
theorem dw (b : Nat) : ∀ (vs : List Value) (o : Nat) (w : World) (k : Nat), k ≠ b -> (w.setCells b o vs).heap[k]? = w.heap[k]?
 | [], _, _, _, _ => rfl
 | v :: vs, o, w, k, h => by
   have h1 := dw b vs (o + 1) (w.setCell ⟨b, o, none⟩ v) k h
   exact h1.trans (Below.heap_setCell w ⟨b, o, none⟩ v k h)
theorem gw (b : Nat) : ∀ (vs : List Value) (o : Nat) (w : World), (w.setCells b o vs).os = w.os /\ (w.setCells b o vs).tape = w.tape /\ (w.setCells b o vs).output = w.output /\ (w.setCells b o vs).heap.size = w.heap.size
 | [], _, _ => ⟨rfl, rfl, rfl, rfl⟩
 | v :: vs, o, w => by
   obtain ⟨h1, h2, h3, h4⟩ := gw b vs (o + 1) (w.setCell ⟨b, o, none⟩ v)
   exact ⟨h1, h2, h3, h4.trans (by simp [World.setCell])⟩
theorem Rel.store {ρ : Ren} {h : H} {w : World} (r : Rel ρ h w) {n off c : Nat} {cs q : List AV} {vs : List AV} {l : List Value} (e : h.get n = some (.row cs)) (hv : VRs ρ vs l)
  (hq : q = cs.take off ++ (vs ++ cs.drop (off + vs.length))) (hl : off + vs.length <= cs.length) :
  ∃ b s, ρ n = some (b, s) /\ Post ρ h w c c ρ (h.set n (some (.row q))) (w.setCells b off l) := by
 obtain ⟨b, s, f, arr, t, lo, hi, k, rest, h1, h2, h3, h4, h5⟩ := r.lies n _ e; have hlen := h4.length; have hlv := hv.length; have hsz : arr.size = k.length + rest.length := (by rw [<- Array.length_toList, h3, List.length_append]); obtain ⟨arr', g1, g2, g3⟩ := fU b t (lo, hi) l off w arr h1 zO; obtain ⟨o1, o2, o3, o4⟩ := gw b l off w; refine ⟨b, s, f, ⟨⟨λ m o em => ?_, λ m1 m2 p1 p2 b' s' t' e1 e2 f1 f2 => ?_⟩, λ _ _ => rfl, o1, o2, o3, Nat.le_of_eq o4.symm, λ b' _ hn => ?_, λ m o b' s' e1 f1 _ => ?_⟩⟩
 . rw [T.get_set] at em; by_cases hm : m = n
   . rw [if_pos hm] at em; cases em; subst hm; refine ⟨b, s, f, arr', t, lo, hi, k.take off ++ (l ++ k.drop (off + l.length)), rest, g1, g2.trans h2, ?_, ?_, h5⟩
     . rw [g3, h3, List.take_append_of_le_length zO, List.drop_append_of_le_length zO]; simp only [List.append_assoc]
     . rw [hq]; exact (VRs.take _ h4).append (hv.append (by rw [hlv]; exact VRs.drop _ h4))
   . rw [if_neg hm] at em; obtain ⟨b', s', f', g⟩ := r.lies m o em; refine ⟨b', s', f', OR.mono (Ren.le_refl ρ) (dw b l off w b' λ eb => ?_) g⟩; subst eb; exact hm (r.alone m n _ _ _ _ _ em e f' f)
 . rw [T.get_set] at e1 e2; have l1 : ∃ o, h.get m1 = some o := by
    by_cases hm : m1 = n
    . exact ⟨_, hm ▸ e⟩
    . rw [if_neg hm] at e1; exact ⟨_, e1⟩
   have l2 : ∃ o, h.get m2 = some o := by
    by_cases hm : m2 = n
    . exact ⟨_, hm ▸ e⟩
    . rw [if_neg hm] at e2; exact ⟨_, e2⟩
   obtain ⟨_, l1⟩ := l1; obtain ⟨_, l2⟩ := l2; exact r.alone m1 m2 _ _ _ _ _ l1 l2 f1 f2
 . exact dw b l off w b' λ eb => hn n _ s e (eb ▸ f)
 . rw [T.get_set] at e1; by_cases hm : m = n
   . exact ⟨n, _, _, e, hm ▸ f1⟩
   . rw [if_neg hm] at e1; exact ⟨m, _, _, e1, f1⟩
def Ren.put (ρ : Ren) (c : Nat) (p : Nat × Nat) : Ren := λ n => if n = c then some p else ρ n
theorem Ren.put_same (ρ : Ren) (c : Nat) (p : Nat × Nat) : ρ.put c p c = some p := if_pos rfl
theorem Ren.put_other (ρ : Ren) {c n : Nat} (p : Nat × Nat) (h : n ≠ c) : ρ.put c p n = ρ n := if_neg h
theorem Ren.le_put {ρ : Ren} {c : Nat} (p : Nat × Nat) (h : ρ c = none) : Ren.le ρ (ρ.put c p) := λ n q e => by
 rw [Ren.put_other ρ p (λ hn => by rw [hn, h] at e; cases e)]
 exact e
theorem Rel.new {ρ : Ren} {h : H} {w : World} (r : Rel ρ h w) {c s : Nat} (hc : ρ c = none) {obj : Obj} {o : AO}
  (ho : OR (ρ.put c (w.heap.size, s)) (w.alloc obj) w.heap.size s o) :
  Post ρ h w c (c + 1) (ρ.put c (w.heap.size, s)) (h.set c (some o)) (w.alloc obj) := by
 have hle := Ren.le_put (w.heap.size, s) hc; have hn0 : ∀ m p, h.get m = some p -> m ≠ c := λ m p e hm => by
  obtain ⟨b, t, f, _⟩ := r.lies m p e; rw [hm, hc] at f; cases f
 have hlt : ∀ m p b t, h.get m = some p -> ρ m = some (b, t) -> b < w.heap.size := λ m p b t e f => by
  obtain ⟨b', t', f', g⟩ := r.lies m p e; rw [f] at f'; cases f'; exact g.lt
 refine ⟨⟨λ m p em => ?_, λ m1 m2 p1 p2 b s1 s2 e1 e2 f1 f2 => ?_⟩, λ n hn => ?_, rfl, rfl, rfl, by show w.heap.size <= (w.heap.push obj).size; simp, λ b hb _ => ?_, λ m p b t em f hb => ?_⟩
 . rw [T.get_set] at em; by_cases hm : m = c
   . rw [if_pos hm] at em; cases em; exact ⟨_, s, by rw [hm, Ren.put_same], ho⟩
   . rw [if_neg hm] at em; obtain ⟨b, t, f, g⟩ := r.lies m p em; exact ⟨b, t, hle _ _ f, OR.mono hle (Below.heap_alloc w obj b g.lt) g⟩
 . rw [T.get_set] at e1 e2; by_cases h1 : m1 = c
   . by_cases h2 : m2 = c
     . rw [h1, h2]
     . rw [if_neg h2] at e2; rw [h1, Ren.put_same] at f1; rw [Ren.put_other ρ _ h2] at f2; cases f1; exact absurd (hlt m2 _ _ _ e2 f2) (Nat.lt_irrefl _)
   . rw [if_neg h1] at e1; rw [Ren.put_other ρ _ h1] at f1; by_cases h2 : m2 = c
     . rw [h2, Ren.put_same] at f2; cases f2; exact absurd (hlt m1 _ _ _ e1 f1) (Nat.lt_irrefl _)
     . rw [if_neg h2] at e2; rw [Ren.put_other ρ _ h2] at f2; exact r.alone m1 m2 _ _ _ _ _ e1 e2 f1 f2
 . exact Ren.put_other ρ _ zO
 . exact Below.heap_alloc w obj b hb
 . rw [T.get_set] at em; by_cases hm : m = c
   . rw [hm, Ren.put_same] at f; cases f; exact absurd hb (Nat.lt_irrefl _)
   . rw [if_neg hm] at em; rw [Ren.put_other ρ _ hm] at f; exact ⟨m, p, t, em, f⟩
theorem Rel.kill {ρ : Ren} {h : H} {w : World} (r : Rel ρ h w) (n : Nat) : Rel ρ (h.set n none) w := by
 have key : ∀ m p, (h.set n none).get m = some p -> h.get m = some p := λ m p e => by
  rw [T.get_set] at e; by_cases hm : m = n
  . rw [if_pos hm] at e; cases e
  . rw [if_neg hm] at e; exact e
 exact ⟨λ m p e => r.lies m p (key m p e), λ m1 m2 p1 p2 b s t e1 e2 => r.alone m1 m2 p1 p2 b s t (key _ _ e1) (key _ _ e2)⟩
theorem Post.kill {ρ : Ren} {h : H} {w : World} (r : Rel ρ h w) (n c : Nat) : Post ρ h w c c ρ (h.set n none) w :=
 ⟨r.kill n, λ _ _ => rfl, rfl, rfl, rfl, Nat.le_refl _, λ _ _ _ => rfl, λ m o b s e f _ => by
   rw [T.get_set] at e
   by_cases hm : m = n
   . rw [if_pos hm] at e; cases e
   . rw [if_neg hm] at e; exact ⟨m, o, s, e, f⟩⟩
theorem Rel.reuse {ρ : Ren} {h : H} {w : World} (r : Rel ρ h w) {n c k : Nat} {cs vs : List AV} {l : List Value} (e : h.get n = some (.row cs)) (hc : ρ c = none) (hv : VRs ρ vs l) (hk : k <= cs.length) :
  ∃ b s, ρ n = some (b, s) /\ (k + l.length <= s -> Post ρ h w c (c + 1) (ρ.put c (b, s)) ((h.set n none).set c (some (.row (cs.take k ++ vs)))) (w.setCells b k l)) := by
 obtain ⟨b, s, f, arr, t, lo, hi, q, rest, h1, h2, h3, h4, h5⟩ := r.lies n _ e; refine ⟨b, s, f, λ hs => ?_⟩; have hle := Ren.le_put (b, s) hc; have hlen := h4.length; obtain ⟨arr', g1, g2, g3⟩ := fU b t (lo, hi) l k w arr h1 zO; obtain ⟨o1, o2, o3, o4⟩ := gw b l k w; have hnc : n ≠ c := λ he => by rw [<- he, f] at hc; cases hc
 have key : ∀ m p, m ≠ c -> ((h.set n none).set c (some (.row (cs.take k ++ vs)))).get m = some p -> h.get m = some p /\ m ≠ n := λ m p hm em => by
  rw [T.get_set, if_neg hm, T.get_set] at em; by_cases hn : m = n
  . rw [if_pos hn] at em; cases em
  . rw [if_neg hn] at em; exact ⟨em, hn⟩
 refine ⟨⟨λ m p em => ?_, λ m1 m2 p1 p2 b' s1 s2 e1 e2 f1 f2 => ?_⟩, λ m hm => Ren.put_other ρ _ zO, o1, o2, o3, Nat.le_of_eq o4.symm, λ b' hb hn => ?_, λ m p b' t' em f' hb => ?_⟩
 . by_cases hm : m = c
   . rw [T.get_set, if_pos hm] at em; cases em; refine ⟨b, s, by rw [hm, Ren.put_same], arr', t, lo, hi, q.take k ++ l, arr.toList.drop (k + l.length), g1, g2.trans h2, ?_, VRs.mono hle _ _ ((VRs.take _ h4).append hv), h5⟩; rw [g3, h3, List.take_append_of_le_length zO, List.append_assoc]
   . obtain ⟨em, hn⟩ := key m p hm em; obtain ⟨b', s', f', g⟩ := r.lies m p em; refine ⟨b', s', hle _ _ f', OR.mono hle (dw b l k w b' λ eb => ?_) g⟩; subst eb; exact hn (r.alone m n _ _ _ _ _ em e f' f)
 . by_cases h1 : m1 = c
   . by_cases h2 : m2 = c
     . rw [h1, h2]
     . obtain ⟨e2, hn⟩ := key m2 _ h2 e2; rw [h1, Ren.put_same] at f1; rw [Ren.put_other ρ _ h2] at f2; cases f1; exact absurd (r.alone m2 n _ _ _ _ _ e2 e f2 f) hn
   . obtain ⟨e1, hn1⟩ := key m1 _ h1 e1; rw [Ren.put_other ρ _ h1] at f1; by_cases h2 : m2 = c
     . rw [h2, Ren.put_same] at f2; cases f2; exact absurd (r.alone m1 n _ _ _ _ _ e1 e f1 f) hn1
     . obtain ⟨e2, _⟩ := key m2 _ h2 e2; rw [Ren.put_other ρ _ h2] at f2; exact r.alone m1 m2 _ _ _ _ _ e1 e2 f1 f2
 . exact dw b l k w b' λ eb => hn n _ s e (eb ▸ f)
 . by_cases hm : m = c
   . rw [hm, Ren.put_same] at f'; cases f'; exact ⟨n, _, s, e, f⟩
   . obtain ⟨em, _⟩ := key m p hm em; rw [Ren.put_other ρ _ hm] at f'; exact ⟨m, p, t', em, f'⟩
theorem Rel.setMap {ρ : Ren} {h : H} {w : World} (r : Rel ρ h w) {n c : Nat} {es es' : List (AV × AV × Nat)} {k k' : Nat} {a' : Array MapEntry} (e : h.get n = some (.mp es k)) (he : ERs ρ es' a'.toList) :
  ∃ b s a, ρ n = some (b, s) /\ w.heap[b]? = some (.map a k) /\ ERs ρ es a.toList /\ Post ρ h w c c ρ (h.set n (some (.mp es' k'))) { w with heap := w.heap.setIfInBounds b (.map a' k') } := by
 obtain ⟨b, s, f, a, h1, h2⟩ := r.lies n _ e; have hb : b < w.heap.size := OR.lt (ρ := ρ) (s := s) (o := .mp es k) ⟨a, h1, h2⟩; have key : ∀ m p, m ≠ n -> (h.set n (some (AO.mp es' k'))).get m = some p -> h.get m = some p := λ m p hm em => by rw [T.get_set, if_neg hm] at em; exact em
 have oth : ∀ b', b' ≠ b -> (w.heap.setIfInBounds b (Obj.map a' k'))[b']? = w.heap[b']? := λ b' hb' => Array.getElem?_setIfInBounds_ne (Ne.symm hb'); have lv : ∀ m p, (h.set n (some (AO.mp es' k'))).get m = some p -> ∃ q, h.get m = some q := λ m p em => by
  by_cases hm : m = n
  . exact ⟨_, hm ▸ e⟩
  . exact ⟨_, key m p hm em⟩
 refine ⟨b, s, a, f, h1, h2, ⟨⟨λ m p em => ?_, λ m1 m2 p1 p2 b' s1 s2 e1 e2 f1 f2 => ?_⟩, λ _ _ => rfl, rfl, rfl, rfl, by simp, λ b' _ hn => oth b' λ eb => hn n _ s e (eb ▸ f), λ m p b' t' em f' _ => ?_⟩⟩
 . by_cases hm : m = n
   . rw [T.get_set, if_pos hm] at em; cases em; exact ⟨b, s, hm ▸ f, a', by simp [hb], he⟩
   . have em := key m p hm em; obtain ⟨b', s', f', g⟩ := r.lies m p em; refine ⟨b', s', f', OR.mono (Ren.le_refl ρ) (oth b' λ eb => ?_) g⟩; subst eb; exact hm (r.alone m n _ _ _ _ _ em e f' f)
 . obtain ⟨_, l1⟩ := lv m1 _ e1; obtain ⟨_, l2⟩ := lv m2 _ e2; exact r.alone m1 m2 _ _ _ _ _ l1 l2 f1 f2
 . obtain ⟨_, l1⟩ := lv m _ em; exact ⟨m, _, _, l1, f'⟩
section
variable {α β : Type} {c c' : Nat} {h h' : H} {l : Log} {x : β}
theorem aP {a : α} {x : α} (e : M.pure a c h = .ok x c' h' l) : x = a /\ c' = c /\ h' = h /\ l = [] := by cases e; exact ⟨rfl, rfl, rfl, rfl⟩
theorem cw {f : α -> β} {m : M α} (e : M.map f m c h = .ok x c' h' l) : ∃ a, m c h = .ok a c' h' l /\ x = f a := by
 have e : Rs.rec (motive := λ _ => Rs β) .fail (λ a c h l => .ok (f a) c h l) (m c h) = .ok x c' h' l := e; cases k : m c h with
 | fail => rw [k] at e; cases e
 | ok a c1 h1 l1 => rw [k] at e; cases e; exact ⟨a, rfl, rfl⟩
theorem cX {m : M α} {k : α -> M β} (e : M.bind m k c h = .ok x c' h' l) : ∃ a c1 h1 l1 l2, m c h = .ok a c1 h1 l1 /\ k a c1 h1 = .ok x c' h' l2 /\ l = l1 ++ l2 := by
 have e : Rs.andThen k (m c h) = .ok x c' h' l := e; cases q : m c h with
 | fail => rw [q] at e; cases e
 | ok a c1 h1 l1 =>
   rw [q] at e; have e : Rs.rec (motive := λ _ => Rs β) .fail (λ b c h l2 => .ok b c h (List.append l1 l2)) (k a c1 h1) = .ok x c' h' l := e; cases r : k a c1 h1 with
   | fail => rw [r] at e; cases e
   | ok b c2 h2 l2 => rw [r] at e; cases e; exact ⟨a, c1, h1, l1, l2, rfl, r, rfl⟩
theorem dj {b : Bool} {m : M β} (e : ifB b m fail c h = .ok x c' h' l) : b = true /\ m c h = .ok x c' h' l := by
 cases b
 . cases e
 . exact ⟨rfl, e⟩
theorem bH {o : Option α} {k : α -> M β} (e : ifS fail k o c h = .ok x c' h' l) : ∃ a, o = some a /\ k a c h = .ok x c' h' l := by
 cases o with
 | none => cases e
 | some a => exact ⟨a, rfl, e⟩
theorem oP {o : List α} {k : α -> List α -> M β} (e : ifC fail k o c h = .ok x c' h' l) : ∃ a t, o = a :: t /\ k a t c h = .ok x c' h' l := by
 cases o with
 | nil => cases e
 | cons a t => exact ⟨a, t, rfl, e⟩
theorem AJ {o : Option β} (e : Ec o c h = .ok x c' h' l) : o = some x /\ c' = c /\ h' = h /\ l = [] := by
 cases o with
 | none => cases e
 | some a => cases e; exact ⟨rfl, rfl, rfl, rfl⟩
theorem lQ {v : AV} {k : Bool -> M β} (e : onBool fail k v c h = .ok x c' h' l) : ∃ b, v = .bool b /\ k b c h = .ok x c' h' l := by cases v <;> first | exact ⟨_, rfl, e⟩ | cases e
theorem i6 {v : AV} {k : IntKind -> Int -> M β} (e : onInt fail k v c h = .ok x c' h' l) : ∃ i n, v = .int i n /\ k i n c h = .ok x c' h' l := by cases v <;> first | exact ⟨_, _, rfl, e⟩ | cases e
theorem gN {v : AV} {k : List Nat -> M β} (e : onStr fail k v c h = .ok x c' h' l) : ∃ b, v = .str b /\ k b c h = .ok x c' h' l := by cases v <;> first | exact ⟨_, rfl, e⟩ | cases e
theorem fW {v : AV} {k : Option (Nat × Nat) -> M β} (e : onPtr fail k v c h = .ok x c' h' l) : ∃ b, v = .ptr b /\ k b c h = .ok x c' h' l := by cases v <;> first | exact ⟨_, rfl, e⟩ | cases e
theorem d8 {v : AV} {k : Option (Nat × Nat) -> Nat -> Nat -> Nat -> M β} (e : onSlice fail k v c h = .ok x c' h' l) : ∃ a n m z, v = .slice a n m z /\ k a n m z c h = .ok x c' h' l := by cases v <;> first | exact ⟨_, _, _, _, rfl, e⟩ | cases e
theorem i5 {v : AV} {k : Option Nat -> M β} (e : onMap fail k v c h = .ok x c' h' l) : ∃ b, v = .map b /\ k b c h = .ok x c' h' l := by cases v <;> first | exact ⟨_, rfl, e⟩ | cases e
theorem wV {v : AV} {k : Nat -> List AV -> List AV -> M β} (e : onFn fail k v c h = .ok x c' h' l) : ∃ f a b, v = .fn f a b /\ k f a b c h = .ok x c' h' l := by cases v <;> first | exact ⟨_, _, _, rfl, e⟩ | cases e
theorem kN {v : AV} {k : List AV -> M β} (e : onAgg fail k v c h = .ok x c' h' l) : ∃ b, v = .agg b /\ k b c h = .ok x c' h' l := by cases v <;> first | exact ⟨_, rfl, e⟩ | cases e
theorem vl {v : AV} {k : List AV -> M β} (e : onTuple fail k v c h = .ok x c' h' l) : ∃ b, v = .tuple b /\ k b c h = .ok x c' h' l := by cases v <;> first | exact ⟨_, rfl, e⟩ | cases e
theorem vm {v : AV} {k : Nat -> AV -> M β} (e : onIface fail fail k v c h = .ok x c' h' l) : ∃ t u, v = .iface t u /\ k t u c h = .ok x c' h' l := by cases v <;> first | exact ⟨_, _, rfl, e⟩ | cases e
theorem AG {v : Int} {k : Nat -> M β} (e : onNat fail k v c h = .ok x c' h' l) : ∃ n : Nat, v = .ofNat n /\ k n c h = .ok x c' h' l := by cases v <;> first | exact ⟨_, rfl, e⟩ | cases e
theorem ae {o : Option α} {k : α -> Option β} (e : ifS none k o = some x) : ∃ a, o = some a /\ k a = some x := by
 cases o with
 | none => cases e
 | some a => exact ⟨a, rfl, e⟩
theorem dk {b : Bool} {m : Option β} (e : ifB b m none = some x) : b = true /\ m = some x := by
 cases b
 . cases e
 . exact ⟨rfl, e⟩
end
def ER (ρ : Ren) (e : Env) (tmps : Array Value) : Prop := ∀ t, VR ρ (e.get t) (tmps.getD t undef)
theorem ER.mono {ρ σ : Ren} (k : Ren.le ρ σ) {e : Env} {tmps : Array Value} (h : ER ρ e tmps) : ER σ e tmps := λ t => VR.mono k _ _ (h t)
theorem VR.undefA (ρ : Ren) : VR ρ undefA undef := by
 show VR ρ (.tuple []) (.tuple #[]); simp only [VR]; exact ⟨#[], rfl, by simp [VRs]⟩
theorem AH (ρ : Ren) {v : Value} {a : AV} (e : ofS v = some a) : VR ρ a v := by
 unfold ofS at e; split at e <;> (try cases e) <;> simp [VR, VRs]
theorem xJ (ρ : Ren) : ∀ {l : List Value} {r : List AV}, gE ofS l = some r -> VRs ρ r l
 | [], _, e => by cases e; exact VRs.nil ρ
 | v :: l, r, e => by
   have e : ifS none (λ b => ifS none (λ r => some (b :: r)) (gE ofS l)) (ofS v) = some r := e
   obtain ⟨b, h1, e⟩ := ae e
   obtain ⟨q, h2, e⟩ := ae e
   cases e
   exact VRs.cons (AH ρ h1) (xJ ρ h2)
theorem hJ (ρ : Ren) {v : Value} {a : AV} (e : ofV v = some a) : VR ρ a v := by
 unfold ofV at e; split at e
 . obtain ⟨r, h1, e⟩ := ae e; cases e; simp only [VR]; exact ⟨_, rfl, xJ ρ h1⟩
 . cases e; exact VR.undefA ρ
 . exact AH ρ e
theorem aF {ρ : Ren} {e : Env} {a : Act} (h : ER ρ e a.tmps) {x : Operand} {y : Opd} (k : aS x = some y) : VR ρ (ev e y) (a.eval x) := by
 unfold aS at k; split at k
 . cases k; exact h _
 . obtain ⟨v, h1, k⟩ := ae k; cases k; exact hJ ρ h1
 . cases k
 . cases k; show VR ρ (.fn _ [] []) (.func (.func _) #[] #[]); simp [VR, VRs]
theorem jC {ρ : Ren} {e : Env} {a : Act} (h : ER ρ e a.tmps) : ∀ {l : List Operand} {r : List Opd}, gC l = some r -> VRs ρ (evs e r) (l.map a.eval)
 | [], _, k => by cases k; exact VRs.nil ρ
 | x :: l, r, k => by
   have k : ifS none (λ b => ifS none (λ r => some (b :: r)) (gC l)) (aS x) = some r := k
   obtain ⟨b, h1, k⟩ := ae k
   obtain ⟨q, h2, k⟩ := ae k
   cases k
   exact VRs.cons (aF h h1) (jC h h2)
theorem BT {ρ : Ren} {e : Env} {a : Act} (h : ER ρ e a.tmps) {x : Option Operand} {y : Option Opd} (k : jb x = some y) : (x = none /\ y = none) ∨ ∃ x' y', x = some x' /\ y = some y' /\ VR ρ (ev e y') (a.eval x') := by
 cases x with
 | none => cases k; exact .inl ⟨rfl, rfl⟩
 | some x' =>
   obtain ⟨y', h1, k⟩ := ae (show ifS none (λ y => some (some y)) (aS x') = some y from k); cases k; exact .inr ⟨x', y', rfl, rfl, aF h h1⟩
def jl (P : Program) (call : Ctx) : Prop := ∀ f args c h v c' h' l, call f args c h = .ok v c' h' l -> (∀ (xs : Array Value) (w : World), (callFunc f xs).run P w = .ok (.enter f xs) w) /\ ∀ ρ w (xs : Array Value), Rel ρ h w -> VRs ρ args xs.toList -> kj ρ c c' ->
 Calls P f xs w λ e w' => ∃ v' ρ', e = .returned v' /\ VR ρ' v v' /\ Post ρ h w c c' ρ' h' w'
def aZ (P : Program) (o : Oper) (f : Ev) : Prop := ∀ call, jl P call -> ∀ e c h v c' h' l, f call e c h = .ok v c' h' l -> ∀ ρ w (a : Act), Rel ρ h w -> ER ρ e a.tmps -> kj ρ c c' ->
 ∀ next Q, (∀ v' ρ' w', VR ρ' v v' -> Post ρ h w c c' ρ' h' w' -> next (a.put o.dst v') w') -> o.wp P a w next Q
section
variable {P : Program} {o : Oper} {f : Ev}
theorem aZ.of_val (k : ∀ call e c h v c' h' l, f call e c h = .ok v c' h' l -> c' = c /\ h' = h /\ ∀ ρ w (a : Act), Rel ρ h w -> ER ρ e a.tmps -> ∃ v', (execOp a.eval o).run P w = .ok (.value v') w /\ VR ρ v v') : aZ P o f := by
 intro call _ e c h v c' h' l he ρ w a hr hE _ next Q hn; obtain ⟨rfl, rfl, k⟩ := k call e c h v c' h' l he; obtain ⟨v', hv, hV⟩ := k ρ w a hr hE; unfold Oper.wp; rw [hv]; exact hn v' ρ w hV (Post.refl hr)
theorem aZ.of_run (k : ∀ call e c h v c' h' l, f call e c h = .ok v c' h' l -> ∀ ρ w (a : Act), Rel ρ h w -> ER ρ e a.tmps -> kj ρ c c' -> ∃ v' ρ' w', (execOp a.eval o).run P w = .ok (.value v') w' /\ VR ρ' v v' /\ Post ρ h w c c' ρ' h' w') : aZ P o f := by
 intro call _ e c h v c' h' l he ρ w a hr hE hf next Q hn; obtain ⟨v', ρ', w', hv, hV, hp⟩ := k call e c h v c' h' l he ρ w a hr hE hf; unfold Oper.wp; rw [hv]; exact hn v' ρ' w' hV hp
theorem aZ.of_skip (k : ∀ call e c h v c' h' l, f call e c h = .ok v c' h' l -> v = undefA /\ ∀ ρ w (a : Act), Rel ρ h w -> ER ρ e a.tmps -> kj ρ c c' -> ∃ ρ' w', (execOp a.eval o).run P w = .ok .skip w' /\ Post ρ h w c c' ρ' h' w') : aZ P o f := by
 intro call _ e c h v c' h' l he ρ w a hr hE hf next Q hn; obtain ⟨rfl, k⟩ := k call e c h v c' h' l he; obtain ⟨ρ', w', hv, hp⟩ := k ρ w a hr hE hf; unfold Oper.wp; rw [hv]; exact hn undef ρ' w' (VR.undefA ρ') hp
end
section
variable {P : Program} {w : World}
theorem bd {s : Sem Value} {v : Value} {w' : World} (h : s.run P w = .ok v w') : (do pure (Next.value (<- s)) : Sem Next).run P w = .ok (.value v) w' := by
 simp [h, Result.andThen]
theorem ay {t : TypeId} {d : TypeDesc} (h : P.underlying t = some d) : (underlying t).run P w = .ok d w := by
 simp [underlying, h]
theorem cI {t : TypeId} {i : TypeInfo} (h : P.info? t = some i) : (typeInfo t).run P w = .ok i w := by
 simp [typeInfo, h]
theorem b5 {t : TypeId} {n : Nat} (h : bY P t = some n) : (sizeOf t).run P w = .ok n w := by
 obtain ⟨i, h1, h2⟩ := ae h; cases h2; simp [sizeOf, cI h1]
theorem eO {t : TypeId} {b : Bool} (h : jh P t = some b) : (isAgg t).run P w = .ok b w := by
 obtain ⟨d, h1, h2⟩ := ae h; cases h2; simp only [isAgg, Sem.run_bind, ay h1, Result.andThen]; unfold Bb; split <;> simp_all
theorem eM {t : TypeId} {z : AV} (h : cD P t = some z) : ∃ i v, P.info? t = some i /\ i.zero = some v /\ ofV v = some z /\ z.cells.length = i.size /\ i.bytes <= 1048576 := by
 obtain ⟨i, h1, h⟩ := ae h; obtain ⟨v, h2, h⟩ := ae h; obtain ⟨z', h3, h⟩ := ae h; obtain ⟨hb, h⟩ := dk h; cases h; cases h4 : Nat.beq (len z.cells) i.size with
 | false => rw [h4] at hb; cases hb
 | true =>
   rw [h4] at hb; have h5 : Nat.ble i.bytes 1048576 = true := hb; exact ⟨i, v, h1, h2, h3, by rw [<- len_eq]; exact Nat.eq_of_beq_eq_true h4, Nat.le_of_ble_eq_true h5⟩
theorem iS {t : TypeId} {z : AV} (h : cD P t = some z) (ρ : Ren) : ∃ v, (zeroValue t).run P w = .ok v w /\ VR ρ z v /\ VRs ρ z.cells v.cells.toList := by
 obtain ⟨i, v, h1, h2, h3, _, _⟩ := eM h; refine ⟨v, ?_, hJ ρ h3, (hJ ρ h3).cells⟩; simp [zeroValue, cI h1, h2]
end
section
variable {P : Program} {o : Oper}
theorem wU {x : Operand} {y : Opd} (ho : o.op = .move x ∨ o.op = .assign x) (k : aS x = some y) : aZ P o (qm y) := by
 refine aZ.of_val λ call e c h v c' h' l he => ?_; obtain ⟨rfl, rfl, rfl, _⟩ := aP he; refine ⟨rfl, rfl, λ ρ w a _ hE => ⟨_, ?_, aF hE k⟩⟩; rcases ho with ho | ho <;> simp [execOp, ho]
theorem CZ {x y z : Operand} {x' y' z' : Opd} (ho : o.op = .pick x y z) (kx : aS x = some x') (ky : aS y = some y') (kz : aS z = some z') : aZ P o (xa x' y' z') := by
 refine aZ.of_val λ call e c h v c' h' l he => ?_; obtain ⟨b, hb, he⟩ := lQ he; obtain ⟨rfl, rfl, rfl, _⟩ := aP he; refine ⟨rfl, rfl, λ ρ w a _ hE => ?_⟩; have hx := aF hE kx; rw [hb] at hx; simp only [VR] at hx; cases b
 . exact ⟨_, by simp [execOp, ho, hx, asBool], aF hE kz⟩
 . exact ⟨_, by simp [execOp, ho, hx, asBool], aF hE ky⟩
theorem tl {x : Operand} {y : Opd} (ho : o.op = .nilCheck x) (k : aS x = some y) : aZ P o (jt y) := by
 refine aZ.of_val λ call e c h v c' h' l he => ?_; obtain ⟨b, hb, he⟩ := fW he; obtain ⟨p, rfl, he⟩ := bH he; obtain ⟨rfl, rfl, rfl, _⟩ := aP he; refine ⟨rfl, rfl, λ ρ w a _ hE => ?_⟩; have hx := aF hE k; rw [hb] at hx; have hx' := hx; simp only [VR] at hx'; obtain ⟨b, z, _, hv⟩ := hx'; exact ⟨_, by simp [execOp, ho, hv], hx⟩
theorem As {x : Operand} {y : Opd} {t : TypeId} (ho : o.op = .makeInterface t x) (k : aS x = some y) (hp : lN P t = true) : aZ P o (rD t y) := by
 have hd : ∃ d, P.underlying t = some d /\ ∀ m, d ≠ .interface m := by
  unfold lN at hp; split at hp
  . cases hp
  . rename_i d hn hd; exact ⟨d, hd, λ m e => hn m e⟩
  . cases hp
 obtain ⟨d, hd, hi⟩ := hd; refine aZ.of_val λ call e c h v c' h' l he => ?_; obtain ⟨rfl, rfl, rfl, _⟩ := aP he; refine ⟨rfl, rfl, λ ρ w a _ hE => ⟨.iface t (a.eval x), ?_, ?_⟩⟩
 . simp only [execOp, ho]; refine bd ?_; simp only [Instr.makeInterface, Sem.run_bind, ay hd, Result.andThen]; cases d <;> first | rfl | exact absurd rfl (hi _)
 . simp only [VR]; exact ⟨_, rfl, aF hE k⟩
theorem C0 {f : FuncId} {x y : Array Operand} {x' y' : List Opd} (ho : o.op = .makeFunc (.func f) x y) (kx : gC x.toList = some x') (ky : gC y.toList = some y') : aZ P o (xb f x' y') := by
 refine aZ.of_val λ call e c h v c' h' l he => ?_; obtain ⟨rfl, rfl, rfl, _⟩ := aP he; refine ⟨rfl, rfl, λ ρ w a _ hE => ⟨.func (.func f) (x.map a.eval) (y.map a.eval), ?_, ?_⟩⟩
 . simp [execOp, ho, Instr.makeFunc]
 . simp only [VR]; exact ⟨_, _, rfl, by rw [Array.toList_map]; exact jC hE kx, by rw [Array.toList_map]; exact jC hE ky⟩
theorem VRs.head_drop {ρ : Ren} {l : List AV} {r : List Value} (h : VRs ρ l r) {n : Nat} {v : AV} {t : List AV} (e : dropN n l = v :: t) : ∃ u, r[n]? = some u /\ VR ρ v u := by
 rw [dropN_eq] at e; have : l[n]? = some v := by
  have := congrArg List.head? e; simpa [List.head?_drop] using this
 exact h.get this
theorem vi {x : Operand} {y : Opd} {i : Nat} (ho : o.op = .extract x i) (k : aS x = some y) : aZ P o (kS y i) := by
 refine aZ.of_val λ call e c h v c' h' l he => ?_; obtain ⟨b, hb, he⟩ := vl he; obtain ⟨u, t, hd, he⟩ := oP he; obtain ⟨rfl, rfl, rfl, _⟩ := aP he; refine ⟨rfl, rfl, λ ρ w a _ hE => ?_⟩; have hx := aF hE k; rw [hb] at hx; simp only [VR] at hx; obtain ⟨z, hz, hx⟩ := hx; obtain ⟨q, hq, hV⟩ := hx.head_drop hd; refine ⟨q, ?_, hV⟩; simp only [execOp, ho]; refine bd ?_; rw [Array.getElem?_toList] at hq; simp [Instr.extract, hz, hq]
theorem addr_add (b o n : Nat) : (⟨b, o, none⟩ : Addr).add n = ⟨b, o + n, none⟩ := by
 unfold Addr.add; split <;> simp_all
theorem jB {s : TypeId} {i : Nat} {f : Field} (h : ja P s i = some f) : ∃ fs, P.underlying s = some (.struct fs) /\ fs[i]? = some f := by
 unfold ja at h; split at h
 . rename_i fs e; exact ⟨fs, e, h⟩
 . cases h
theorem ru {x : Operand} {y : Opd} {s : TypeId} {i : Nat} {f : Field} (ho : o.op = .fieldAddr s x i) (k : aS x = some y) (hf : ja P s i = some f) {n : Nat} (hs : bY P f.type = some n) (hn : n ≠ 0) : aZ P o (ia f.offset y) := by
 refine aZ.of_val λ call e c h v c' h' l he => ?_; obtain ⟨b, hb, he⟩ := fW he; obtain ⟨p, rfl, he⟩ := bH he; obtain ⟨rfl, rfl, rfl, _⟩ := aP he; refine ⟨rfl, rfl, λ ρ w a _ hE => ?_⟩; have hx := aF hE k; rw [hb] at hx; simp only [VR] at hx; obtain ⟨b, z, hz, hv⟩ := hx; obtain ⟨fs, h1, h2⟩ := jB hf; refine ⟨.pointer (some ⟨b, p.2 + f.offset, none⟩), ?_, ?_⟩
 . simp only [execOp, ho]; refine bd ?_; simp [Instr.fieldAt, ay h1, h2, hv, Instr.sureAddr, fieldPlace, b5 hs, hn, addr_add]
 . simp only [VR]; exact ⟨b, z, hz, rfl⟩
theorem jo {t : TypeId} {w : World} {n : Nat} {l : List AV} {v : AV} {u : List AV} {r : Array Value} {ρ : Ren} (ha : jh P t = some false) (h : VRs ρ l r.toList) (e : dropN n l = v :: u) :
  ∃ q, (part t r n).run P w = .ok q w /\ VR ρ v q := by
 obtain ⟨q, hq, hV⟩ := h.head_drop e; rw [Array.getElem?_toList] at hq; exact ⟨q, by simp [part, eO ha, hq], hV⟩
theorem p8 {t : TypeId} {w : World} {n m : Nat} {l u : List AV} {r : Array Value} {ρ : Ren} (ha : jh P t = some true) (hs : bY P t = some m) (h : VRs ρ l r.toList) (e : takeN m (dropN n l) = some u) :
  ∃ q, (part t r n).run P w = .ok q w /\ VR ρ (.agg u) q := by
 obtain ⟨rfl, _⟩ := takeN_eq _ _ _ e; rw [dropN_eq]; refine ⟨.agg (r.extract n (n + m)), by simp [part, eO ha, b5 hs], ?_⟩; simp only [VR]; refine ⟨_, rfl, ?_⟩; have := VRs.take m (VRs.drop n h); rw [Array.toList_extract, List.extract_eq_take_drop]; rwa [Nat.add_sub_cancel_left]
theorem yr {x : Operand} {y : Opd} {s : TypeId} {i : Nat} {f : Field} (ho : o.op = .field s x i) (k : aS x = some y) (hf : ja P s i = some f) (ha : jh P f.type = some false) : aZ P o (np f.offset y) := by
 refine aZ.of_val λ call e c h v c' h' l he => ?_; obtain ⟨b, hb, he⟩ := kN he; obtain ⟨u, t, hd, he⟩ := oP he; obtain ⟨rfl, rfl, rfl, _⟩ := aP he; refine ⟨rfl, rfl, λ ρ w a _ hE => ?_⟩; have hx := aF hE k; rw [hb] at hx; simp only [VR] at hx; obtain ⟨z, hz, hx⟩ := hx; obtain ⟨fs, h1, h2⟩ := jB hf; obtain ⟨q, hq, hV⟩ := jo (w := w) ha hx hd; refine ⟨q, ?_, hV⟩; simp only [execOp, ho]; refine bd ?_; simp [Instr.field, ay h1, h2, hz, asAgg, hq]
theorem yq {x : Operand} {y : Opd} {s : TypeId} {i n : Nat} {f : Field} (ho : o.op = .field s x i) (k : aS x = some y) (hf : ja P s i = some f) (ha : jh P f.type = some true) (hs : bY P f.type = some n) : aZ P o (hY f.offset n y) := by
 refine aZ.of_val λ call e c h v c' h' l he => ?_; obtain ⟨b, hb, he⟩ := kN he; obtain ⟨u, hd, he⟩ := bH he; obtain ⟨rfl, rfl, rfl, _⟩ := aP he; refine ⟨rfl, rfl, λ ρ w a _ hE => ?_⟩; have hx := aF hE k; rw [hb] at hx; simp only [VR] at hx; obtain ⟨z, hz, hx⟩ := hx; obtain ⟨fs, h1, h2⟩ := jB hf; obtain ⟨q, hq, hV⟩ := p8 (w := w) ha hs hx hd; refine ⟨q, ?_, hV⟩; simp only [execOp, ho]; refine bd ?_; simp [Instr.field, ay h1, h2, hz, asAgg, hq]
end
section
variable {P : Program} {o : Oper}
theorem Al (k : IntKind) : (128 : Int) <= 2 ^ k.bits /\ (k.signed = true -> (128 : Int) <= 2 ^ (k.bits - 1)) := by cases k <;> decide
theorem iL (k : IntKind) (n : Int) : pP k n = k.wrap n := by
 cases n with
 | negSucc m => rfl
 | ofNat m =>
   show ifB (Nat.blt m 128) (.ofNat m) (k.wrap (.ofNat m)) = _; cases h : Nat.blt m 128 with
   | false => rfl
   | true =>
     have hm : m < 128 := (by simpa [Nat.blt_eq] using h); obtain ⟨h1, h2⟩ := Al k; have e : (Int.ofNat m) % 2 ^ k.bits = Int.ofNat m := Int.emod_eq_of_lt (Int.natCast_nonneg m) (Int.lt_of_lt_of_le (Int.ofNat_lt.2 hm) h1); show (Int.ofNat m) = _; simp only [IntKind.wrap, e]; split
     . rename_i hc; simp only [Bool.and_eq_true, decide_eq_true_eq] at hc; have := Int.lt_of_lt_of_le (Int.ofNat_lt.2 hm) (h2 hc.1); exact absurd hc.2 (Int.not_le.2 this)
     . rfl
theorem dO (m n : Nat) : Nat.blt m n = decide (m < n) := by
 rw [Bool.eq_iff_iff]; simp [Nat.blt_eq]
theorem o8 (a b : Int) : eqI a b = (a == b) := by
 cases a with
 | ofNat m =>
   cases b with
   | ofNat n =>
     show Nat.beq m n = _; by_cases e : m = n
     . subst e; simp
     . rw [beq_eq_false_iff_ne.2 (λ q => e (Int.ofNat.inj q))]; exact Bool.eq_false_iff.2 λ q => e (Nat.eq_of_beq_eq_true q)
   | negSucc n => rfl
 | negSucc m =>
   cases b with
   | ofNat n => rfl
   | negSucc n =>
     show Nat.beq m n = _; by_cases e : m = n
     . subst e; simp
     . rw [beq_eq_false_iff_ne.2 (λ q => e (Int.negSucc.inj q))]; exact Bool.eq_false_iff.2 λ q => e (Nat.eq_of_beq_eq_true q)
theorem ib (a b : Int) : ltI a b = decide (a < b) := by
 cases a with
 | ofNat m =>
   cases b with
   | ofNat n =>
     show Nat.blt m n = decide ((m : Int) < (n : Int)); simp only [dO, Int.ofNat_lt]
   | negSucc n =>
     show false = decide ((m : Int) < Int.negSucc n); exact (decide_eq_false zO).symm
 | negSucc m =>
   cases b with
   | ofNat n =>
     show true = decide (Int.negSucc m < (n : Int)); exact (decide_eq_true zO).symm
   | negSucc n =>
     show Nat.blt n m = decide (Int.negSucc m < Int.negSucc n); rw [dO]; exact decide_eq_decide.2 zO
theorem Bv : ∀ (x y : List Nat), eqS x y = decide (x = y)
 | [], [] => rfl
 | [], _ :: _ => rfl
 | _ :: _, [] => rfl
 | a :: x, b :: y => by
   show ifB (Nat.beq a b) (eqS x y) false = _
   rw [Bv x y]
   cases h : Nat.beq a b with
   | true => rw [Nat.eq_of_beq_eq_true h]; simp [ifB]
   | false =>
     have : a ≠ b := λ e => by subst e; simp at h
     simp [ifB, this]
theorem AS : ∀ (x y : List UInt8), ltS (x.map UInt8.toNat) (y.map UInt8.toNat) = Op.bytesLess x y
 | [], [] => rfl
 | [], _ :: _ => rfl
 | _ :: _, [] => rfl
 | a :: x, b :: y => by
   show ifB (Nat.blt a.toNat b.toNat) true (ifB (Nat.beq a.toNat b.toNat) (ltS (x.map UInt8.toNat) (y.map UInt8.toNat)) false) = (a < b || (a == b && Op.bytesLess x y))
   rw [AS x y, dO]
   by_cases h : a.toNat < b.toNat
   . rw [decide_eq_true h]
     have : a < b := UInt8.lt_iff_toNat_lt.2 h
     simp [ifB, this]
   . rw [decide_eq_false h]
     have : ¬ a < b := λ q => h (UInt8.lt_iff_toNat_lt.1 q)
     by_cases e : a = b
     . subst e; simp [ifB]
     . have e' : Nat.beq a.toNat b.toNat = false := Bool.eq_false_iff.2 λ q => e (UInt8.toNat_inj.1 (Nat.eq_of_beq_eq_true q))
       rw [e']
       simp [ifB, this, e]
theorem str_eq {b d : ByteArray} {s u : List Nat} (h1 : b.data.toList.map UInt8.toNat = s) (h2 : d.data.toList.map UInt8.toNat = u) : eqS s u = (b.toList == d.toList) := by
 rw [Bv, ByteArray.toList_eq, ByteArray.toList_eq, <- h1, <- h2]; by_cases e : b.data.toList = d.data.toList
 . rw [e]; simp
 . rw [beq_eq_false_iff_ne.2 e]; exact decide_eq_false λ q => e ((List.map_inj_right (λ _ _ h => UInt8.toNat_inj.1 h)).1 q)
theorem Eo {b d : ByteArray} {s u : List Nat} (h1 : b.data.toList.map UInt8.toNat = s) (h2 : d.data.toList.map UInt8.toNat = u) : ltS s u = Op.bytesLess b.toList d.toList := by
 rw [ByteArray.toList_eq, ByteArray.toList_eq, <- h1, <- h2, AS]
theorem jm {b : ByteArray} {s : List Nat} (h1 : b.data.toList.map UInt8.toNat = s) : b.size = s.length := by
 rw [<- h1, List.length_map]; rfl
theorem fZ {α : Type} {b : Bool} {x : Option α} {r : α} (h : ifB b none x = some r) : b = false /\ x = some r := by
 cases b
 . exact ⟨rfl, h⟩
 . cases h
theorem VR.int (ρ : Ren) (k : IntKind) (n : Int) : VR ρ (.int k n) (.int k n) := by simp only [VR]
theorem VR.bool (ρ : Ren) (b : Bool) : VR ρ (.bool b) (.bool b) := by simp only [VR]
theorem uR {op : BinOp} {t : TypeId} {k : IntKind} {a b : Int} {r : AV} {w : World} (ρ : Ren) (h : vJ op k a b = some r) : ∃ v, (binOp op t (.int k a) (.int k b)).run P w = .ok v w /\ VR ρ r v := by
 cases op with
 | add => cases h; exact ⟨_, by simp [binOp, Op.intArith]; rfl, by rw [iL]; exact VR.int ρ k _⟩
 | sub => cases h; exact ⟨_, by simp [binOp, Op.intArith]; rfl, by rw [iL]; exact VR.int ρ k _⟩
 | mul => cases h; exact ⟨_, by simp [binOp, Op.intArith]; rfl, by rw [iL]; exact VR.int ρ k _⟩
 | quo =>
   obtain ⟨h0, h⟩ := fZ h; cases h; rw [o8] at h0; have : b ≠ 0 := λ e => by subst e; cases h0
   exact ⟨_, by simp [binOp, Op.intDiv, this], VR.int ρ k _⟩
 | rem =>
   obtain ⟨h0, h⟩ := fZ h; cases h; rw [o8] at h0; have : b ≠ 0 := λ e => by subst e; cases h0
   exact ⟨_, by simp [binOp, Op.intDiv, this], VR.int ρ k _⟩
 | and => cases h; exact ⟨_, by simp [binOp, Op.intBits], VR.int ρ k _⟩
 | or => cases h; exact ⟨_, by simp [binOp, Op.intBits], VR.int ρ k _⟩
 | xor => cases h
 | shl =>
   obtain ⟨h0, h⟩ := fZ h; cases h; rw [ib] at h0; have : ¬ b < 0 := of_decide_eq_false h0; exact ⟨_, by simp [binOp, Op.shift, this], VR.int ρ k _⟩
 | shr =>
   obtain ⟨h0, h⟩ := fZ h; cases h; rw [ib] at h0; have : ¬ b < 0 := of_decide_eq_false h0; exact ⟨_, by simp [binOp, Op.shift, this], VR.int ρ k _⟩
 | andNot => cases h
 | eql => cases h; exact ⟨_, by simp [binOp, Op.intCmp]; rfl, by rw [o8]; exact VR.bool ρ _⟩
 | neq => cases h; exact ⟨_, by simp [binOp, Op.intCmp]; rfl, by rw [o8]; exact VR.bool ρ _⟩
 | lss => cases h; exact ⟨_, by simp [binOp, Op.intCmp]; rfl, by rw [ib]; exact VR.bool ρ _⟩
 | leq => cases h; exact ⟨_, by simp [binOp, Op.intCmp]; rfl, by rw [ib, <- decide_not]; simp only [Int.not_lt]; exact VR.bool ρ _⟩
 | gtr => cases h; exact ⟨_, by simp [binOp, Op.intCmp]; rfl, by rw [ib]; exact VR.bool ρ _⟩
 | geq => cases h; exact ⟨_, by simp [binOp, Op.intCmp]; rfl, by rw [ib, <- decide_not]; simp only [Int.not_lt]; exact VR.bool ρ _⟩
theorem ye {op : BinOp} {t : TypeId} {k j : IntKind} {a b : Int} {r : AV} {w : World} (ρ : Ren) (h : z7 op k a b = some r) : ∃ v, (binOp op t (.int k a) (.int j b)).run P w = .ok v w /\ VR ρ r v := by
 cases op <;> first
  | (cases h; done)
  | (obtain ⟨h0, h⟩ := fZ h; cases h; rw [ib] at h0; have : ¬ b < 0 := of_decide_eq_false h0; exact ⟨_, by simp [binOp, Op.shift, this], VR.int ρ k _⟩)
theorem uP {op : BinOp} {t : TypeId} {a b : ByteArray} {s u : List Nat} {r : AV} {w : World} (ρ : Ren) (h1 : a.data.toList.map UInt8.toNat = s) (h2 : b.data.toList.map UInt8.toNat = u) (h : zQ op s u = some r) :
  ∃ v, (binOp op t (.string a) (.string b)).run P w = .ok v w /\ VR ρ r v := by
 have he := str_eq h1 h2; have hl := Eo h1 h2; have hb : ∀ p q : Bool, (p || q) = ifB p true q := λ p q => by cases p <;> rfl
 cases op with
 | add =>
   obtain ⟨hs, h⟩ := dk h; cases h; have hz : ¬ ((a.size + b.size : Nat) : Int) > IntKind.i64.max := by
    have h3 := jm h1; have h4 := jm h2; have h5 := Nat.le_of_ble_eq_true hs; rw [len_eq, len_eq] at h5; have h6 : IntKind.i64.max = 9223372036854775807 := rfl; rw [h6, h3, h4]; have h7 : s.length + u.length <= 1048576 := h5; omega
   refine ⟨.string (a ++ b), by simp only [binOp, Op.stringOp]; rw [if_neg hz]; rfl, ?_⟩; simp only [VR]; refine ⟨_, rfl, ?_⟩; rw [<- h1, <- h2]; show (a ++ b).data.toList.map _ = List.append _ _; simp
 | eql => cases h; exact ⟨_, rfl, by rw [he]; exact VR.bool ρ _⟩
 | neq => cases h; exact ⟨_, rfl, by rw [he]; exact VR.bool ρ _⟩
 | lss => cases h; exact ⟨_, rfl, by rw [hl]; exact VR.bool ρ _⟩
 | leq => cases h; exact ⟨_, rfl, by rw [hl, he, <- hb]; exact VR.bool ρ _⟩
 | gtr => cases h; exact ⟨_, rfl, by rw [hl, he, <- hb]; exact VR.bool ρ _⟩
 | geq => cases h; exact ⟨_, rfl, by rw [hl]; exact VR.bool ρ _⟩
 | _ => cases h
theorem xp {k j : IntKind} (h : Nat.beq (jI k) (jI j) = true) : k = j := by
 cases k <;> cases j <;> first | rfl | cases h
theorem EG {op : BinOp} {t t' : TypeId} {x y : Operand} {x' y' : Opd} (ho : o.op = .binOp op t x y t') (kx : aS x = some x') (ky : aS y = some y') : aZ P o (De op x' y') := by
 refine aZ.of_val λ call e c h v c' h' l he => ?_; obtain ⟨he, rfl, rfl, _⟩ := AJ he; refine ⟨rfl, rfl, λ ρ w a _ hE => ?_⟩; have hx := aF hE kx; have hy := aF hE ky; have key : ∃ v', (binOp op t (a.eval x) (a.eval y)).run P w = .ok v' w /\ VR ρ v v' /\ (∀ q, a.eval x ≠ .agg q) /\ a.eval x ≠ .nilIface := by
  generalize ev e x' = p at *; generalize ev e y' = q at *; cases p with
  | int k m =>
    cases q with
    | int j n =>
      simp only [VR] at hx hy; rw [hx, hy]; have he : ifB (Nat.beq (jI k) (jI j)) (vJ op k m n) (z7 op k m n) = some v := he; cases hk : Nat.beq (jI k) (jI j) with
      | true =>
        rw [hk] at he; obtain ⟨v', h1, h2⟩ := uR (P := P) (t := t) (w := w) ρ he; rw [<- xp hk]; exact ⟨v', h1, h2, by simp, by simp⟩
      | false =>
        rw [hk] at he; obtain ⟨v', h1, h2⟩ := ye (P := P) (t := t) (w := w) (j := j) ρ he; exact ⟨v', h1, h2, by simp, by simp⟩
    | _ => cases he
  | str s =>
    cases q with
    | str u =>
      simp only [VR] at hx hy; obtain ⟨b1, hx, h1⟩ := hx; obtain ⟨b2, hy, h2⟩ := hy; rw [hx, hy]; obtain ⟨v', h3, h4⟩ := uP (P := P) (t := t) (w := w) ρ h1 h2 he; exact ⟨v', h3, h4, by simp, by simp⟩
    | _ => cases he
  | _ => cases he
 obtain ⟨v', h1, h2, h3, h4⟩ := key; refine ⟨v', ?_, h2⟩; simp only [execOp, ho]; refine bd ?_; have hg : (eqGuard op t x y (a.eval x) (a.eval y)).run P w = .ok () w := by
  unfold eqGuard; split <;> simp_all
 simp only [Sem.run_bind, hg, Result.andThen]; exact h1
end
section
variable {P : Program} {o : Oper}
theorem EB {t : TypeId} {x : Operand} {y : Opd} (ho : o.op = .unOp .not t x) (k : aS x = some y) : aZ P o (C9 y) := by
 refine aZ.of_val λ call e c h v c' h' l he => ?_; obtain ⟨b, hb, he⟩ := lQ he; obtain ⟨rfl, rfl, rfl, _⟩ := aP he; refine ⟨rfl, rfl, λ ρ w a _ hE => ?_⟩; have hx := aF hE k; rw [hb] at hx; simp only [VR] at hx; exact ⟨_, by simp [execOp, ho, hx, Op.unary], VR.bool ρ _⟩
theorem EC {t : TypeId} {x : Operand} {y : Opd} (ho : o.op = .unOp .neg t x) (k : aS x = some y) : aZ P o (Da y) := by
 refine aZ.of_val λ call e c h v c' h' l he => ?_; obtain ⟨b, n, hb, he⟩ := i6 he; obtain ⟨rfl, rfl, rfl, _⟩ := aP he; refine ⟨rfl, rfl, λ ρ w a _ hE => ?_⟩; have hx := aF hE k; rw [hb] at hx; simp only [VR] at hx; exact ⟨.int b (b.wrap (0 - n)), by simp [execOp, ho, hx, Op.unary, Op.intArith], by rw [iL]; exact VR.int ρ b _⟩
theorem C3 {s d : TypeId} {i j : IntKind} {x : Operand} {y : Opd} (ho : o.op = .convert s d x) (k : aS x = some y) (hs : P.underlying s = some (.int i)) (hd : P.underlying d = some (.int j)) : aZ P o (xe j y) := by
 refine aZ.of_val λ call e c h v c' h' l he => ?_; obtain ⟨b, n, hb, he⟩ := i6 he; obtain ⟨rfl, rfl, rfl, _⟩ := aP he; refine ⟨rfl, rfl, λ ρ w a _ hE => ?_⟩; have hx := aF hE k; rw [hb] at hx; simp only [VR] at hx; exact ⟨.int j (j.wrap n), by simp [execOp, ho, hx, convert, ay hs, ay hd, Conv.intToInt], by rw [iL]; exact VR.int ρ j _⟩
theorem Aw {s d : TypeId} {x : Operand} {y : Opd} (ho : o.op = .convert s d x) (k : aS x = some y) (hs : P.underlying s = some .string) (hd : P.underlying d = some .string) : aZ P o (wZ y) := by
 refine aZ.of_val λ call e c h v c' h' l he => ?_; obtain ⟨b, hb, he⟩ := gN he; obtain ⟨rfl, rfl, rfl, _⟩ := aP he; refine ⟨rfl, rfl, λ ρ w a _ hE => ?_⟩; have hx := aF hE k; rw [hb] at hx; have hx' := hx; simp only [VR] at hx'; obtain ⟨q, hq, _⟩ := hx'; exact ⟨_, by simp [execOp, ho, hq, convert, ay hs, ay hd], hq ▸ hx⟩
theorem rY : ∀ m : Nat, m < 128 -> (Utf8.encode m).data.toList.map UInt8.toNat = [m] := by decide +kernel
theorem ED {s d : TypeId} {i : IntKind} {x : Operand} {y : Opd} (ho : o.op = .convert s d x) (k : aS x = some y) (hs : P.underlying s = some (.int i)) (hd : P.underlying d = some .string) : aZ P o (Db y) := by
 refine aZ.of_val λ call e c h v c' h' l he => ?_; obtain ⟨b, n, hb, he⟩ := i6 he; obtain ⟨m, rfl, he⟩ := AG he; obtain ⟨hm, he⟩ := dj he; obtain ⟨rfl, rfl, rfl, _⟩ := aP he; refine ⟨rfl, rfl, λ ρ w a _ hE => ?_⟩; have hx := aF hE k; rw [hb] at hx; simp only [VR] at hx; refine ⟨.string (Utf8.encode m), by simp [execOp, ho, hx, convert, ay hs, ay hd, Conv.intToString], ?_⟩; simp only [VR]; rw [dO] at hm; exact ⟨_, rfl, rY m (of_decide_eq_true hm)⟩
theorem pa : ∀ (n : Nat) (l : List Nat), BG n l = l.drop n
 | 0, _ => rfl
 | _ + 1, [] => rfl
 | n + 1, _ :: l => pa n l
theorem sy : ∀ (n : Nat) (l : List Nat), D7 n l = l.take n
 | 0, _ => rfl
 | _ + 1, [] => rfl
 | n + 1, a :: l => congrArg (a :: ·) (sy n l)
theorem iz {ρ : Ren} {v : AV} {u : Value} {n : Nat} (h : VR ρ v u) (e : asN v = some n) : ∃ k, u = .int k (n : Int) := by
 cases v with
 | int k m =>
   cases m with
   | ofNat m => cases e; simp only [VR] at h; exact ⟨k, h⟩
   | negSucc m => cases e
 | _ => cases e
theorem tp {t : TypeId} {x i : Operand} {x' i' : Opd} (ho : o.op = .index t x i) (kx : aS x = some x') (ki : aS i = some i') (ht : P.underlying t = some .string) : aZ P o (jx x' i') := by
 refine aZ.of_val λ call e c h v c' h' l he => ?_; obtain ⟨s, hs, he⟩ := gN he; obtain ⟨n, hn, he⟩ := bH he; obtain ⟨b, r, hd, he⟩ := oP he; obtain ⟨rfl, rfl, rfl, _⟩ := aP he; refine ⟨rfl, rfl, λ ρ w a _ hE => ?_⟩; have hx := aF hE kx; have hi := aF hE ki; obtain ⟨k, hi⟩ := iz hi hn; rw [hs] at hx; simp only [VR] at hx; obtain ⟨q, hq, hx⟩ := hx; refine ⟨.int .u8 b, ?_, VR.int ρ _ _⟩; simp only [execOp, ho]; refine bd ?_; rw [pa] at hd; have hb : s[n]? = some b := (by simpa [List.head?_drop] using congrArg List.head? hd); rw [<- hx, List.getElem?_map] at hb; cases hg : q.data.toList[n]? with
 | none => rw [hg] at hb; cases hb
 | some u =>
   rw [hg] at hb; have hu : u.toNat = b := (by simpa using hb); have hlt : n < q.data.toList.length := by
    rcases Nat.lt_or_ge n q.data.toList.length with hh | hh
    . exact hh
    . rw [List.getElem?_eq_none hh] at hg; cases hg
   have hq2 : q[n]? = some u := by
    rw [ByteArray.getElem?_lt' q n (show n < q.data.size by rw [<- Array.length_toList]; exact hlt)]; rw [List.getElem?_eq_getElem hlt] at hg; exact hg
   simp [Instr.index, hi, asIntOf, ay ht, hq, hq2, hu]
theorem AX {size n : Nat} {p : Nat × Nat} {i : Option Nat} {c c' : Nat} {h h' : H} {l : Log} {v : AV} (e : ixA size n p i c h = .ok v c' h' l) : ∃ m, i = some m /\ m < n /\ v = .ptr (some (p.1, p.2 + m * size)) /\ c' = c /\ h' = h := by
 obtain ⟨m, rfl, e⟩ := bH e; obtain ⟨hm, e⟩ := dj e; obtain ⟨rfl, rfl, rfl, _⟩ := aP e; rw [dO] at hm; exact ⟨m, rfl, of_decide_eq_true hm, rfl, rfl, rfl⟩
theorem vg {t el : TypeId} {z : Nat} {x i : Operand} {x' i' : Opd} (ho : o.op = .indexAddr t x i) (kx : aS x = some x') (ki : aS i = some i') (ht : P.underlying t = some (.slice el)) (hz : bY P el = some z) : aZ P o (kQ z x' i') := by
 refine aZ.of_val λ call e c h v c' h' l he => ?_; obtain ⟨p, n, m, q, hs, he⟩ := d8 he; obtain ⟨p, rfl, he⟩ := bH he; obtain ⟨i0, hi0, hlt, rfl, rfl, rfl⟩ := AX he; refine ⟨rfl, rfl, λ ρ w a _ hE => ?_⟩; have hx := aF hE kx; have hi := aF hE ki; obtain ⟨k, hi⟩ := iz hi hi0; rw [hs] at hx; simp only [VR] at hx; obtain ⟨b, s, o', k', h1, h2, h3, h4, h5, h6, _⟩ := hx; have h5 : o' = p.2 := by
  rcases h5 with h5 | h5
  . omega
  . exact h5
 subst h5; refine ⟨.pointer (some ⟨b, p.2 + i0 * z, none⟩), ?_, ?_⟩
 . simp only [execOp, ho]; refine bd ?_; have hc : (0 : Int) <= (i0 : Int) /\ (i0 : Int) < (n : Int) := ⟨by omega, by omega⟩; simp [Instr.indexAt, hi, asIntOf, ay ht, h2, b5 hz, addr_add, hlt]
 . simp only [VR]; exact ⟨b, s, h1, rfl⟩
theorem vh {t el : TypeId} {n z : Nat} {x i : Operand} {x' i' : Opd} (ho : o.op = .indexAddr t x i) (kx : aS x = some x') (ki : aS i = some i') (ht : P.underlying t = some (.array n el)) (hz : bY P el = some z) : aZ P o (kR n z x' i') := by
 refine aZ.of_val λ call e c h v c' h' l he => ?_; obtain ⟨p, hs, he⟩ := fW he; obtain ⟨p, rfl, he⟩ := bH he; obtain ⟨i0, hi0, hlt, rfl, rfl, rfl⟩ := AX he; refine ⟨rfl, rfl, λ ρ w a _ hE => ?_⟩; have hx := aF hE kx; have hi := aF hE ki; obtain ⟨k, hi⟩ := iz hi hi0; rw [hs] at hx; simp only [VR] at hx; obtain ⟨b, s, h1, h2⟩ := hx; refine ⟨.pointer (some ⟨b, p.2 + i0 * z, none⟩), ?_, ?_⟩
 . simp only [execOp, ho]; refine bd ?_; simp [Instr.indexAt, hi, asIntOf, ay ht, h2, b5 hz, addr_add, hlt, Instr.sureAddr]
 . simp only [VR]; exact ⟨b, s, h1, rfl⟩
theorem tn {t el : TypeId} {n z : Nat} {g : Bool} {x i : Operand} {x' i' : Opd} (ho : o.op = .index t x i) (kx : aS x = some x') (ki : aS i = some i') (ht : P.underlying t = some (.array n el)) (hz : bY P el = some z) (hg : jh P el = some g) : aZ P o (jw n z g x' i') := by
 refine aZ.of_val λ call e c h v c' h' l he => ?_; obtain ⟨m, hm, he⟩ := bH he; obtain ⟨hlt, he⟩ := dj he; rw [dO] at hlt; have hlt := of_decide_eq_true hlt; have key : c' = c /\ h' = h /\ ∃ r, ev e x' = .agg r /\ ∀ (ρ : Ren) (w : World) (q : Array Value), VRs ρ r q.toList -> ∃ u, (part el q (m * z)).run P w = .ok u w /\ VR ρ v u := by
  cases g with
  | true =>
    obtain ⟨r, hr, he⟩ := kN (show wS (m * z) z (ev e x') c h = _ from he); obtain ⟨u, hd, he⟩ := bH he; obtain ⟨rfl, rfl, rfl, _⟩ := aP he; exact ⟨rfl, rfl, r, hr, λ ρ w q hq => p8 hg hz hq hd⟩
  | false =>
    obtain ⟨r, hr, he⟩ := kN (show wT (m * z) (ev e x') c h = _ from he); obtain ⟨u, t, hd, he⟩ := oP he; obtain ⟨rfl, rfl, rfl, _⟩ := aP he; exact ⟨rfl, rfl, r, hr, λ ρ w q hq => jo hg hq hd⟩
 obtain ⟨rfl, rfl, r, hr, key⟩ := key; refine ⟨rfl, rfl, λ ρ w a _ hE => ?_⟩; have hx := aF hE kx; have hi := aF hE ki; obtain ⟨k, hi⟩ := iz hi hm; rw [hr] at hx; simp only [VR] at hx; obtain ⟨q, hq, hx⟩ := hx; obtain ⟨u, h1, h2⟩ := key ρ w q hx; refine ⟨u, ?_, h2⟩; simp only [execOp, ho]; refine bd ?_; simp [Instr.index, hi, asIntOf, ay ht, hq, hlt, b5 hz, h1]
theorem ud {ρ : Ren} {e : Env} {a : Act} (hE : ER ρ e a.tmps) {x : Option Operand} {x' : Option Opd} (k : jb x = some x') {d n : Nat} (hn : evB e d x' = some n) :
  (x = none /\ n = d) ∨ ∃ y i, x = some y /\ a.eval y = .int i (n : Int) := by
 rcases BT hE k with ⟨rfl, rfl⟩ | ⟨y, y', rfl, rfl, hV⟩
 . cases hn; exact .inl ⟨rfl, rfl⟩
 . obtain ⟨i, hi⟩ := iz hV hn; exact .inr ⟨y, i, rfl, hi⟩
theorem jQ {ρ : Ren} {e : Env} {a : Act} (hE : ER ρ e a.tmps) {lo hi : Option Operand} {lo' hi' : Option Opd} (kl : jb lo = some lo') (kh : jb hi = some hi') {len cap l h : Nat} (hl : evB e 0 lo' = some l) (hh : evB e len hi' = some h)
  (h1 : l <= h) (h2 : h <= cap) (b : Bool) (w : World) : (Instr.sliceBounds b len cap (lo.map a.eval) (hi.map a.eval) none).run P w = .ok (l, h, cap) w := by
 unfold Instr.sliceBounds; rcases ud hE kh hh with ⟨rfl, rfl⟩ | ⟨y, i, rfl, hy⟩ <;> rcases ud hE kl hl with ⟨rfl, rfl⟩ | ⟨z, j, rfl, hz⟩ <;>
  simp [Instr.sliceBound, asIntOf, *]
theorem lV {l h m : Nat} (e : ifB (Nat.ble l h) (Nat.ble h m) false = true) : l <= h /\ h <= m := by
 cases k : Nat.ble l h with
 | false => rw [k] at e; cases e
 | true => rw [k] at e; exact ⟨Nat.le_of_ble_eq_true k, Nat.le_of_ble_eq_true e⟩
theorem tk {t : TypeId} {x : Operand} {lo hi : Option Operand} {x' : Opd} {lo' hi' : Option Opd} (ho : o.op = .slice t x lo hi none) (kx : aS x = some x') (kl : jb lo = some lo') (kh : jb hi = some hi') (ht : P.underlying t = some .string) : aZ P o (js x' lo' hi') := by
 refine aZ.of_val λ call e c h v c' h' l he => ?_; obtain ⟨s, hs, he⟩ := gN he; obtain ⟨l0, hl, he⟩ := bH he; obtain ⟨h0, hh, he⟩ := bH he; obtain ⟨hb, he⟩ := dj he; obtain ⟨rfl, rfl, rfl, _⟩ := aP he; obtain ⟨h1, h2⟩ := lV hb; rw [len_eq] at h2 hh; refine ⟨rfl, rfl, λ ρ w a _ hE => ?_⟩; have hx := aF hE kx; rw [hs] at hx; simp only [VR] at hx; obtain ⟨q, hq, hx⟩ := hx; have hlen := jm hx; refine ⟨.string (q.extract l0 h0), ?_, ?_⟩
 . simp only [execOp, ho]; refine bd ?_; have := jQ (P := P) hE kl kh (cap := s.length) hl hh h1 h2 false w; rw [<- hlen] at this; simp [Instr.sliceAt, Instr.slice, ay ht, hq, this]
 . simp only [VR]; refine ⟨_, rfl, ?_⟩; rw [sy, pa, <- hx]; simp only [ByteArray.data_extract, Array.toList_extract, List.extract_eq_take_drop, List.map_take, List.map_drop]; rfl
theorem CI {size c0 c c' : Nat} {p : Option (Nat × Nat)} {l h : Option Nat} {v : AV} {H0 H1 : H} {g : Log} (e : Fs size p c0 l h c H0 = .ok v c' H1 g) :
  ∃ l0 h0, l = some l0 /\ h = some h0 /\ l0 <= h0 /\ h0 <= c0 /\ v = .slice (rh (l0 * size) p) (h0 - l0) (c0 - l0) size /\ c' = c /\ H1 = H0 := by
 obtain ⟨l0, rfl, e⟩ := bH (o := l) e; obtain ⟨h0, rfl, e⟩ := bH (o := h) e; obtain ⟨hb, e⟩ := dj e; obtain ⟨rfl, rfl, rfl, _⟩ := aP e; obtain ⟨h1, h2⟩ := lV hb; exact ⟨l0, h0, rfl, rfl, h1, h2, rfl, rfl, rfl⟩
theorem vd {t el : TypeId} {z : Nat} {x : Operand} {lo hi : Option Operand} {x' : Opd} {lo' hi' : Option Opd} (ho : o.op = .slice t x lo hi none) (kx : aS x = some x') (kl : jb lo = some lo') (kh : jb hi = some hi') (ht : P.underlying t = some (.slice el)) (hz : bY P el = some z) : aZ P o (kP z x' lo' hi') := by
 refine aZ.of_val λ call e c h v c' h' l he => ?_; obtain ⟨p, n, m, q, hs, he⟩ := d8 he; obtain ⟨hq, he⟩ := dj he; obtain ⟨l0, h0, hl, hh, h1, h2, rfl, rfl, rfl⟩ := CI he; refine ⟨rfl, rfl, λ ρ w a _ hE => ?_⟩; have hx := aF hE kx; rw [hs] at hx; cases p with
 | none =>
   simp only [VR] at hx; have := jQ (P := P) hE kl kh (cap := m) hl hh h1 h2 true w; refine ⟨.slice none (h0 - l0) (m - l0), ?_, by simp only [rh, i8, VR]⟩; simp only [execOp, ho]; refine bd ?_; simp [Instr.sliceAt, Instr.slice, ay ht, hx, this, b5 hz]
 | some p =>
   simp only [VR] at hx; obtain ⟨b, s, o', k', g1, g2, g3, g4, g5, g6, g7⟩ := hx; have hqz : q = z := Nat.eq_of_beq_eq_true hq; subst hqz; have := jQ (P := P) hE kl kh (cap := k') hl hh h1 (Nat.le_trans h2 g3) true w; refine ⟨.slice (some (if k' = l0 then ⟨b, o', none⟩ else ⟨b, o' + l0 * q, none⟩)) (h0 - l0) (k' - l0), ?_, ?_⟩
   . simp only [execOp, ho]; refine bd ?_; simp only [Instr.sliceAt, Instr.slice, Sem.run_bind, ay ht, Result.andThen, g2, Option.map_none, this, b5 hz, Sem.run_pure]; congr 2
     split <;> simp [addr_add]
   . simp only [rh, ld, VR]; by_cases hk : k' = l0
     . rw [if_pos hk]; exact ⟨b, s, o', _, g1, rfl, by omega, by omega, .inl zO, by rw [hk]; simp; omega, by omega⟩
     . rw [if_neg hk]; refine ⟨b, s, o' + l0 * q, _, g1, rfl, by omega, by omega, .inr ?_, ?_, by omega⟩
       . rcases g5 with g5 | g5
         . omega
         . rw [g5]; rfl
       . rw [Nat.add_assoc, <- Nat.add_mul]; rw [show l0 + (k' - l0) = k' by omega]; exact g6
end
section
variable {P : Program} {o : Oper}
def jj (P : Program) (t : TypeId) (x y : Operand) (f : AV -> AV -> Option Bool) : Prop := ∀ ρ p q r, f p q = some r -> ∀ u v, VR ρ p u -> VR ρ q v -> ∀ w : World,
 (∀ op, (eqGuard op t x y u v).run P w = .ok () w) /\ (binOp .eql t u v).run P w = .ok (.bool r) w /\ (binOp .neq t u v).run P w = .ok (.bool (!r)) w
theorem Eb {op : BinOp} {pos : Bool} {t t' : TypeId} {x y : Operand} {x' y' : Opd} {f : AV -> AV -> Option Bool} (ho : o.op = .binOp op t x y t') (kx : aS x = some x') (ky : aS y = some y')
  (hp : (op = .eql /\ pos = true) ∨ (op = .neq /\ pos = false)) (hf : jj P t x y f) : aZ P o (oEq f pos x' y') := by
 refine aZ.of_val λ call e c h v c' h' l he => ?_; obtain ⟨r, hr, he⟩ := bH he; obtain ⟨rfl, rfl, rfl, _⟩ := aP he; refine ⟨rfl, rfl, λ ρ w a _ hE => ?_⟩; obtain ⟨h1, h2, h3⟩ := hf ρ _ _ r hr _ _ (aF hE kx) (aF hE ky) w; refine ⟨.bool (if pos then r else !r), ?_, ?_⟩
 . simp only [execOp, ho]; refine bd ?_; rcases hp with ⟨rfl, rfl⟩ | ⟨rfl, rfl⟩ <;> simp [h1, h2, h3]
 . cases pos <;> exact VR.bool ρ _
theorem ql {v : AV} {β : Type} {k : Bool -> Option β} {r : β} (e : onBool none k v = some r) : ∃ b, v = .bool b /\ k b = some r := by cases v <;> first | exact ⟨_, rfl, e⟩ | cases e
theorem tw {v : AV} {β : Type} {k : IntKind -> Int -> Option β} {r : β} (e : onInt none k v = some r) : ∃ i n, v = .int i n /\ k i n = some r := by cases v <;> first | exact ⟨_, _, rfl, e⟩ | cases e
theorem tt {v : AV} {β : Type} {k : List Nat -> Option β} {r : β} (e : onStr none k v = some r) : ∃ b, v = .str b /\ k b = some r := by cases v <;> first | exact ⟨_, rfl, e⟩ | cases e
theorem tu {v : AV} {β : Type} {k : Option (Nat × Nat) -> Option β} {r : β} (e : onPtr none k v = some r) : ∃ b, v = .ptr b /\ k b = some r := by cases v <;> first | exact ⟨_, rfl, e⟩ | cases e
theorem ou {v : AV} {β : Type} {k : Option (Nat × Nat) -> Nat -> Nat -> Nat -> Option β} {r : β} (e : onSlice none k v = some r) : ∃ a n m z, v = .slice a n m z /\ k a n m z = some r := by cases v <;> first | exact ⟨_, _, _, _, rfl, e⟩ | cases e
theorem tv {v : AV} {β : Type} {k : Option Nat -> Option β} {r : β} (e : onMap none k v = some r) : ∃ b, v = .map b /\ k b = some r := by cases v <;> first | exact ⟨_, rfl, e⟩ | cases e
theorem tx {v : AV} {β : Type} {k : List AV -> Option β} {r : β} (e : onAgg none k v = some r) : ∃ b, v = .agg b /\ k b = some r := by cases v <;> first | exact ⟨_, rfl, e⟩ | cases e
theorem Bc {α β : Type} {l : List α} {k : α -> List α -> Option β} {r : β} (e : ifC none k l = some r) : ∃ a t, l = a :: t /\ k a t = some r := by
 cases l with
 | nil => cases e
 | cons a t => exact ⟨a, t, rfl, e⟩
theorem Fa (a b : Bool) : ifB a b (not b) = (a == b) := by cases a <;> cases b <;> rfl
def oT : FK -> TypeDesc -> Prop
 | .int, d => ∃ k, d = .int k
 | .str, d => d = .string
 | .bool, d => d = .bool
theorem lZ {t : TypeId} {k : FK} (h : fkO P t = some k) : ∃ d, P.underlying t = some d /\ oT k d := by
 unfold fkO at h; split at h <;> first
  | (rename_i e; cases h; exact ⟨_, e, _, rfl⟩)
  | (rename_i e; cases h; exact ⟨_, e, rfl⟩)
  | cases h
theorem l9 {k : FK} {ρ : Ren} {p q : AV} {r : Bool} (h : eU k p q = some r) {u v : Value} (hu : VR ρ p u) (hv : VR ρ q v) :
  match k with
  | .int => ∃ i m n, u = .int i m /\ v = .int i n /\ r = (m == n)
  | .str => ∃ a b, u = .string a /\ v = .string b /\ r = (a.toList == b.toList)
  | .bool => ∃ a b, u = .bool a /\ v = .bool b /\ r = (a == b) := by
 cases k with
 | int =>
   obtain ⟨i, m, rfl, h⟩ := tw (show onInt none _ p = some r from h); obtain ⟨j, n, rfl, h⟩ := tw h; obtain ⟨hk, h⟩ := dk h; cases h; simp only [VR] at hu hv; rw [xp hk] at hu; exact ⟨j, m, n, hu, hv, o8 m n⟩
 | str =>
   obtain ⟨a, rfl, h⟩ := tt (show onStr none _ p = some r from h); obtain ⟨b, rfl, h⟩ := tt h; cases h; simp only [VR] at hu hv; obtain ⟨x, hu, h1⟩ := hu; obtain ⟨y, hv, h2⟩ := hv; exact ⟨x, y, hu, hv, str_eq h1 h2⟩
 | bool =>
   obtain ⟨a, rfl, h⟩ := ql (show onBool none _ p = some r from h); obtain ⟨b, rfl, h⟩ := ql h; cases h; simp only [VR] at hu hv; exact ⟨a, b, hu, hv, Fa a b⟩
theorem nZ {k : FK} {t : TypeId} (ht : fkO P t = some k) {ρ : Ren} {p q : AV} {r : Bool} (h : eU k p q = some r) {u v : Value} (hu : VR ρ p u) (hv : VR ρ q v) (d : Nat) (w : World) : (Op.equalIn (d + 1) t u v).run P w = .ok r w := by
 obtain ⟨D, hD, hf⟩ := lZ ht; have := l9 h hu hv; cases k with
 | int =>
   obtain ⟨i, m, n, rfl, rfl, rfl⟩ := this; obtain ⟨j, rfl⟩ := hf; exact run_equalIn_int w d t i j m n hD
 | str =>
   obtain ⟨a, b, rfl, rfl, rfl⟩ := this; exact run_equalIn_string w d t a b (hf ▸ hD)
 | bool =>
   obtain ⟨a, b, rfl, rfl, rfl⟩ := this; exact run_equalIn_bool' w d t a b (hf ▸ hD)
theorem jj.of_equal {t : TypeId} {x y : Operand} {f : AV -> AV -> Option Bool} (h : ∀ ρ p q r, f p q = some r -> ∀ u v, VR ρ p u -> VR ρ q v -> ∀ w : World,
  (∀ op, (eqGuard op t x y u v).run P w = .ok () w) /\ (∀ d, (Op.equalIn (d + 1) t u v).run P w = .ok r w) /\ (binOp .eql t u v = do pure (.bool (<- Op.equal t u v))) /\ (binOp .neq t u v = do pure (.bool (!(<- Op.equal t u v))))) : jj P t x y f := by
 intro ρ p q r hr u v hu hv w; obtain ⟨h1, h2, h3, h4⟩ := h ρ p q r hr u v hu hv w; have h2 : (Op.equal t u v).run P w = .ok r w := h2 9999; exact ⟨h1, by rw [h3]; simp [h2], by rw [h4]; simp [h2]⟩
theorem DM {t : TypeId} {x y : Operand} (ht : P.underlying t = some .bool) : jj P t x y (eU .bool) := by
 refine jj.of_equal λ ρ p q r hr u v hu hv w => ?_; have hk : fkO P t = some .bool := (by unfold fkO; rw [ht]); have h2 := λ d => nZ hk hr hu hv d w; obtain ⟨a, b, rfl, rfl, _⟩ := l9 hr hu hv; exact ⟨λ op => by cases op <;> rfl, h2, rfl, rfl⟩
theorem E8 {t e : TypeId} {z : Nat} {x y : Operand} (ht : P.underlying t = some (.pointer e)) (hz : bY P e = some z) (hn : z ≠ 0) : jj P t x y Eh := by
 refine jj.of_equal λ ρ p q r hr u v hu hv w => ?_; obtain ⟨a, rfl, hr⟩ := tu (v := p) hr; obtain ⟨b, rfl, hr⟩ := tu (v := q) hr; have key : ∃ i j, u = .pointer i /\ v = .pointer j /\ ∀ d, (Op.equalIn (d + 1) t u v).run P w = .ok r w := by
  cases a with
  | none =>
    simp only [VR] at hu; subst hu; cases hr; cases b with
    | none => simp only [VR] at hv; subst hv; exact ⟨_, _, rfl, rfl, λ d => by simp [Op.equalIn, ay ht, ifS]⟩
    | some b => simp only [VR] at hv; obtain ⟨_, _, _, rfl⟩ := hv; exact ⟨_, _, rfl, rfl, λ d => by simp [Op.equalIn, ay ht, ifS]⟩
  | some a =>
    simp only [VR] at hu; obtain ⟨k, z', h1, rfl⟩ := hu; cases b with
    | none => cases hr; simp only [VR] at hv; subst hv; exact ⟨_, _, rfl, rfl, λ d => by simp [Op.equalIn, ay ht]⟩
    | some b =>
      simp only [VR] at hv; obtain ⟨k', z'', h2, rfl⟩ := hv; obtain ⟨hk, hr⟩ := dk (show ifB (Nat.beq a.1 b.1) (some (Nat.beq a.2 b.2)) none = some r from hr); cases hr; rw [Nat.eq_of_beq_eq_true hk, h2] at h1; cases h1; refine ⟨_, _, rfl, rfl, ?_⟩; have : Nat.beq a.2 b.2 = ((⟨k, a.2, none⟩ : Addr) == ⟨k, b.2, none⟩) := by
       by_cases e : a.2 = b.2
       . rw [e]; simp
       . have e1 : Nat.beq a.2 b.2 = false := Bool.eq_false_iff.2 λ h => e (Nat.eq_of_beq_eq_true h); rw [e1]; exact (beq_eq_false_iff_ne.2 λ h => e (Addr.mk.inj h).2.1).symm
      rw [this]; simp [Op.equalIn, ay ht, b5 hz, hn, sameAddr]
 obtain ⟨i, j, rfl, rfl, h2⟩ := key; exact ⟨λ op => by cases op <;> rfl, h2, rfl, rfl⟩
theorem FN {t e : TypeId} {x y : Operand} (ht : P.underlying t = some (.slice e)) : jj P t x y FR := by
 refine jj.of_equal λ ρ p q r hr u v hu hv w => ?_; obtain ⟨a, n, m, z, rfl, hr⟩ := ou (v := p) hr; obtain ⟨b, n', m', z', rfl, hr⟩ := ou (v := q) hr; have key : ∃ i n m j n' m', u = .slice i n m /\ v = .slice j n' m' /\ ∀ d, (Op.equalIn (d + 1) t u v).run P w = .ok r w := by
  cases a with
  | none =>
    simp only [VR] at hu; subst hu; cases hr; cases b with
    | none => simp only [VR] at hv; subst hv; exact ⟨_, _, _, _, _, _, rfl, rfl, λ d => by simp [Op.equalIn, ay ht, ifS]⟩
    | some b => simp only [VR] at hv; obtain ⟨_, _, _, _, _, rfl, _⟩ := hv; exact ⟨_, _, _, _, _, _, rfl, rfl, λ d => by simp [Op.equalIn, ay ht, ifS]⟩
  | some a =>
    simp only [VR] at hu; obtain ⟨_, _, _, _, _, rfl, _⟩ := hu; cases b with
    | none => cases hr; simp only [VR] at hv; subst hv; exact ⟨_, _, _, _, _, _, rfl, rfl, λ d => by simp [Op.equalIn, ay ht]⟩
    | some b => cases hr
 obtain ⟨i, n, m, j, n', m', rfl, rfl, h2⟩ := key; exact ⟨λ op => by cases op <;> rfl, h2, rfl, rfl⟩
theorem E9 {t k e : TypeId} {x y : Operand} (ht : P.underlying t = some (.map k e)) : jj P t x y Ei := by
 refine jj.of_equal λ ρ p q r hr u v hu hv w => ?_; obtain ⟨a, rfl, hr⟩ := tv (v := p) hr; obtain ⟨b, rfl, hr⟩ := tv (v := q) hr; have key : ∃ i j, u = .map i /\ v = .map j /\ ∀ d, (Op.equalIn (d + 1) t u v).run P w = .ok r w := by
  cases a with
  | none =>
    simp only [VR] at hu; subst hu; cases hr; cases b with
    | none => simp only [VR] at hv; subst hv; exact ⟨_, _, rfl, rfl, λ d => by simp [Op.equalIn, ay ht, ifS]⟩
    | some b => simp only [VR] at hv; obtain ⟨_, _, _, rfl⟩ := hv; exact ⟨_, _, rfl, rfl, λ d => by simp [Op.equalIn, ay ht, ifS]⟩
  | some a =>
    simp only [VR] at hu; obtain ⟨_, _, _, rfl⟩ := hu; cases b with
    | none => cases hr; simp only [VR] at hv; subst hv; exact ⟨_, _, rfl, rfl, λ d => by simp [Op.equalIn, ay ht]⟩
    | some b => cases hr
 obtain ⟨i, j, rfl, rfl, h2⟩ := key; exact ⟨λ op => by cases op <;> rfl, h2, rfl, rfl⟩
theorem nx {v : AV} {b : Bool} (h : EJ v = some b) : (b = true /\ v = .nilFn) ∨ (b = false /\ ∃ f a c, v = .fn f a c) := by
 cases v <;> first | (cases h; exact .inl ⟨rfl, rfl⟩) | (cases h; exact .inr ⟨rfl, _, _, _, rfl⟩) | cases h
theorem nw {v : AV} {b : Bool} (h : EI v = some b) : (b = true /\ v = .nilIface) ∨ (b = false /\ ∃ t x, v = .iface t x) := by
 cases v <;> first | (cases h; exact .inl ⟨rfl, rfl⟩) | (cases h; exact .inr ⟨rfl, _, _, rfl⟩) | cases h
theorem xh {a b : Option Bool} {r : Bool} (h : EK a b = some r) : (a = some true /\ b = some r) ∨ (a = some false /\ b = some true /\ r = false) := by
 cases a with
 | none => cases h
 | some a =>
   cases b with
   | none => cases h
   | some b => cases a <;> cases b <;> first | (cases h; exact .inl ⟨rfl, rfl⟩) | (cases h; exact .inr ⟨rfl, rfl, rfl⟩) | cases h
theorem FQ {t : TypeId} {ps rs : Array TypeId} {b : Bool} {x y : Operand} (ht : P.underlying t = some (.func ps rs b)) : jj P t x y FV := by
 refine jj.of_equal λ ρ p q r hr u v hu hv w => ?_; rcases xh hr with ⟨h1, h2⟩ | ⟨h1, h2, rfl⟩
 . rcases nx h1 with ⟨_, rfl⟩ | ⟨e, _⟩
   . simp only [VR] at hu; subst hu; rcases nx h2 with ⟨rfl, rfl⟩ | ⟨rfl, f, a, c, rfl⟩
     . simp only [VR] at hv; subst hv; exact ⟨λ op => by cases op <;> rfl, λ d => by simp [Op.equalIn, ay ht], rfl, rfl⟩
     . simp only [VR] at hv; obtain ⟨_, _, rfl, _⟩ := hv; exact ⟨λ op => by cases op <;> rfl, λ d => by simp [Op.equalIn, ay ht], rfl, rfl⟩
   . cases e
 . rcases nx h1 with ⟨e, _⟩ | ⟨_, f, a, c, rfl⟩
   . cases e
   . rcases nx h2 with ⟨_, rfl⟩ | ⟨e, _⟩
     . simp only [VR] at hu hv; obtain ⟨_, _, rfl, _⟩ := hu; subst hv; exact ⟨λ op => by cases op <;> rfl, λ d => by simp [Op.equalIn, ay ht], rfl, rfl⟩
     . cases e
theorem vH {x : Operand} (h : jz x = true) : ∃ v, x = .const v := by
 cases x <;> first | exact ⟨_, rfl⟩ | cases h
theorem FO {t : TypeId} {ms : Array (String × TypeId)} {x y : Operand} (ht : P.underlying t = some (.interface ms)) (hc : jz x = true ∨ jz y = true) : jj P t x y FT := by
 refine jj.of_equal λ ρ p q r hr u v hu hv w => ?_; rcases xh hr with ⟨h1, h2⟩ | ⟨h1, h2, rfl⟩
 . rcases nw h1 with ⟨_, rfl⟩ | ⟨e, _⟩
   . simp only [VR] at hu; subst hu; rcases nw h2 with ⟨rfl, rfl⟩ | ⟨rfl, f, a, rfl⟩
     . simp only [VR] at hv; subst hv; refine ⟨λ op => ?_, λ d => by simp [Op.equalIn, ay ht], rfl, rfl⟩; rcases hc with hc | hc <;> obtain ⟨z, rfl⟩ := vH hc <;> cases op <;> simp [eqGuard]
     . simp only [VR] at hv; obtain ⟨_, rfl, _⟩ := hv; exact ⟨λ op => by cases op <;> rfl, λ d => by simp [Op.equalIn, ay ht], rfl, rfl⟩
   . cases e
 . rcases nw h1 with ⟨e, _⟩ | ⟨_, f, a, rfl⟩
   . cases e
   . rcases nw h2 with ⟨_, rfl⟩ | ⟨e, _⟩
     . simp only [VR] at hu hv; obtain ⟨_, rfl, _⟩ := hu; subst hv; exact ⟨λ op => by cases op <;> rfl, λ d => by simp [Op.equalIn, ay ht], rfl, rfl⟩
     . cases e
theorem sP {w : World} {ρ : Ren} (d : Nat) {a b : List AV} {xs ys : Array Value} (ha : VRs ρ a xs.toList) (hb : VRs ρ b ys.toList) : ∀ (fs : List Field) (ks : List (Nat × FK)) (r : Bool), gE (oU P) fs = some ks ->
  List.rec (motive := λ _ => Option Bool) (some true) (λ k _ r => ifC none (λ p _ => ifC none (λ q _ => ifS none (λ t => ifB t r (some false)) (eU k.2 p q)) (dropN k.1 b)) (dropN k.1 a)) ks = some r ->
  (Op.eqFields (d + 1) xs ys fs).run P w = .ok r w
 | [], ks, r, hk, hr => by
   cases hk
   cases hr
   rfl
 | f :: fs, ks, r, hk, hr => by
   obtain ⟨k, h1, hk⟩ := ae (show ifS none (λ b => ifS none (λ r => some (b :: r)) (gE (oU P) fs)) (oU P f) = some ks from hk)
   obtain ⟨ks', h2, hk⟩ := ae hk
   cases hk
   obtain ⟨hn, h1⟩ := dk h1
   obtain ⟨fk, h3, h1⟩ := ae h1
   cases h1
   obtain ⟨p, t1, hp, hr⟩ := Bc hr
   obtain ⟨q, t2, hq, hr⟩ := Bc hr
   obtain ⟨t, ht, hr⟩ := ae hr
   have hagg : jh P f.type = some false := by
    obtain ⟨D, hD, hf⟩ := lZ h3; unfold jh; rw [hD]; cases fk with
    | int => obtain ⟨_, rfl⟩ := hf; rfl
    | str => have hf : D = .string := hf; subst hf; rfl
    | bool => have hf : D = .bool := hf; subst hf; rfl
   obtain ⟨u, g1, g2⟩ := jo (w := w) hagg ha hp; obtain ⟨v, g3, g4⟩ := jo (w := w) hagg hb hq; have g5 := nZ h3 ht g2 g4 d w; have hn' : f.name ≠ "_" := (by simpa using hn); simp only [Op.eqFields, if_pos hn', Sem.run_bind, g1, g3, g5, Result.andThen]; cases t with
   | true =>
     simp only [Bool.not_true, Bool.false_eq_true, if_false]; exact sP d ha hb fs ks' r h2 hr
   | false =>
     cases hr; rfl
theorem FP {t : TypeId} {fs : Array Field} {ks : List (Nat × FK)} {x y : Operand} (ht : P.underlying t = some (.struct fs)) (hg : P.eqGuardType P.depth t = false) (hp : P.stoodInHeld t = false) (hk : gE (oU P) fs.toList = some ks) : jj P t x y (FU ks) := by
 intro ρ p q r hr u v hu hv w; obtain ⟨a, rfl, hr⟩ := tx (v := p) hr; obtain ⟨b, rfl, hr⟩ := tx (v := q) hr; simp only [VR] at hu hv; obtain ⟨xs, rfl, hu⟩ := hu; obtain ⟨ys, rfl, hv⟩ := hv; have hfs : P.fieldsOf t = fs := (by simp [Program.fieldsOf, ht]); have h1 : (Op.equalIn 10000 t (.agg xs) (.agg ys)).run P w = .ok r w := by
  rw [show (10000 : Nat) = 9999 + 1 from rfl, run_equalIn_struct w 9999 t xs ys (by rw [hfs]; exact ht) hp, hfs]; exact sP 9998 hu hv fs.toList ks r hk hr
 exact ⟨λ op => run_eqGuard_agg w op t x y xs ys hg, by rw [run_eql_struct, h1]; rfl, by rw [run_neq_struct, h1]; rfl⟩
theorem xz {t : TypeId} {x y : Operand} {f : AV -> AV -> Option Bool} (h : yQ P t x y = some f) : jj P t x y f := by
 unfold yQ at h; split at h
 . rename_i ht; cases h; exact DM ht
 . rename_i e ht; obtain ⟨z, hz, h⟩ := ae h; obtain ⟨hn, h⟩ := fZ h; cases h; exact E8 ht hz λ e => by subst e; cases hn
 . rename_i ht; cases h; exact FN ht
 . rename_i ht; cases h; exact E9 ht
 . rename_i ht; cases h; exact FQ ht
 . rename_i ht; obtain ⟨hc, h⟩ := dk h; cases h; refine FO ht ?_; cases hx : jz x with
   | true => exact .inl rfl
   | false => rw [hx] at hc; exact .inr hc
 . rename_i ht; obtain ⟨hc, h⟩ := dk h; obtain ⟨ks, hk, h⟩ := ae h; cases h; cases hg : P.eqGuardType P.depth _ with
   | true => rw [hg] at hc; cases hc
   | false =>
     rw [hg] at hc; exact FP ht hg (by simpa using (show (not (P.stoodInHeld _)) = true from hc)) hk
 . cases h
theorem C6 {op : BinOp} {t t' : TypeId} {x y : Operand} {x' y' : Opd} {f : Ev} (ho : o.op = .binOp op t x y t') (kx : aS x = some x') (ky : aS y = some y') (h : B9 P op t x y x' y' = some f) : aZ P o f := by
 unfold B9 at h; cases hs : rO P t with
 | true => rw [hs] at h; cases h; exact EG ho kx ky
 | false =>
   rw [hs] at h; cases op with
   | eql =>
     obtain ⟨g, hg, h⟩ := ae (show ifS none (λ f => some (oEq f true x' y')) (yQ P t x y) = some f from h); cases h; exact Eb ho kx ky (.inl ⟨rfl, rfl⟩) (xz hg)
   | neq =>
     obtain ⟨g, hg, h⟩ := ae (show ifS none (λ f => some (oEq f false x' y')) (yQ P t x y) = some f from h); cases h; exact Eb ho kx ky (.inr ⟨rfl, rfl⟩) (xz hg)
   | _ => cases h
end
end Go.Sx
