import Derived.Below
import Derived.Defers
import Derived.Laws.Cells
import Derived.Laws.IdiomCopy
import Derived.Laws.Strings
import Derived.Laws.StructEq
import Derived.Orders
import Derived.Test.YtkfacdofkfabnaaGreatDoorKm00
noncomputable section
namespace Go.Sx
open Go.RowKit (zH zO zD zK zW zA zB zG)
inductive AV where
 | bool (b : Bool)
 | int (k : IntKind) (n : Int)
 | str (s : List Nat)
 | ptr (a : Option (Nat × Nat))
 | slice (a : Option (Nat × Nat)) (len cap z : Nat)
 | map (r : Option Nat)
 | fn (f : Nat) (first cap : List AV)
 | nilFn
 | iface (t : Nat) (v : AV)
 | nilIface
 | agg (l : List AV)
 | tuple (l : List AV)
inductive T (α : Type) where
 | leaf
 | node (v : Option α) (l r : T α)
inductive AO where
 | row (cells : List AV)
 | mp (es : List (AV × AV × Nat)) (clock : Nat)
abbrev H := T AO
abbrev Log := List (Nat × Option Nat × Bool)
inductive Rs (α : Type) where
 | fail
 | ok (a : α) (c : Nat) (h : H) (l : Log)
abbrev M (α : Type) := Nat -> H -> Rs α
section
variable {α β : Type}
def T.get (t : T α) : Nat -> Option α := T.rec (motive := λ _ => Nat -> Option α) (λ _ => none)
 (λ v _ _ gl gr n => Bool.rec (Bool.rec (gr (Nat.pred (Nat.div n 2))) (gl (Nat.div n 2)) (Nat.beq (Nat.mod n 2) 1)) v (Nat.beq n 0)) t
def T.set1 (x : Option α) (f : Nat) : Nat -> T α := Nat.rec (motive := λ _ => Nat -> T α) (λ _ => .leaf)
 (λ _ g n => Bool.rec (Bool.rec (.node none .leaf (g (Nat.pred (Nat.div n 2)))) (.node none (g (Nat.div n 2)) .leaf) (Nat.beq (Nat.mod n 2) 1)) (.node x .leaf .leaf) (Nat.beq n 0)) f
def T.set (t : T α) (n : Nat) (x : Option α) : T α := T.rec (motive := λ _ => Nat -> T α) (λ n => T.set1 x (Nat.succ n) n)
 (λ v l r gl gr n => Bool.rec (Bool.rec (.node v l (gr (Nat.pred (Nat.div n 2)))) (.node v (gl (Nat.div n 2)) r) (Nat.beq (Nat.mod n 2) 1)) (.node x l r) (Nat.beq n 0)) t n
def ifB (b : Bool) (x y : α) : α := Bool.rec y x b
def ifS (d : β) (k : α -> β) (o : Option α) : β := Option.rec d k o
def ifC (d : β) (k : α -> List α -> β) (l : List α) : β := List.rec d (λ a t _ => k a t) l
def onBool (d : α) (k : Bool -> α) (v : AV) : α :=
 AV.rec (motive_1 := λ _ => α) (motive_2 := λ _ => Unit) k (λ _ _ => d) (λ _ => d) (λ _ => d) (λ _ _ _ _ => d) (λ _ => d) (λ _ _ _ _ _ => d) d (λ _ _ _ => d) d (λ _ _ => d) (λ _ _ => d) () (λ _ _ _ _ => ()) v
def onInt (d : α) (k : IntKind -> Int -> α) (v : AV) : α :=
 AV.rec (motive_1 := λ _ => α) (motive_2 := λ _ => Unit) (λ _ => d) k (λ _ => d) (λ _ => d) (λ _ _ _ _ => d) (λ _ => d) (λ _ _ _ _ _ => d) d (λ _ _ _ => d) d (λ _ _ => d) (λ _ _ => d) () (λ _ _ _ _ => ()) v
def onStr (d : α) (k : List Nat -> α) (v : AV) : α :=
 AV.rec (motive_1 := λ _ => α) (motive_2 := λ _ => Unit) (λ _ => d) (λ _ _ => d) k (λ _ => d) (λ _ _ _ _ => d) (λ _ => d) (λ _ _ _ _ _ => d) d (λ _ _ _ => d) d (λ _ _ => d) (λ _ _ => d) () (λ _ _ _ _ => ()) v
def onPtr (d : α) (k : Option (Nat × Nat) -> α) (v : AV) : α :=
 AV.rec (motive_1 := λ _ => α) (motive_2 := λ _ => Unit) (λ _ => d) (λ _ _ => d) (λ _ => d) k (λ _ _ _ _ => d) (λ _ => d) (λ _ _ _ _ _ => d) d (λ _ _ _ => d) d (λ _ _ => d) (λ _ _ => d) () (λ _ _ _ _ => ()) v
def onSlice (d : α) (k : Option (Nat × Nat) -> Nat -> Nat -> Nat -> α) (v : AV) : α :=
 AV.rec (motive_1 := λ _ => α) (motive_2 := λ _ => Unit) (λ _ => d) (λ _ _ => d) (λ _ => d) (λ _ => d) k (λ _ => d) (λ _ _ _ _ _ => d) d (λ _ _ _ => d) d (λ _ _ => d) (λ _ _ => d) () (λ _ _ _ _ => ()) v
def onMap (d : α) (k : Option Nat -> α) (v : AV) : α :=
 AV.rec (motive_1 := λ _ => α) (motive_2 := λ _ => Unit) (λ _ => d) (λ _ _ => d) (λ _ => d) (λ _ => d) (λ _ _ _ _ => d) k (λ _ _ _ _ _ => d) d (λ _ _ _ => d) d (λ _ _ => d) (λ _ _ => d) () (λ _ _ _ _ => ()) v
def onFn (d : α) (k : Nat -> List AV -> List AV -> α) (v : AV) : α :=
 AV.rec (motive_1 := λ _ => α) (motive_2 := λ _ => Unit) (λ _ => d) (λ _ _ => d) (λ _ => d) (λ _ => d) (λ _ _ _ _ => d) (λ _ => d) (λ f a b _ _ => k f a b) d (λ _ _ _ => d) d (λ _ _ => d) (λ _ _ => d) () (λ _ _ _ _ => ()) v
def onAgg (d : α) (k : List AV -> α) (v : AV) : α :=
 AV.rec (motive_1 := λ _ => α) (motive_2 := λ _ => Unit) (λ _ => d) (λ _ _ => d) (λ _ => d) (λ _ => d) (λ _ _ _ _ => d) (λ _ => d) (λ _ _ _ _ _ => d) d (λ _ _ _ => d) d (λ l _ => k l) (λ _ _ => d) () (λ _ _ _ _ => ()) v
def onTuple (d : α) (k : List AV -> α) (v : AV) : α :=
 AV.rec (motive_1 := λ _ => α) (motive_2 := λ _ => Unit) (λ _ => d) (λ _ _ => d) (λ _ => d) (λ _ => d) (λ _ _ _ _ => d) (λ _ => d) (λ _ _ _ _ _ => d) d (λ _ _ _ => d) d (λ _ _ => d) (λ l _ => k l) () (λ _ _ _ _ => ()) v
def onIface (d : α) (n : α) (k : Nat -> AV -> α) (v : AV) : α :=
 AV.rec (motive_1 := λ _ => α) (motive_2 := λ _ => Unit) (λ _ => d) (λ _ _ => d) (λ _ => d) (λ _ => d) (λ _ _ _ _ => d) (λ _ => d) (λ _ _ _ _ _ => d) d (λ t v _ => k t v) n (λ _ _ => d) (λ _ _ => d) () (λ _ _ _ _ => ()) v
def onNat (d : α) (k : Nat -> α) (n : Int) : α := Int.rec k (λ _ => d) n
def M.pure (a : α) : M α := λ c h => .ok a c h []
def Rs.andThen (k : α -> M β) (r : Rs α) : Rs β :=
 Rs.rec (motive := λ _ => Rs β) .fail (λ a c h l => Rs.rec (motive := λ _ => Rs β) .fail (λ b c h l2 => .ok b c h (List.append l l2)) (k a c h)) r
def M.bind (m : M α) (k : α -> M β) : M β := λ c h => Rs.andThen k (m c h)
def M.map (f : α -> β) (m : M α) : M β := λ c h => Rs.rec (motive := λ _ => Rs β) .fail (λ a c h l => .ok (f a) c h l) (m c h)
def fail : M α := λ _ _ => .fail
def Iz (o : Option α) : M α := ifS fail M.pure o
end
def len {α : Type} (l : List α) : Nat := List.rec 0 (λ _ _ n => Nat.succ n) l
def newO (o : AO) : M Nat := λ c h => .ok c (Nat.succ c) (h.set c (some o)) []
def AO.row? (o : AO) : Option (List AV) := AO.rec (λ cs => some cs) (λ _ _ => none) o
def AO.map? (o : AO) : Option (List (AV × AV × Nat) × Nat) := AO.rec (λ _ => none) (λ es k => some (es, k)) o
def rowOf (h : H) (n : Nat) : Option (List AV) := ifS none AO.row? (h.get n)
def getMap (n : Nat) : M (List (AV × AV × Nat) × Nat) := λ c h =>
 ifB (Nat.blt n c) (ifS .fail (λ r => .ok r c h [(n, none, false)]) (ifS none AO.map? (h.get n))) .fail
def setMap (n : Nat) (r : List (AV × AV × Nat) × Nat) : M Unit := λ c h => ifB (Nat.blt n c) (ifS .fail (λ _ => .ok () c (h.set n (some (.mp r.1 r.2))) [(n, none, true)]) (h.get n)) .fail
def dropN (n : Nat) : List AV -> List AV := Nat.rec (motive := λ _ => List AV -> List AV) (λ l => l) (λ _ g l => ifC [] (λ _ t => g t) l) n
def takeN (n : Nat) : List AV -> Option (List AV) :=
 Nat.rec (motive := λ _ => List AV -> Option (List AV)) (λ _ => some []) (λ _ g l => ifC none (λ a t => ifS none (λ r => some (a :: r)) (g t)) l) n
def j5 (b : Bool) (n : Nat) (k : Nat) : Nat -> Log :=
 Nat.rec (motive := λ _ => Nat -> Log) (λ _ => []) (λ _ g off => (n, some off, b) :: g (Nat.succ off)) k
def load1 (n off : Nat) : M AV := λ c h => ifB (Nat.blt n c) (ifS .fail (λ cs => ifC .fail (λ v _ => .ok v c h [(n, some off, false)]) (dropN off cs)) (rowOf h n)) .fail
def sf (n off k : Nat) : M (List AV) := λ c h => ifB (Nat.blt n c) (ifS .fail (λ cs => ifS .fail (λ l => .ok l c h (j5 false n k off)) (takeN k (dropN off cs))) (rowOf h n)) .fail
def loadN (n off k : Nat) : M (List AV) := ifB (Nat.beq k 0) (M.pure []) (sf n off k)
def putL (vs : List AV) : List AV -> Option (List AV) :=
 List.rec (motive := λ _ => List AV -> Option (List AV)) some (λ v _ g cs => ifC none (λ _ t => ifS none (λ r => some (v :: r)) (g t)) cs) vs
def gq (vs : List AV) (n : Nat) : List AV -> Option (List AV) :=
 Nat.rec (motive := λ _ => List AV -> Option (List AV)) (putL vs) (λ _ g cs => ifC none (λ x t => ifS none (λ r => some (x :: r)) (g t)) cs) n
def F8 (v : AV) : Bool := onAgg (onTuple true (λ _ => false) v) (λ _ => false) v
def iN (l : List AV) : Bool := List.rec true (λ v _ r => ifB (F8 v) r false) l
def nx (n off : Nat) (vs : List AV) : M Unit := λ c h =>
 ifB (Nat.blt n c) (ifS .fail (λ cs => ifS .fail (λ r => ifB (iN vs) (.ok () c (h.set n (some (.row r))) (j5 true n (len vs) off)) .fail) (gq vs off cs)) (rowOf h n)) .fail
def storeN (n off : Nat) (vs : List AV) : M Unit := ifC (M.pure ()) (λ _ _ => nx n off vs) vs
def killRow (n off k : Nat) : M (List AV) := λ c h =>
 ifB (Nat.blt n c) (ifS .fail (λ cs => ifS .fail (λ l => .ok l c (h.set n none) [(n, none, true)]) (takeN k (dropN off cs))) (rowOf h n)) .fail
inductive Opd where
 | tmp (t : Nat)
 | const (v : AV)
inductive Env where
 | base (t : T AV)
 | put (t : Nat) (v : AV) (e : Env)
def undefA : AV := .tuple []
def Env.get (t : Nat) (e : Env) : AV := Env.rec (motive := λ _ => AV) (λ b => ifS undefA (λ v => v) (b.get t)) (λ u v _ g => Bool.rec g v (Nat.beq u t)) e
def Env.flush (e : Env) : T AV := Env.rec (motive := λ _ => T AV) (λ b => b) (λ u v _ g => g.set u (some v)) e
def ev (e : Env) (x : Opd) : AV := Opd.rec (λ t => e.get t) (λ v => v) x
def evs (e : Env) (l : List Opd) : List AV := List.rec [] (λ x _ r => ev e x :: r) l
structure St where
 env : Env
 defers : List (Nat × List AV)
abbrev Ctx := Nat -> List AV -> M AV
abbrev Ev := Ctx -> Env -> M AV
def AV.cells (v : AV) : List AV := onAgg [v] (λ l => l) v
def sd (x : Opd) : Ev := λ _ e => M.pure (ev e x)
def Al (c a b : Opd) : Ev := λ _ e => onBool fail (λ t => M.pure (ifB t (ev e a) (ev e b))) (ev e c)
def Aw (n : Nat) : AV := .ptr (some (n, 0))
def yl (z : List AV) : Ev := λ _ _ => M.map Aw (newO (.row z))
def Gv (x : Opd) : Ev := λ _ e => M.map Aw (newO (.row (ev e x).cells))
def j9 (e : Env) (ps : List (Nat × Nat × Opd)) : List AV -> Option (List AV) :=
 List.rec (motive := λ _ => List AV -> Option (List AV)) some (λ p _ g cs => ifB (Nat.beq (ev e p.2.2).cells.length p.2.1) (ifS none g (gq (ev e p.2.2).cells p.1 cs)) none) ps
def nI (z : List AV) (ps : List (Nat × Nat × Opd)) : Ev := λ _ e => ifS fail (λ l => M.pure (.agg l)) (j9 e ps z)
def ib (z1 : Nat) (z : List AV) (n : Nat) (ps : List (Nat × Nat × Opd)) : Ev := λ _ e =>
 ifS fail (λ l => M.map (λ k => .slice (some (k, 0)) n n z1) (newO (.row l))) (j9 e ps z)
def mI (v : AV) : M AV := onPtr fail (ifS fail λ a => load1 a.1 a.2) v
def mH (n : Nat) (v : AV) : M AV := onPtr fail (ifS fail λ a => M.map .agg (loadN a.1 a.2 n)) v
def tx (a : Opd) : Ev := λ _ e => mI (ev e a)
def lG (n : Nat) (a : Opd) : Ev := λ _ e => mH n (ev e a)
def tw (n : Nat) (a x : Opd) : Ev := λ _ e =>
 ifB (Nat.beq (ev e x).cells.length n) (onPtr fail (ifS fail λ a => M.map (λ _ => undefA) (storeN a.1 a.2 (ev e x).cells)) (ev e a)) fail
def kP (x : Opd) : Ev := λ _ e => onPtr fail (ifS fail λ a => M.pure (.ptr (some a))) (ev e x)
def rA (k : IntKind) (n : Int) : Int := Int.rec (λ m => ifB (Nat.blt m 128) (.ofNat m) (k.wrap (.ofNat m))) (λ m => k.wrap (.negSucc m)) n
def ltS (x : List Nat) : List Nat -> Bool := List.rec (motive := λ _ => List Nat -> Bool) (ifC false λ _ _ => true)
 (λ a _ g y => ifC false (λ b t => ifB (Nat.blt a b) true (ifB (Nat.beq a b) (g t) false)) y) x
def eqS (x : List Nat) : List Nat -> Bool := List.rec (motive := λ _ => List Nat -> Bool) (ifC true λ _ _ => false)
 (λ a _ g y => ifC false (λ b t => ifB (Nat.beq a b) (g t) false) y) x
def eqI (a b : Int) : Bool := Int.rec (λ m => Int.rec (λ n => Nat.beq m n) (λ _ => false) b) (λ m => Int.rec (λ _ => false) (λ n => Nat.beq m n) b) a
def ltI (a b : Int) : Bool := Int.rec (λ m => Int.rec (λ n => Nat.blt m n) (λ _ => false) b) (λ m => Int.rec (λ _ => true) (λ n => Nat.blt n m) b) a
def eqP (a b : Option (Nat × Nat)) : Option Bool := ifS (some (ifS true (λ _ => false) b)) (λ a => ifS (some false) (λ b => ifB (Nat.beq a.1 b.1) (some (Nat.beq a.2 b.2)) none) b) a
def IA {α : Type} (a b : Option α) : Option Bool := ifS (some (ifS true (λ _ => false) b)) (λ _ => ifS (some false) (λ _ => none) b) a
def lq (k : IntKind) : Nat := IntKind.rec 0 1 2 3 4 5 6 7 k
def Dq (op : BinOp) (k : IntKind) (a b : Int) : Option AV :=
 BinOp.rec none none none none none none none none (ifB (ltI b 0) none (some (.int k (k.wrap (a * 2 ^ (min b.toNat k.bits)))))) (ifB (ltI b 0) none (some (.int k (a.fdiv (2 ^ (min b.toNat k.bits)))))) none none none none none none none op
def yJ (op : BinOp) (k : IntKind) (a b : Int) : Option AV :=
 BinOp.rec (some (.int k (rA k (Int.add a b)))) (some (.int k (rA k (Int.sub a b)))) (some (.int k (rA k (Int.mul a b))))
  (ifB (eqI b 0) none (some (.int k (k.wrap (a.tdiv b))))) (ifB (eqI b 0) none (some (.int k (a.tmod b))))
  (some (.int k (k.wrap (BitVec.ofInt k.bits a &&& BitVec.ofInt k.bits b).toNat))) (some (.int k (k.wrap (BitVec.ofInt k.bits a ||| BitVec.ofInt k.bits b).toNat))) none
  (ifB (ltI b 0) none (some (.int k (k.wrap (a * 2 ^ (min b.toNat k.bits)))))) (ifB (ltI b 0) none (some (.int k (a.fdiv (2 ^ (min b.toNat k.bits)))))) none
  (some (.bool (eqI a b))) (some (.bool (not (eqI a b)))) (some (.bool (ltI a b))) (some (.bool (not (ltI b a)))) (some (.bool (ltI b a))) (some (.bool (not (ltI a b)))) op
def De (op : BinOp) (a b : List Nat) : Option AV :=
 BinOp.rec (ifB (Nat.ble (Nat.add (len a) (len b)) 1048576) (some (.str (List.append a b))) none) none none none none none none none none none none (some (.bool (eqS a b))) (some (.bool (not (eqS a b)))) (some (.bool (ltS a b)))
  (some (.bool (ifB (ltS a b) true (eqS a b)))) (some (.bool (not (ifB (ltS a b) true (eqS a b))))) (some (.bool (not (ltS a b)))) op
def Ky (op : BinOp) (x y : AV) : Option AV :=
 onInt (onStr none (λ a => onStr none (λ b => De op a b) y) x) (λ k a => onInt none (λ j b => ifB (Nat.beq (lq k) (lq j)) (yJ op k a b) (Dq op k a b)) y) x
def Gw (op : BinOp) (x y : Opd) : Ev := λ _ e => Iz (Ky op (ev e x) (ev e y))
inductive FK where
 | int
 | str
 | bool
def fK (k : FK) (x y : AV) : Option Bool :=
 FK.rec (onInt none (λ i a => onInt none (λ j b => ifB (Nat.beq (lq i) (lq j)) (some (eqI a b)) none) y) x) (onStr none (λ a => onStr none (λ b => some (eqS a b)) y) x)
  (onBool none (λ a => onBool none (λ b => some (ifB a b (not b))) y) x) k
def IG (x y : AV) : Option Bool := onPtr none (λ a => onPtr none (eqP a) y) x
def Kk (x y : AV) : Option Bool := onSlice none (λ a _ _ _ => onSlice none (λ b _ _ _ => IA a b) y) x
def II (x y : AV) : Option Bool := onMap none (λ a => onMap none (IA a) y) x
def Jb (v : AV) : Option Bool :=
 AV.rec (motive_1 := λ _ => Option Bool) (motive_2 := λ _ => Unit) (λ _ => none) (λ _ _ => none) (λ _ => none) (λ _ => none) (λ _ _ _ _ => none) (λ _ => none) (λ _ _ _ _ _ => some false) (some true) (λ _ _ _ => none) none (λ _ _ => none) (λ _ _ => none) () (λ _ _ _ _ => ()) v
def Ja (v : AV) : Option Bool := onIface none (some true) (λ _ _ => some false) v
def Jc (a b : Option Bool) : Option Bool := ifS none (λ a => ifS none (λ b => ifB a (some b) (ifB b (some false) none)) b) a
def Kn (x y : AV) : Option Bool := Jc (Jb x) (Jb y)
def Kl (x y : AV) : Option Bool := Jc (Ja x) (Ja y)
def Km (ks : List (Nat × FK)) (x y : AV) : Option Bool := onAgg none (λ a => onAgg none (λ b => List.rec (some true) (λ k _ r =>
 ifC none (λ p _ => ifC none (λ q _ => ifS none (λ t => ifB t r (some false)) (fK k.2 p q)) (dropN k.1 b)) (dropN k.1 a)) ks) y) x
def oEq (f : AV -> AV -> Option Bool) (pos : Bool) (x y : Opd) : Ev := λ _ e => ifS fail (λ b => M.pure (.bool (ifB pos b (not b)))) (f (ev e x) (ev e y))
def Gr (x : Opd) : Ev := λ _ e => onBool fail (λ b => M.pure (.bool (not b))) (ev e x)
def Gs (x : Opd) : Ev := λ _ e => onInt fail (λ k n => M.pure (.int k (rA k (Int.sub 0 n)))) (ev e x)
def Ao (k : IntKind) (x : Opd) : Ev := λ _ e => onInt fail (λ _ n => M.pure (.int k (rA k n))) (ev e x)
def Ak (x : Opd) : Ev := λ _ e => onStr fail (λ s => M.pure (.str s)) (ev e x)
def Gt (x : Opd) : Ev := λ _ e => onInt fail (λ _ n => onNat fail (λ n => ifB (Nat.blt n 128) (M.pure (.str [n])) fail) n) (ev e x)
def u8s (s : List Nat) : List AV := List.rec [] (λ b _ r => .int .u8 (.ofNat b) :: r) s
def kN (x : Opd) : Ev := λ _ e => onStr fail (λ s => ifB (Nat.ble (len s) 1048576) (M.map (λ k => .slice (some (k, 0)) (len s) (len s) 1) (newO (.row (u8s s)))) fail) (ev e x)
def tA (t : Nat) (x : Opd) : Ev := λ _ e => M.pure (.iface t (ev e x))
def Am (f : Nat) (a b : List Opd) : Ev := λ _ e => M.pure (.fn f (evs e a) (evs e b))
def pY : Ev := λ _ _ => M.map (λ n => .map (some n)) (newO (.mp [] 0))
def asN (v : AV) : Option Nat := onInt none (λ _ n => onNat none some n) v
def oN (z : List AV) (n : Nat) : List AV := Nat.rec [] (λ _ r => List.append z r) n
def jc (z : List AV) (l c : Opd) : Ev := λ _ e => ifS fail (λ l => ifS fail (λ c =>
 ifB (ifB (Nat.ble l c) (Nat.ble c 1048576) false) (M.map (λ k => .slice (some (k, 0)) l c (len z)) (newO (.row (oN z c)))) fail) (asN (ev e c))) (asN (ev e l))
def evB (e : Env) (d : Nat) (x : Option Opd) : Option Nat := ifS (some d) (λ x => asN (ev e x)) x
def EI (n : Nat) : List Nat -> List Nat := Nat.rec (motive := λ _ => List Nat -> List Nat) (λ l => l) (λ _ g l => ifC [] (λ _ t => g t) l) n
def Iu (n : Nat) : List Nat -> List Nat := Nat.rec (motive := λ _ => List Nat -> List Nat) (λ _ => []) (λ _ g l => ifC [] (λ a t => a :: g t) l) n
def kO (x : Opd) (lo hi : Option Opd) : Ev := λ _ e => onStr fail (λ s => ifS fail (λ l => ifS fail (λ h =>
 ifB (ifB (Nat.ble l h) (Nat.ble h (len s)) false) (M.pure (.str (Iu (Nat.sub h l) (EI l s)))) fail) (evB e (len s) hi)) (evB e 0 lo)) (ev e x)
def tf (k : Nat) (a : Option (Nat × Nat)) : Option (Nat × Nat) := ifS none (λ a => some (a.1, Nat.add a.2 k)) a
def JU (size : Nat) (a : Option (Nat × Nat)) (c : Nat) (l h : Option Nat) : M AV := ifS fail (λ l => ifS fail (λ h =>
 ifB (ifB (Nat.ble l h) (Nat.ble h c) false) (M.pure (.slice (tf (Nat.mul l size) a) (Nat.sub h l) (Nat.sub c l) size)) fail) h) l
def mB (size : Nat) (x : Opd) (lo hi : Option Opd) : Ev := λ _ e => onSlice fail (λ a n c z => ifB (ifS true (λ _ => Nat.beq z size) a) (JU size a c (evB e 0 lo) (evB e n hi)) fail) (ev e x)
def je (off : Nat) (x : Opd) : Ev := λ _ e => onPtr fail (ifS fail λ a => M.pure (.ptr (some (a.1, Nat.add a.2 off)))) (ev e x)
def Ad (off : Nat) (v : AV) : M AV := onAgg fail (λ l => ifC fail (λ v _ => M.pure v) (dropN off l)) v
def Ab (off n : Nat) (v : AV) : M AV := onAgg fail (λ l => ifS fail (λ r => M.pure (.agg r)) (takeN n (dropN off l))) v
def o8 (off : Nat) (x : Opd) : Ev := λ _ e => Ad off (ev e x)
def jd (off n : Nat) (x : Opd) : Ev := λ _ e => Ab off n (ev e x)
def ixA (size n : Nat) (a : Nat × Nat) (i : Option Nat) : M AV :=
 ifS fail (λ i => ifB (Nat.blt i n) (M.pure (.ptr (some (a.1, Nat.add a.2 (Nat.mul i size))))) fail) i
def mC (size : Nat) (x i : Opd) : Ev := λ _ e => onSlice fail (λ a n _ _ => ifS fail (λ a => ixA size n a (asN (ev e i))) a) (ev e x)
def mD (n size : Nat) (x i : Opd) : Ev := λ _ e => onPtr fail (ifS fail λ a => ixA size n a (asN (ev e i))) (ev e x)
def kT (x i : Opd) : Ev := λ _ e => onStr fail (λ s => ifS fail (λ i => ifC fail (λ b _ => M.pure (.int .u8 (.ofNat b))) (EI i s)) (asN (ev e i))) (ev e x)
def kS (n size : Nat) (agg : Bool) (x i : Opd) : Ev := λ _ e =>
 ifS fail (λ i => ifB (Nat.blt i n) (ifB agg (Ab (Nat.mul i size) size (ev e x)) (Ad (Nat.mul i size) (ev e x))) fail) (asN (ev e i))
def Eo (f : FK) (k : AV) (es : List (AV × AV × Nat)) : Option (Option AV) :=
 List.rec (some none) (λ a _ r => ifS none (λ t => ifB t (some (some a.2.1)) r) (fK f k a.1)) es
def IV (f : FK) (k v : AV) (clock : Nat) (es : List (AV × AV × Nat)) : Option (List (AV × AV × Nat) × Nat) :=
 List.rec (some ([(k, v, clock)], Nat.succ clock)) (λ a t r => ifS none (λ b => ifB b (some ((k, v, a.2.2) :: t, clock)) (ifS none (λ q => some (a :: q.1, q.2)) r)) (fK f k a.1)) es
def Gi (z : AV) (ok : Bool) (r : Option AV) : AV := ifS (ifB ok (.tuple [z, .bool false]) z) (λ v => ifB ok (.tuple [v, .bool true]) v) r
def oV (f : FK) (z : AV) (m k : Opd) (ok : Bool) : Ev := λ _ e =>
 onMap fail (ifS (M.pure (Gi z ok none)) λ n => M.bind (getMap n) λ r => ifS fail (λ x => M.pure (Gi z ok x)) (Eo f (ev e k) r.1)) (ev e m)
def fJ (f : FK) (m k x : Opd) : Ev := λ _ e =>
 onMap fail (ifS fail λ n => M.bind (getMap n) λ r => ifS fail (λ q => M.map (λ _ => undefA) (setMap n q)) (IV f (ev e k) (ev e x) r.2 r.1)) (ev e m)
def mF (x : Opd) (i : Nat) : Ev := λ _ e => onTuple fail (λ l => ifC fail (λ v _ => M.pure v) (dropN i l)) (ev e x)
def Ap (f : Opd) (args : List Opd) : Ev := λ call e => onFn fail (λ g a b => call g (List.append a (List.append (evs e args) b))) (ev e f)
def Dw (q : Option Nat) (v : AV) : M AV := ifS (M.pure v) (λ off => onPtr fail (ifS fail λ a => load1 a.1 (Nat.add a.2 off)) v) q
def oZ (mt : Nat -> Option (Nat × Option Nat)) (x : Opd) (args : List Opd) : Ev := λ call e =>
 onIface fail fail (λ t v => ifS fail (λ q => M.bind (Dw q.2 v) λ r => call q.1 (r :: evs e args)) (mt t)) (ev e x)
def yk (z : Option AV) : M AV := ifS fail (λ z => M.pure (.tuple [z, .bool false])) z
def gv (t : Nat) (z : Option AV) (x : Opd) : Ev := λ _ e =>
 onIface fail (yk z) (λ u v => ifB (Nat.beq u t) (M.pure (ifS v (λ _ => .tuple [v, .bool true]) z)) (yk z)) (ev e x)
def strCells (size : Nat) (s : List Nat) : M (List AV × Nat) := ifB (Nat.beq size 1) (M.pure (u8s s, len s)) fail
def Di (size : Nat) (v : AV) : M (List AV × Nat) :=
 onSlice (onStr fail (strCells size) v) (λ a k _ _ => ifS (ifB (Nat.beq k 0) (M.pure ([], 0)) fail) (λ a => M.map (λ l => (l, k)) (loadN a.1 a.2 (Nat.mul k size))) a) v
def FE (z : List AV) (v : AV) : M (List AV × Nat) := ifS fail (λ k => ifB (Nat.ble k 1048576) (M.pure (oN z k, k)) fail) (asN v)
def GV (size : Nat) (n : Nat) (src : M Nat) : M AV := M.map (λ m => .slice (some (m, 0)) n n size) src
def Kq (size : Nat) (p : Nat × Nat) (n c z : Nat) (l : List AV) (k : Nat) : M AV := M.map (λ _ => .slice (some p) (Nat.add n k) c z) (storeN p.1 (Nat.add p.2 (Nat.mul n size)) l)
def Fh (size : Nat) (p : Nat × Nat) (n z : Nat) (l : List AV) (k : Nat) : M AV := ifB (ifB (ifB (Nat.beq p.2 0) (Nat.beq z size) false) (iN l) false)
 (M.bind (killRow p.1 0 (Nat.mul n size)) λ o => GV size (Nat.add n k) (newO (.row (List.append o l)))) fail
def Kr (size : Nat) (a : Option (Nat × Nat)) (n c z : Nat) (l : List AV) (k : Nat) : M AV :=
 ifB (Nat.ble (Nat.add n k) 1048576)
  (Bool.rec (ifS (ifB (Nat.beq n 0) (GV size (Nat.add n k) (newO (.row l))) fail) (λ p => Fh size p n z l k) a)
    (ifS (M.pure (.slice none (Nat.add n k) c z)) (λ p => Kq size p n c z l k) a) (Nat.ble (Nat.add n k) c)) fail
def JH (size : Nat) (src : M (List AV × Nat)) (v : AV) : M AV := onSlice fail (λ a n c z => M.bind src λ r => Kr size a n c z r.1 r.2) v
def o9 (size : Nat) (x y : Opd) : Ev := λ _ e => JH size (Di size (ev e y)) (ev e x)
def mG (size : Nat) (z : List AV) (x y : Opd) : Ev := λ _ e => JH size (FE z (ev e y)) (ev e x)
def int64 (n : Nat) : AV := .int .i64 (.ofNat n)
def oW (x : Opd) : Ev := λ _ e => onStr fail (λ s => M.pure (int64 (len s))) (ev e x)
def tz (x : Opd) : Ev := λ _ e => onSlice fail (λ _ n _ _ => M.pure (int64 n)) (ev e x)
def oX (x : Opd) : Ev := λ _ e => onMap fail (ifS (M.pure (int64 0)) λ m => M.map (λ r => int64 (len r.1)) (getMap m)) (ev e x)
def oY (n : Nat) : Ev := λ _ _ => M.pure (int64 n)
def Gu (x : Opd) : Ev := λ _ e => onSlice fail (λ a _ c _ => ifS (M.pure (int64 c)) (λ _ => fail) a) (ev e x)
def kQ (mx : Bool) (x y : Opd) : Ev := λ _ e => onInt fail (λ k a => onInt fail (λ _ b => M.pure (.int k (ifB (ifB mx (ltI a b) (ltI b a)) b a))) (ev e y)) (ev e x)
def An (size : Nat) (x y : Opd) : Ev := λ _ e => onSlice fail (λ a n _ z => ifB (ifS true (λ _ => Nat.beq z size) a) (M.bind (Di size (ev e y)) λ r => ifB (Nat.ble r.2 n) (M.map (λ _ => int64 r.2) (ifS (M.pure ()) (λ p => storeN p.1 p.2 r.1) a)) fail) fail) (ev e x)
def Jw (f : FK) (k z : AV) (clock : Nat) (es : List (AV × AV × Nat)) : Option ((List (AV × AV × Nat) × Nat) × AV × Nat) :=
 List.rec (some (([(k, z, clock)], Nat.succ clock), z, clock)) (λ a t r => ifS none (λ b => ifB b (some (((k, a.2.1, a.2.2) :: t, clock), a.2.1, a.2.2)) (ifS none (λ q => some ((a :: q.1.1, q.1.2), q.2)) r)) (fK f k a.1)) es
def kR (f : FK) (z : AV) (m k : Opd) : Ev := λ _ e =>
 onMap fail (ifS fail λ n => M.bind (getMap n) λ r => ifS fail (λ q => M.map (λ _ => .tuple [q.2.1, int64 q.2.2]) (setMap n q.1)) (Jw f (ev e k) z r.2 r.1)) (ev e m)
def Ge (b : Nat) (x : AV) (es : List (AV × AV × Nat)) : Option (List (AV × AV × Nat)) :=
 List.rec none (λ a t r => ifB (Nat.beq a.2.2 b) (some ((a.1, x, a.2.2) :: t)) (ifS none (λ q => some (a :: q)) r)) es
def ia (m s x : Opd) : Ev := λ _ e =>
 onMap fail (ifS fail λ n => ifS fail (λ b => M.bind (getMap n) λ r => ifS fail (λ q => M.map (λ _ => undefA) (setMap n (q, r.2))) (Ge b (ev e x) r.1)) (asN (ev e s))) (ev e m)
def DS : Ev := λ _ _ => fail
def putE (d : Option Nat) (v : AV) (s : St) : St := ifS s (λ d => ⟨.put d v s.env, s.defers⟩) d
def isB (w : Bool) (v : AV) : Bool := onBool false (λ b => ifB b w (not w)) v
inductive It where
 | val (d : Option Nat) (g : Option (Nat × Bool)) (f : Ev)
 | dfr (d : Option Nat) (f : Opd) (args : List Opd)
 | bad
def jN (d : Option Nat) (g : Option (Nat × Bool)) (f : Ev) (call : Ctx) (s : St) : M St :=
 ifS (M.map (λ v => putE d v s) (f call s.env)) (λ q => ifB (isB q.2 (s.env.get q.1)) (M.map (λ v => putE d v s) (f call s.env)) (M.pure (putE d undefA s))) g
def Iv (d : Option Nat) (f : Opd) (args : List Opd) (s : St) : M St :=
 onFn fail (λ g a b => M.pure (putE d undefA ⟨s.env, (g, List.append a (List.append (evs s.env args) b)) :: s.defers⟩)) (ev s.env f)
def og (call : Ctx) (s : St) (i : It) : M St := It.rec (λ d g f => jN d g f call s) (λ d f args => Iv d f args s) fail i
def wA (call : Ctx) (l : List It) : St -> M St := List.rec (motive := λ _ => St -> M St) M.pure (λ i _ ih s => M.bind (og call s i) ih) l
def iJ (call : Ctx) (s : St) (i : It) : M St := It.rec (λ d g f => jN d g f call s) (λ _ _ _ => fail) fail i
def eX (call : Ctx) (l : List It) : St -> M (List (Nat × Nat × Log) × St) := List.rec (motive := λ _ => St -> M (List (Nat × Nat × Log) × St)) (λ s => M.pure ([], s))
 (λ i _ ih s c h => Rs.rec .fail (λ s1 c1 h1 f1 => Rs.rec .fail (λ r c2 h2 f2 => .ok ((c, c1, f1) :: r.1, r.2) c2 h2 (List.append f1 f2)) (ih s1 c1 h1)) (iJ call s i c h)) l
def DZ (x y : Option Nat) : Bool := ifS true (λ a => ifS true (Nat.beq a) y) x
def sL (q p : Nat × Option Nat × Bool) : Bool := ifB (Nat.beq q.1 p.1) (ifB (ifB q.2.2 true p.2.2) (DZ q.2.1 p.2.1) false) false
def qX (q : Nat × Option Nat × Bool) (l : Log) : Bool := List.rec true (λ p _ r => ifB (sL q p) false r) l
def kC (k l : Log) : Bool := List.rec true (λ q _ r => ifB (qX q l) r false) k
def tB (n : Nat) : List (Nat × Nat × Log) -> Nat × Nat × Log := Nat.rec (motive := λ _ => List (Nat × Nat × Log) -> Nat × Nat × Log) (ifC (0, 0, []) λ a _ => a) (λ _ g l => ifC (0, 0, []) (λ _ t => g t) l) n
def DC (lo hi : Nat) (l : Log) : Bool := List.rec true (λ q _ r => ifB (ifB (Nat.blt q.1 lo) true (Nat.ble hi q.1)) r false) l
def jz (a b : Nat × Nat × Log) : Bool := ifB (kC a.2.2 b.2.2) (DC a.1 a.2.1 b.2.2) false
def oU (fs : List (Nat × Nat × Log)) (ps : List (Nat × Nat)) : Bool := List.rec true (λ p _ r => ifB (jz (tB p.1 fs) (tB p.2 fs)) r false) ps
inductive X where
 | normal
 | ret
 | exit (id : Nat)
abbrev df := Ctx -> St -> M (X × St)
def AS : df := λ _ s => M.pure (.normal, s)
def AT (l : List It) : df := λ call s => M.map (λ s => (.normal, s)) (wA call l s)
def qP (ps : List (Nat × Nat)) (l : List It) : df := λ call s => M.bind (eX call l s) λ r => ifB (oU r.1 ps) (M.pure (.normal, r.2)) fail
inductive Box (α : Type) where
 | mk (a : α)
def Box.rn {α β : Type} (k : α -> β) (b : Box α) : β := Box.rec k b
def onN (k : St -> M (X × St)) (r : X × St) : M (X × St) := X.rec (k r.2) (M.pure (.ret, r.2)) (λ i => M.pure (.exit i, r.2)) r.1
def JC (a b : df) : df := λ call s => M.bind (a call s) (onN (b call))
def Fc (c : Opd) (a b : df) : df := λ call s => onBool fail (λ t => ifB t (a call s) (b call s)) (ev s.env c)
def JF (id : Nat) (r : X × St) : X × St := (X.rec .normal .ret (λ i => ifB (Nat.beq i id) .normal (.exit i)) r.1, r.2)
def zp (id : Nat) (b : df) : df := λ call s => M.map (JF id) (b call s)
def nS (s : St) : St := ⟨.base s.env.flush, s.defers⟩
def Ax (b : df) (n : Nat) : df := Nat.rec (motive := λ _ => df) (λ _ _ => fail) (λ _ g call s => M.bind (b call s) (onN λ s => g call (nS s))) n
def Fb (b : df) : df := Ax b 100000
def IK (id : Nat) : df := λ _ s => M.pure (.exit id, s)
def Ko : df := λ _ s => M.pure (.ret, s)
def rt : df := λ _ _ => fail
def iF {α β : Type} (f : α -> Option β) (l : List α) : Option (List β) := List.rec (some []) (λ a _ r => ifS none (λ b => ifS none (λ r => some (b :: r)) r) (f a)) l
def ofS (v : Value) : Option AV := match v with
 | .bool b => some (.bool b)
 | .int k n => some (.int k n)
 | .string s => some (.str (s.data.toList.map UInt8.toNat))
 | .pointer none => some (.ptr none)
 | .slice none 0 0 => some (.slice none 0 0 0)
 | .map none => some (.map none)
 | .nilFunc => some .nilFn
 | .nilIface => some .nilIface
 | .func (.func f) ⟨[]⟩ ⟨[]⟩ => some (.fn f [] [])
 | _ => none
def ofV (v : Value) : Option AV := match v with
 | .agg cs => ifS none (λ l => some (.agg l)) (iF ofS cs.toList)
 | .tuple ⟨[]⟩ => some (.tuple [])
 | v => ofS v
def aW (x : Operand) : Option Opd := match x with
 | .tmp t => some (.tmp t)
 | .const v => ifS none (λ a => some (.const a)) (ofV v)
 | .global _ => none
 | .func f => some (.const (.fn f [] []))
def iD (l : List Operand) : Option (List Opd) := iF aW l
def kj (x : Option Operand) : Option (Option Opd) := ifS (some none) (λ x => ifS none (λ y => some (some y)) (aW x)) x
variable (P : Program)
def cX (t : TypeId) : Option AV := ifS none (λ i => ifS none (λ z => ifS none (λ v => ifB (ifB (Nat.beq (len v.cells) i.size) (Nat.ble i.bytes 1048576) false) (some v) none) (ofV z)) i.zero) (P.info? t)
def cG (t : TypeId) : Option Nat := ifS none (λ i => some i.size) (P.info? t)
def Ef (d : TypeDesc) : Bool := match d with
 | .struct _ => true
 | .array _ _ => true
 | _ => false
def kD (t : TypeId) : Option Bool := ifS none (λ d => some (Ef d)) (P.underlying t)
def mS (t : TypeId) : Option TypeId := match P.underlying t with
 | some (.slice e) => some e
 | _ => none
def Ig (s e : TypeId) (x y : Opd) : Option Ev :=
 ifS none (λ el => ifS none (λ z => ifS none (λ d => match d with
  | .int _ => some (mG (len z.cells) z.cells x y)
  | _ => some (o9 (len z.cells) x y)) (P.underlying e)) (cX P el)) (mS P s)
def Ic (t : TypeId) (x : Opd) : Option Ev := match P.underlying t with
 | some (.array n _) => some (oY n)
 | some (.pointer a) => (match P.underlying a with | some (.array n _) => some (oY n) | _ => none)
 | some .string => some (oW x)
 | some (.slice _) => some (tz x)
 | some (.map _ _) => some (oX x)
 | _ => none
def fM (b : Builtin) (args : List Opd) (ts : List TypeId) : Option Ev :=
 match b, args, ts with
 | .append, [x, y], [s, e] => Ig P s e x y
 | .len, [x], [t] => Ic P t x
 | .cap, [x], [t] => ifS none (λ _ => some (Gu x)) (mS P t)
 | .min, [x, y], _ => some (kQ false x y)
 | .max, [x, y], _ => some (kQ true x y)
 | _, _, _ => none
def AW (args : List Opd) (ts : List TypeId) : Option Ev := match args, ts with
 | [x, y], [s, _] => ifS none (λ el => ifS none (λ n => some (An n x y)) (cG P el)) (mS P s)
 | _, _ => none
def gV (b : Builtin) (args : List Opd) (ts : List TypeId) : Option Ev := match b with
 | .copy => AW P args ts
 | b => fM P b args ts
def Gh (fs : Array Field) : Option (List (Nat × Nat)) := fs.toList.mapM (λ f => (P.info? f.type).map λ i => (f.offset, i.size))
def DB (ps : List (Nat × Nat)) (q : Nat × Operand) : Option (Nat × Nat × Opd) := ifS none (λ p => ifS none (λ x => some (p.1, p.2, x)) (aW q.2)) ps[q.1]?
def rY (s : Nat) (q : Nat × Operand) : Option (Nat × Nat × Opd) := ifS none (λ x => some (q.1 * s, s, x)) (aW q.2)
def qR (t : TypeId) (ps : List (Nat × Operand)) (z : AV) : Option Ev := match P.underlying t with
 | some (.struct fs) => ifS none (λ pl => ifS none (λ l => some (nI z.cells l)) (iF (DB pl) ps)) (Gh P fs)
 | some (.array _ el) => ifS none (λ s => ifS none (λ l => some (nI z.cells l)) (iF (rY s) ps)) (cG P el)
 | _ => none
def AX (x : Opd) (a b : TypeDesc) : Option Ev := match a, b with
 | .int _, .int k => some (Ao k x)
 | .int _, .string => some (Gt x)
 | .string, .string => some (Ak x)
 | _, _ => none
def ub (x : Opd) (a b : TypeDesc) : Option Ev := match a, b with
 | .string, .slice e => (match P.underlying e with | some (.int .u8) => some (kN x) | _ => none)
 | a, b => AX x a b
def t8 (t : TypeId) (x : Opd) (lo hi : Option Opd) : Option Ev := match P.underlying t with
 | some .string => some (kO x lo hi)
 | some (.slice el) => ifS none (λ n => some (mB n x lo hi)) (cG P el)
 | _ => none
def kd (s : TypeId) (i : Nat) : Option Field := match P.underlying s with
 | some (.struct fs) => fs[i]?
 | _ => none
def nE (t : TypeId) : Bool := match P.underlying t with
 | some (.interface _) => false
 | some _ => true
 | none => false
def ju (t : TypeId) (x i : Opd) : Option Ev := match P.underlying t with
 | some (.array n el) => ifS none (λ z => some (mD n z x i)) (cG P el)
 | some (.slice el) => ifS none (λ z => some (mC z x i)) (cG P el)
 | _ => none
def ua (t : TypeId) (x i : Opd) : Option Ev := match P.underlying t with
 | some (.array n el) => ifS none (λ z => ifS none (λ b => some (kS n z b x i)) (kD P el)) (cG P el)
 | some .string => some (kT x i)
 | _ => none
def tK (t : TypeId) : Option (TypeId × TypeId) := match P.underlying t with
 | some (.map k e) => some (k, e)
 | _ => none
def fkO (t : TypeId) : Option FK := match P.underlying t with
 | some (.int _) => some .int
 | some .string => some .str
 | some .bool => some .bool
 | _ => none
def qz (f : Field) : Option (Nat × FK) := ifB (f.name != "_") (ifS none (λ k => some (f.offset, k)) (fkO P f.type)) none
def kW (x : Operand) : Bool := match x with
 | .const _ => true
 | _ => false
def Co (t : TypeId) (x y : Operand) : Option (AV -> AV -> Option Bool) := match P.underlying t with
 | some .bool => some (fK .bool)
 | some (.pointer e) => ifS none (λ n => ifB (Nat.beq n 0) none (some IG)) (cG P e)
 | some (.slice _) => some Kk
 | some (.map _ _) => some II
 | some (.func _ _ _) => some Kn
 | some (.interface _) => ifB (ifB (kW x) true (kW y)) (some Kl) none
 | some (.struct fs) => ifB (ifB (P.eqGuardType P.depth t) false (not (P.stoodInHeld t))) (ifS none (λ ks => some (Km ks)) (iF (qz P) fs.toList)) none
 | _ => none
def tO (t : TypeId) : Bool := match P.underlying t with
 | some (.int _) => true
 | some .string => true
 | _ => false
def Fd (op : BinOp) (t : TypeId) (x y : Operand) (a b : Opd) : Option Ev := ifB (tO P t) (some (Gw op a b)) (match op with
 | .eql => ifS none (λ f => some (oEq f true a b)) (Co P t x y)
 | .neq => ifS none (λ f => some (oEq f false a b)) (Co P t x y)
 | _ => none)
def sy (f : Field) : Option Nat := ifB (ifB (P.underlying f.type matches some (.pointer _)) false true) (ifS none (λ b => ifB b none (ifS none (λ n => ifB (Nat.beq n 0) none (some f.offset)) (cG P f.type))) (kD P f.type)) none
def IB (t : TypeId) (m : Method) : Option (Nat × Option Nat) := match m.path.toList, m.func with
 | [], some (f, true) => (match P.underlying t with | some (.pointer _) => some (f, none) | _ => none)
 | [s], some (f, false) => ifB s.deref (ifS none (λ fd => ifS none (λ off => some (f, some off)) (sy P fd)) (kd P s.struct s.index)) none
 | _, _ => none
def DY (name : String) (t : TypeId) : Option (Nat × Option Nat) := ifS none (λ i => ifS none (IB P t) (i.methods.find? (·.name == name))) (P.info? t)
def AY (c : Call) (args : List Opd) : Option Ev := match c.callee with
 | .value f => ifS none (λ f => some (Ap f args)) (aW f)
 | .builtin b => gV P b args c.argTypes.toList
 | .invoke x name => ifS none (λ x => some (oZ (DY P name) x args)) (aW x)
def cOp (o : Op) : Option Ev :=
 match o with
 | .move x => ifS none (λ x => some (sd x)) (aW x)
 | .assign x => ifS none (λ x => some (sd x)) (aW x)
 | .pick c a b => ifS none (λ c => ifS none (λ a => ifS none (λ b => some (Al c a b)) (aW b)) (aW a)) (aW c)
 | .alloc e => ifS none (λ z => some (yl z.cells)) (cX P e)
 | .box _ x => ifS none (λ x => some (Gv x)) (aW x)
 | .build t ps => ifS none (qR P t ps.toList) (cX P t)
 | .buildSlice t n ps => ifS none (λ el => ifS none (λ z => ifB (Nat.ble (n * Nat.succ (len z.cells)) 16777216) (ifS none (λ l => some (ib (len z.cells) (oN z.cells n) n l)) (iF (rY (len z.cells)) ps.toList)) none) (cX P el)) (mS P t)
 | .load t a => ifS none (λ a => ifS none (λ b => ifB b (ifS none (λ n => some (lG n a)) (cG P t)) (some (tx a))) (kD P t)) (aW a)
 | .store t a x => ifS none (λ a => ifS none (λ x => ifS none (λ n => some (tw n a x)) (cG P t)) (aW x)) (aW a)
 | .nilCheck x => ifS none (λ x => some (kP x)) (aW x)
 | .binOp op t x y _ => ifS none (λ a => ifS none (λ b => Fd P op t x y a b) (aW y)) (aW x)
 | .unOp .not _ x => ifS none (λ x => some (Gr x)) (aW x)
 | .unOp .neg _ x => ifS none (λ x => some (Gs x)) (aW x)
 | .convert s d x => ifS none (λ x => ifS none (λ a => ifS none (λ b => ub P x a b) (P.underlying d)) (P.underlying s)) (aW x)
 | .makeInterface t x => ifS none (λ x => ifB (nE P t) (some (tA t x)) none) (aW x)
 | .makeFunc (.func f) a b => ifS none (λ a => ifS none (λ b => some (Am f a b)) (iD b.toList)) (iD a.toList)
 | .makeMap _ none => some pY
 | .makeSlice t l c => ifS none (λ el => ifS none (λ z => ifS none (λ l => ifS none (λ c => some (jc z.cells l c)) (aW c)) (aW l)) (cX P el)) (mS P t)
 | .slice t x lo hi none => ifS none (λ x => ifS none (λ lo => ifS none (λ hi => t8 P t x lo hi) (kj hi)) (kj lo)) (aW x)
 | .fieldAddr s x i => ifS none (λ x => ifS none (λ f => ifS none (λ n => ifB (Nat.beq n 0) none (some (je f.offset x))) (cG P f.type)) (kd P s i)) (aW x)
 | .field s x i => ifS none (λ x => ifS none (λ f => ifS none (λ b => ifB b (ifS none (λ n => some (jd f.offset n x)) (cG P f.type)) (some (o8 f.offset x))) (kD P f.type)) (kd P s i)) (aW x)
 | .indexAddr t x i => ifS none (λ x => ifS none (λ i => ju P t x i) (aW i)) (aW x)
 | .index t x i => ifS none (λ x => ifS none (λ i => ua P t x i) (aW i)) (aW x)
 | .lookup t m k ok => ifS none (λ m => ifS none (λ k => ifS none (λ q => ifS none (λ f => ifS none (λ z => some (oV f z m k ok)) (cX P q.2)) (fkO P q.1)) (tK P t)) (aW k)) (aW m)
 | .mapUpdate t m k x => ifS none (λ m => ifS none (λ k => ifS none (λ x => ifS none (λ q => ifS none (λ f => some (fJ f m k x)) (fkO P q.1)) (tK P t)) (aW x)) (aW k)) (aW m)
 | .insert t m k x => ifS none (λ m => ifS none (λ k => ifS none (λ x => ifS none (λ q => ifS none (λ f => some (fJ f m k x)) (fkO P q.1)) (tK P t)) (aW x)) (aW k)) (aW m)
 | .mapEntry t m k => ifS none (λ m => ifS none (λ k => ifS none (λ q => ifS none (λ f => ifS none (λ z => some (kR f z m k)) (cX P q.2)) (fkO P q.1)) (tK P t)) (aW k)) (aW m)
 | .entryStore _ m s x => ifS none (λ m => ifS none (λ s => ifS none (λ x => some (ia m s x)) (aW x)) (aW s)) (aW m)
 | .extract x i => ifS none (λ x => some (mF x i)) (aW x)
 | .call c => ifS none (AY P c) (iD c.args.toList)
 | .typeAssert x _ t ok => ifS none (λ x => ifB (nE P t) (ifB ok (ifS none (λ z => some (gv t (some z) x)) (cX P t)) (some (gv t none x))) none) (aW x)
 | _ => none
def lS (o : Op) : Option (Opd × List Opd) := match o with
 | .defer c => (match c.callee with
   | .value f => ifS none (λ f => ifS none (λ l => some (f, l)) (iD c.args.toList)) (aW f)
   | _ => none)
 | _ => none
def lO (ops : Array Oper) (g : Option (Nat × Bool)) : Option (Option (Nat × Bool)) :=
 ifS (some none) (λ g => ifS none (λ o => ifS none (λ t => some (some (t, g.2))) o.dst) ops[g.1]?) g
def sI (n : Nat) (d : Option Nat) : Bool := ifS true (λ d => Nat.blt d n) d
def cIt (n : Nat) (ops : Array Oper) (o : Oper) : It :=
 ifB (sI n o.dst) (ifS (ifS .bad (λ g => .val o.dst g (ifS DS (λ f => f) (cOp P o.op))) (lO ops o.guard)) (λ q => ifS (.dfr o.dst q.1 q.2) (λ _ => .bad) o.guard) (lS o.op)) .bad
def jH {α β : Type} (f : α -> β) (l : List α) : List β := List.rec [] (λ a _ r => f a :: r) l
def iu (ps : List Nat) (l : List Edge) : Nat :=
 List.rec 0 (λ e _ r => ifB (Region.binds .any e) (ifS r (λ m => Nat.lor r (Nat.lor m (Nat.shiftLeft 1 e.on))) (ps[e.on]?)) r) l
def uk (l : List Oper) : List Nat -> List Nat := List.rec (motive := λ _ => List Nat -> List Nat) (λ ps => ps) (λ o _ g ps => g (List.append ps [iu ps o.after.toList])) l
def nF (ops : Array Oper) (m j : Nat) (oj : Oper) (i : Nat) : Option (List (Nat × Nat)) :=
 Nat.rec (some []) (λ i r => ifB (Nat.testBit m i) r (ifS none (λ oi => ifB (Oper.apart ops oi oj) (ifS none (λ l => some ((i, j) :: l)) r) none) ops[i]?)) i
def sO (j : Nat) (l : List Edge) : Bool := List.rec true (λ e _ r => ifB (ifB (Region.binds .any e) (Nat.blt e.on j) true) r false) l
def pV (ops : Array Oper) (ps : List Nat) (j : Nat) : Option (List (Nat × Nat)) :=
 Nat.rec (some []) (λ j r => ifS none (λ m => ifS none (λ oj => ifB (sO j oj.after.toList) (ifS none (λ l => ifS none (λ k => some (List.append l k)) (nF ops m j oj j)) r) none) ops[j]?) ps[j]?) j
def hU (ops : Array Oper) : Option (List (Nat × Nat)) := pV ops (uk ops.toList []) ops.size
def E8 (n : Nat) (ops : Array Oper) (draw : Bool) : Box df :=
 ifB draw (ifB (P.follows .mixedOrders) (ifS (.mk rt) (λ ps => .mk (qP ps (jH (cIt P n ops) ops.toList))) (hU ops)) (.mk rt)) (.mk (AT (jH (cIt P n ops) ops.toList)))
def gd (n : Nat) (c : Code) : Box df :=
 Code.rec (motive := λ _ => Box df) (.mk AS) (λ _ ops d => E8 P n ops d)
  (λ _ _ f g => Box.rn (λ f => Box.rn (λ g => .mk (JC f g)) g) f)
  (λ c _ _ f g => ifS (.mk rt) (λ x => Box.rn (λ f => Box.rn (λ g => .mk (Fc x f g)) g) f) (aW c))
  (λ id _ f => Box.rn (λ f => .mk (zp id f)) f) (λ _ f => Box.rn (λ f => .mk (Fb f)) f) (λ _ _ _ _ _ _ => .mk rt)
  (λ id => .mk (IK id)) (λ _ f => f) (λ _ => .mk AS) (λ _ => .mk rt) (.mk Ko) (λ _ => .mk rt) c
inductive RV where
 | tmp (t : Nat)
 | one (a : Nat)
 | many (a : Nat) (n : Nat)
structure AF where
 results : List RV
 body : df
def zm (r : ResultVar) : Option RV := match r with
 | .tmp t => some (.tmp t)
 | .cell a t => ifS none (λ b => ifB b (ifS none (λ n => some (.many a n)) (cG P t)) (some (.one a))) (kD P t)
def Kp (f : Func) : Option AF := ifS none (λ rs => ifS none (λ b => Box.rn (λ g => some ⟨rs, g⟩) (gd P f.ntmps b)) f.body) (iF (zm P) f.results.toList)
def tab (f : Nat) : Option AF := ifS none (λ fn => ifB (fn.name == "runtime.NumGoroutine") none (Kp P fn)) P.funcs[f]?
def wm (l : List AV) : T AV -> Nat -> T AV := List.rec (motive := λ _ => T AV -> Nat -> T AV) (λ t _ => t) (λ v _ g t i => g (t.set i (some v)) (Nat.succ i)) l
def Gc (e : Env) (r : RV) : M AV := RV.rec (λ t => M.pure (e.get t)) (λ a => mI (e.get a)) (λ a n => mH n (e.get a)) r
def xT (e : Env) (l : List RV) : M (List AV) := List.rec (M.pure []) (λ r _ g => M.bind (Gc e r) λ v => M.map (λ vs => v :: vs) g) l
def one (l : List AV) : AV := ifC (.tuple []) (λ v t => ifC v (λ _ _ => .tuple l) t) l
def hasN (n : Nat) (l : List Nat) : Bool := List.rec false (λ a _ r => ifB (Nat.beq a n) true r) l
def tr (l : List AV) : Bool := ifC false (λ v t => ifC (onPtr false (ifS false λ _ => true) v) (λ _ _ => false) t) l
def jk (idle : List Nat) (l : List (Nat × List AV)) : Bool := List.rec true (λ q _ r => ifB (ifB (hasN q.1 idle) (tr q.2) false) r false) l
def keep (c : Nat) (l : Log) : Log := List.rec [] (λ q _ r => ifB (Nat.blt q.1 c) (q :: r) r) l
def dropPriv {α : Type} (m : M α) : M α := λ c h => Rs.rec (motive := λ _ => Rs α) .fail (λ a c1 h1 l => .ok a c1 h1 (keep c l)) (m c h)
def tP (x : X) : Bool := X.rec false false (λ _ => true) x
def leave (idle : List Nat) (rs : List RV) (r : X × St) : M AV :=
 ifB (tP r.1) fail (ifB (jk idle r.2.defers) (M.map one (xT r.2.env rs)) fail)
def EE (idle : List Nat) (call : Ctx) (args : List AV) (o : Option AF) : M AV :=
 ifS fail (λ fn => dropPriv (M.bind (fn.body call ⟨.base (wm args .leaf 0), []⟩) (leave idle fn.results))) o
def zU (args : List AV) : M AV := ifC fail (λ v t => ifC (onStr fail (λ s => ifB (Nat.ble (len s) 1048576) (M.pure (.str s)) fail) v) (λ _ _ => fail) t) args
def evCall (idle same : List Nat) (d : Nat) : Ctx := Nat.rec (motive := λ _ => Ctx) (λ _ _ => fail) (λ _ g f args => ifB (hasN f same) (zU args) (EE idle g args (tab P f))) d
abbrev Ren := Nat -> Option (Nat × Nat)
mutual
def VR (ρ : Ren) : AV -> Value -> Prop
 | .bool b, v => v = .bool b
 | .int k n, v => v = .int k n
 | .str s, v => ∃ b : ByteArray, v = .string b /\ b.data.toList.map UInt8.toNat = s
 | .ptr none, v => v = .pointer none
 | .ptr (some a), v => ∃ b z, ρ a.1 = some (b, z) /\ v = .pointer (some ⟨b, a.2, none⟩)
 | .slice none n c _, v => v = .slice none n c
 | .slice (some a) n c z, v => ∃ b s o k, ρ a.1 = some (b, s) /\ v = .slice (some ⟨b, o, none⟩) n k /\ c <= k /\ n <= c /\ (k = 0 ∨ o = a.2) /\ o + k * z <= s /\ k <= 9223372036854775807
 | .map none, v => v = .map none
 | .map (some a), v => ∃ b z, ρ a = some (b, z) /\ v = .map (some b)
 | .fn f a c, v => ∃ x y, v = .func (.func f) x y /\ VRs ρ a x.toList /\ VRs ρ c y.toList
 | .nilFn, v => v = .nilFunc
 | .iface t x, v => ∃ y, v = .iface t y /\ VR ρ x y
 | .nilIface, v => v = .nilIface
 | .agg l, v => ∃ x, v = .agg x /\ VRs ρ l x.toList
 | .tuple l, v => ∃ x, v = .tuple x /\ VRs ρ l x.toList
def VRs (ρ : Ren) : List AV -> List Value -> Prop
 | [], l => l = []
 | a :: x, l => ∃ v r, l = v :: r /\ VR ρ a v /\ VRs ρ x r
end
def Ren.le (ρ σ : Ren) : Prop := ∀ n p, ρ n = some p -> σ n = some p
theorem Ren.le_refl (ρ : Ren) : Ren.le ρ ρ := λ _ _ h => h
mutual
theorem VR.mono {ρ σ : Ren} (h : Ren.le ρ σ) : ∀ (a : AV) (v : Value), VR ρ a v -> VR σ a v
 | .bool _, _, e => by simpa only [VR] using e
 | .int _ _, _, e => by simpa only [VR] using e
 | .str _, _, e => by simpa only [VR] using e
 | .ptr none, _, e => by simpa only [VR] using e
 | .ptr (some _), _, e => by
   simp only [VR] at e ⊢
   obtain ⟨b, z, e, f⟩ := e
   exact ⟨b, z, h _ _ e, f⟩
 | .slice none _ _ _, _, e => by simpa only [VR] using e
 | .slice (some _) _ _ _, _, e => by
   simp only [VR] at e ⊢
   obtain ⟨b, s, o, k, e, f⟩ := e
   exact ⟨b, s, o, k, h _ _ e, f⟩
 | .map none, _, e => by simpa only [VR] using e
 | .map (some _), _, e => by
   simp only [VR] at e ⊢
   obtain ⟨b, z, e, f⟩ := e
   exact ⟨b, z, h _ _ e, f⟩
 | .fn _ a c, _, e => by
   simp only [VR] at e ⊢
   obtain ⟨x, y, e, f, g⟩ := e
   exact ⟨x, y, e, VRs.mono h a _ f, VRs.mono h c _ g⟩
 | .nilFn, _, e => by simpa only [VR] using e
 | .iface _ x, _, e => by
   simp only [VR] at e ⊢
   obtain ⟨y, e, f⟩ := e
   exact ⟨y, e, VR.mono h x _ f⟩
 | .nilIface, _, e => by simpa only [VR] using e
 | .agg l, _, e => by
   simp only [VR] at e ⊢
   obtain ⟨x, e, f⟩ := e
   exact ⟨x, e, VRs.mono h l _ f⟩
 | .tuple l, _, e => by
   simp only [VR] at e ⊢
   obtain ⟨x, e, f⟩ := e
   exact ⟨x, e, VRs.mono h l _ f⟩
theorem VRs.mono {ρ σ : Ren} (h : Ren.le ρ σ) : ∀ (a : List AV) (l : List Value), VRs ρ a l -> VRs σ a l
 | [], _, e => by simpa only [VRs] using e
 | a :: x, _, e => by
   simp only [VRs] at e ⊢
   obtain ⟨v, r, e, f, g⟩ := e
   exact ⟨v, r, e, VR.mono h a _ f, VRs.mono h x _ g⟩
end
theorem VRs.nil (ρ : Ren) : VRs ρ [] [] := by simp only [VRs]
theorem VRs.cons {ρ : Ren} {a : AV} {v : Value} {x : List AV} {r : List Value} (h : VR ρ a v) (k : VRs ρ x r) : VRs ρ (a :: x) (v :: r) := by
 simp only [VRs]; exact ⟨v, r, rfl, h, k⟩
theorem VRs.length {ρ : Ren} : ∀ {a : List AV} {l : List Value}, VRs ρ a l -> l.length = a.length
 | [], _, e => by simp only [VRs] at e; subst e; rfl
 | a :: x, _, e => by
   simp only [VRs] at e
   obtain ⟨v, r, rfl, _, g⟩ := e
   simp [VRs.length g]
theorem VRs.append {ρ : Ren} : ∀ {a b : List AV} {l m : List Value}, VRs ρ a l -> VRs ρ b m -> VRs ρ (a ++ b) (l ++ m)
 | [], _, _, _, e, f => by simp only [VRs] at e; subst e; exact f
 | a :: x, _, _, _, e, f => by
   simp only [VRs] at e
   obtain ⟨v, r, rfl, h, g⟩ := e
   exact VRs.cons h (VRs.append g f)
theorem VRs.get {ρ : Ren} : ∀ {a : List AV} {l : List Value} {i : Nat} {x : AV}, VRs ρ a l -> a[i]? = some x -> ∃ v, l[i]? = some v /\ VR ρ x v
 | [], _, _, _, _, h => by simp at h
 | a :: x, _, i, _, e, h => by
   simp only [VRs] at e
   obtain ⟨v, r, rfl, hv, g⟩ := e
   cases i with
   | zero => simp only [List.getElem?_cons_zero, Option.some.injEq] at h; subst h; exact ⟨v, rfl, hv⟩
   | succ i => simp only [List.getElem?_cons_succ] at h ⊢; exact VRs.get g h
theorem VRs.drop {ρ : Ren} : ∀ {a : List AV} {l : List Value} (n : Nat), VRs ρ a l -> VRs ρ (a.drop n) (l.drop n)
 | a, l, 0, e => by simpa using e
 | [], _, n + 1, e => by simp only [VRs] at e; subst e; simp [VRs]
 | a :: x, _, n + 1, e => by
   simp only [VRs] at e
   obtain ⟨v, r, rfl, _, g⟩ := e
   exact VRs.drop n g
theorem VRs.take {ρ : Ren} : ∀ {a : List AV} {l : List Value} (n : Nat), VRs ρ a l -> VRs ρ (a.take n) (l.take n)
 | a, l, 0, e => by simp [VRs]
 | [], _, n + 1, e => by simp only [VRs] at e; subst e; simp [VRs]
 | a :: x, _, n + 1, e => by
   simp only [VRs] at e
   obtain ⟨v, r, rfl, h, g⟩ := e
   exact VRs.cons h (VRs.take n g)
theorem VR.cells {ρ : Ren} {a : AV} {v : Value} (h : VR ρ a v) : VRs ρ a.cells v.cells.toList := by
 have k := h; cases a with
 | agg l => simp only [VR] at h; obtain ⟨x, rfl, h⟩ := h; exact h
 | bool b => simp only [VR] at h; subst h; exact VRs.cons k (VRs.nil ρ)
 | int b n => simp only [VR] at h; subst h; exact VRs.cons k (VRs.nil ρ)
 | str s => simp only [VR] at h; obtain ⟨_, rfl, _⟩ := h; exact VRs.cons k (VRs.nil ρ)
 | ptr a => cases a <;> simp only [VR] at h <;> (first | subst h | obtain ⟨_, _, _, rfl⟩ := h) <;> exact VRs.cons k (VRs.nil ρ)
 | slice a n c z => cases a <;> simp only [VR] at h <;> (first | subst h | obtain ⟨_, _, _, _, _, rfl, _⟩ := h) <;> exact VRs.cons k (VRs.nil ρ)
 | map a => cases a <;> simp only [VR] at h <;> (first | subst h | obtain ⟨_, _, _, rfl⟩ := h) <;> exact VRs.cons k (VRs.nil ρ)
 | fn f a c => simp only [VR] at h; obtain ⟨_, _, rfl, _⟩ := h; exact VRs.cons k (VRs.nil ρ)
 | nilFn => simp only [VR] at h; subst h; exact VRs.cons k (VRs.nil ρ)
 | iface t x => simp only [VR] at h; obtain ⟨_, rfl, _⟩ := h; exact VRs.cons k (VRs.nil ρ)
 | nilIface => simp only [VR] at h; subst h; exact VRs.cons k (VRs.nil ρ)
 | tuple l => simp only [VR] at h; obtain ⟨_, rfl, _⟩ := h; exact VRs.cons k (VRs.nil ρ)
section
variable {α β : Type}
theorem cI (x y : α) : ifB true x y = x := rfl
theorem eA (x y : α) : ifB false x y = y := rfl
theorem j6 (d : β) (k : α -> β) : ifS d k none = d := rfl
theorem mN (d : β) (k : α -> β) (a : α) : ifS d k (some a) = k a := rfl
theorem GR (d : β) (k : α -> List α -> β) : ifC d k [] = d := rfl
theorem T.get_leaf (n : Nat) : (T.leaf : T α).get n = none := rfl
theorem T.get_node (v : Option α) (l r : T α) (n : Nat) : (T.node v l r).get n = if n = 0 then v else if n % 2 = 1 then l.get (n / 2) else r.get (n / 2 - 1) := by
 show Bool.rec (motive := λ _ => Option α) (Bool.rec (motive := λ _ => Option α) (r.get (n / 2 - 1)) (l.get (n / 2)) (Nat.beq (n % 2) 1)) v (Nat.beq n 0) = _; cases h : Nat.beq n 0
 . have h0 : n ≠ 0 := λ e => by subst e; cases h
   rw [if_neg h0]; cases k : Nat.beq (n % 2) 1
   . have k0 : n % 2 ≠ 1 := λ e => by rw [e] at k; cases k
     rw [if_neg k0]
   . rw [if_pos (Nat.eq_of_beq_eq_true k)]
 . rw [if_pos (Nat.eq_of_beq_eq_true h)]
theorem T.set_node (v : Option α) (l r : T α) (n : Nat) (x : Option α) : (T.node v l r).set n x = if n = 0 then .node x l r else if n % 2 = 1 then .node v (l.set (n / 2) x) r else .node v l (r.set (n / 2 - 1) x) := by
 show Bool.rec (motive := λ _ => T α) (Bool.rec (motive := λ _ => T α) (.node v l (r.set (n / 2 - 1) x)) (.node v (l.set (n / 2) x) r) (Nat.beq (n % 2) 1)) (.node x l r) (Nat.beq n 0) = _; cases h : Nat.beq n 0
 . have h0 : n ≠ 0 := λ e => by subst e; cases h
   rw [if_neg h0]; cases k : Nat.beq (n % 2) 1
   . have k0 : n % 2 ≠ 1 := λ e => by rw [e] at k; cases k
     rw [if_neg k0]
   . rw [if_pos (Nat.eq_of_beq_eq_true k)]
 . rw [if_pos (Nat.eq_of_beq_eq_true h)]
theorem T.set1_succ (x : Option α) (f n : Nat) : T.set1 x (f + 1) n = if n = 0 then .node x .leaf .leaf else if n % 2 = 1 then .node none (T.set1 x f (n / 2)) .leaf else .node none .leaf (T.set1 x f (n / 2 - 1)) := by
 show Bool.rec (motive := λ _ => T α) (Bool.rec (motive := λ _ => T α) (.node none .leaf (T.set1 x f (n / 2 - 1))) (.node none (T.set1 x f (n / 2)) .leaf) (Nat.beq (n % 2) 1)) (.node x .leaf .leaf) (Nat.beq n 0) = _; cases h : Nat.beq n 0
 . have h0 : n ≠ 0 := λ e => by subst e; cases h
   rw [if_neg h0]; cases k : Nat.beq (n % 2) 1
   . have k0 : n % 2 ≠ 1 := λ e => by rw [e] at k; cases k
     rw [if_neg k0]
   . rw [if_pos (Nat.eq_of_beq_eq_true k)]
 . rw [if_pos (Nat.eq_of_beq_eq_true h)]
theorem T.get_set1 (x : Option α) : ∀ (f n : Nat), n < f -> ∀ m, (T.set1 x f n).get m = if m = n then x else none
 | 0, n, h, _ => absurd h (Nat.not_lt_zero n)
 | f + 1, n, h, m => by
   rw [T.set1_succ]
   by_cases h0 : n = 0
   . rw [if_pos h0, T.get_node]
     subst h0
     by_cases hm : m = 0
     . rw [if_pos hm, if_pos hm]
     . rw [if_neg hm, if_neg hm, T.get_leaf, T.get_leaf]
       simp
   . rw [if_neg h0]
     by_cases h1 : n % 2 = 1
     . rw [if_pos h1, T.get_node, T.get_leaf]
       by_cases hm : m = 0
       . rw [if_pos hm, if_neg zO]
       rw [if_neg hm]
       by_cases m1 : m % 2 = 1
       . rw [if_pos m1, T.get_set1 x f (n / 2) zO]
         by_cases e : m = n
         . rw [if_pos e, if_pos (by rw [e])]
         . rw [if_neg e, if_neg zO]
       . rw [if_neg m1, if_neg zO]
     . rw [if_neg h1, T.get_node, T.get_leaf]
       by_cases hm : m = 0
       . rw [if_pos hm, if_neg zO]
       rw [if_neg hm]
       by_cases m1 : m % 2 = 1
       . rw [if_pos m1, if_neg zO]
       . rw [if_neg m1, T.get_set1 x f (n / 2 - 1) zO]
         by_cases e : m = n
         . rw [if_pos e, if_pos (by rw [e])]
         . rw [if_neg e, if_neg zO]
theorem T.get_set (x : Option α) : ∀ (t : T α) (n m : Nat), (t.set n x).get m = if m = n then x else t.get m
 | .leaf, n, m => by
   show (T.set1 x (n + 1) n).get m = _
   rw [T.get_set1 x (n + 1) n (Nat.lt_succ_self n), T.get_leaf]
 | .node v l r, n, m => by
   rw [T.set_node]
   by_cases h0 : n = 0
   . rw [if_pos h0, T.get_node, T.get_node]
     by_cases hm : m = 0
     . rw [if_pos hm, if_pos zO]
     . rw [if_neg hm, if_neg (show ¬ m = n by omega), if_neg hm]
   . rw [if_neg h0]
     by_cases h1 : n % 2 = 1
     . rw [if_pos h1, T.get_node, T.get_node]
       by_cases hm : m = 0
       . rw [if_pos hm, if_pos hm, if_neg zO]
       rw [if_neg hm, if_neg hm]
       by_cases m1 : m % 2 = 1
       . rw [if_pos m1, if_pos m1, T.get_set x l]
         by_cases e : m = n
         . rw [if_pos e, if_pos (by rw [e])]
         . rw [if_neg e, if_neg zO]
       . rw [if_neg m1, if_neg m1, if_neg zO]
     . rw [if_neg h1, T.get_node, T.get_node]
       by_cases hm : m = 0
       . rw [if_pos hm, if_pos hm, if_neg zO]
       rw [if_neg hm, if_neg hm]
       by_cases m1 : m % 2 = 1
       . rw [if_pos m1, if_pos m1, if_neg zO]
       . rw [if_neg m1, if_neg m1, T.get_set x r]
         by_cases e : m = n
         . rw [if_pos e, if_pos (by rw [e])]
         . rw [if_neg e, if_neg zO]
end
theorem dropN_eq : ∀ (n : Nat) (l : List AV), dropN n l = l.drop n
 | 0, _ => rfl
 | _ + 1, [] => rfl
 | n + 1, _ :: l => dropN_eq n l
theorem takeN_eq : ∀ (n : Nat) (l r : List AV), takeN n l = some r -> r = l.take n /\ n <= l.length
 | 0, _, r, h => by cases h; exact ⟨rfl, Nat.zero_le _⟩
 | n + 1, [], r, h => by cases h
 | n + 1, a :: l, r, h => by
   have h : ifS none (λ r => some (a :: r)) (takeN n l) = some r := h
   cases k : takeN n l with
   | none => rw [k] at h; cases h
   | some q =>
     rw [k] at h
     cases h
     obtain ⟨rfl, e⟩ := takeN_eq n l q k
     exact ⟨rfl, Nat.succ_le_succ e⟩
theorem z7 : ∀ (vs cs r : List AV), putL vs cs = some r -> r = vs ++ cs.drop vs.length /\ vs.length <= cs.length
 | [], _, r, h => by cases h; exact ⟨rfl, Nat.zero_le _⟩
 | _ :: _, [], r, h => by cases h
 | v :: vs, _ :: cs, r, h => by
   have h : ifS none (λ r => some (v :: r)) (putL vs cs) = some r := h
   cases k : putL vs cs with
   | none => rw [k] at h; cases h
   | some q =>
     rw [k] at h
     cases h
     obtain ⟨rfl, e⟩ := z7 vs cs q k
     exact ⟨rfl, Nat.succ_le_succ e⟩
theorem jT (vs : List AV) : ∀ (n : Nat) (cs r : List AV), gq vs n cs = some r -> r = cs.take n ++ (vs ++ cs.drop (n + vs.length)) /\ n + vs.length <= cs.length
 | 0, cs, r, h => by
   obtain ⟨rfl, e⟩ := z7 vs cs r h
   simpa using e
 | n + 1, [], r, h => by cases h
 | n + 1, a :: cs, r, h => by
   have h : ifS none (λ r => some (a :: r)) (gq vs n cs) = some r := h
   cases k : gq vs n cs with
   | none => rw [k] at h; cases h
   | some q =>
     rw [k] at h
     cases h
     obtain ⟨rfl, e⟩ := jT vs n cs q k
     refine ⟨?_, by simp only [List.length_cons]; omega⟩
     have : n + 1 + vs.length = n + vs.length + 1 := by omega
     rw [this]
     rfl
theorem len_eq {α : Type} : ∀ (l : List α), len l = l.length
 | [] => rfl
 | _ :: l => congrArg Nat.succ (len_eq l)
end Go.Sx
namespace Go.Sx
open Go.RowKit
def ERs (ρ : Ren) : List (AV × AV × Nat) -> List MapEntry -> Prop
 | [], l => l = []
 | q :: x, l => ∃ e r, l = e :: r /\ VR ρ q.1 e.key /\ VR ρ q.2.1 e.val /\ e.born = q.2.2 /\ ERs ρ x r
theorem ERs.mono {ρ σ : Ren} (h : Ren.le ρ σ) : ∀ (x : List (AV × AV × Nat)) (l : List MapEntry), ERs ρ x l -> ERs σ x l
 | [], _, e => e
 | _ :: x, _, ⟨e, r, h1, h2, h3, h4, h5⟩ => ⟨e, r, h1, VR.mono h _ _ h2, VR.mono h _ _ h3, h4, ERs.mono h x r h5⟩
def OR (ρ : Ren) (w : World) (b s : Nat) : AO -> Prop
 | .row cs => ∃ arr e lo hi l rest, w.heap[b]? = some (.cells arr e (lo, hi)) /\ arr.size = s /\ arr.toList = l ++ rest /\ VRs ρ cs l /\ ∀ i, i < s -> ¬ (lo <= i /\ i < hi)
 | .mp es k => ∃ a, w.heap[b]? = some (.map a k) /\ ERs ρ es a.toList
theorem OR.mono {ρ σ : Ren} (h : Ren.le ρ σ) {w w' : World} {b s : Nat} (hb : w'.heap[b]? = w.heap[b]?) : ∀ {o : AO}, OR ρ w b s o -> OR σ w' b s o
 | .row _, ⟨arr, e, lo, hi, l, rest, h1, h2, h3, h4, h5⟩ => ⟨arr, e, lo, hi, l, rest, hb.trans h1, h2, h3, VRs.mono h _ _ h4, h5⟩
 | .mp _ _, ⟨a, h1, h2⟩ => ⟨a, hb.trans h1, ERs.mono h _ _ h2⟩
theorem OR.lt {ρ : Ren} {w : World} {b s : Nat} {o : AO} (h : OR ρ w b s o) : b < w.heap.size := by
 have : ∃ x, w.heap[b]? = some x := by
  cases o with
  | row cs => obtain ⟨arr, e, lo, hi, l, rest, h1, _⟩ := h; exact ⟨_, h1⟩
  | mp es k => obtain ⟨a, h1, _⟩ := h; exact ⟨_, h1⟩
 obtain ⟨x, hx⟩ := this; rcases Nat.lt_or_ge b w.heap.size with h | h
 . exact h
 . rw [Array.getElem?_eq_none h] at hx; cases hx
structure Rel (ρ : Ren) (h : H) (w : World) : Prop where
 lies : ∀ n o, h.get n = some o -> ∃ b s, ρ n = some (b, s) /\ OR ρ w b s o
 alone : ∀ n m o p b s t, h.get n = some o -> h.get m = some p -> ρ n = some (b, s) -> ρ m = some (b, t) -> n = m
structure Post (ρ : Ren) (h : H) (w : World) (c c' : Nat) (ρ' : Ren) (h' : H) (w' : World) : Prop where
 rel : Rel ρ' h' w'
 ext : ∀ n, ¬ (c <= n /\ n < c') -> ρ' n = ρ n
 os : w'.os = w.os
 tape : w'.tape = w.tape
 output : w'.output = w.output
 size : w.heap.size <= w'.heap.size
 old : ∀ b, b < w.heap.size -> (∀ n o s, h.get n = some o -> ρ n ≠ some (b, s)) -> w'.heap[b]? = w.heap[b]?
 new : ∀ n o b s, h'.get n = some o -> ρ' n = some (b, s) -> b < w.heap.size -> ∃ m p t, h.get m = some p /\ ρ m = some (b, t)
def lV (ρ : Ren) (c c' : Nat) : Prop := ∀ n, c <= n -> n < c' -> ρ n = none
theorem Post.le {ρ : Ren} {h : H} {w : World} {c c' : Nat} {ρ' : Ren} {h' : H} {w' : World} (p : Post ρ h w c c' ρ' h' w') (f : lV ρ c c') : Ren.le ρ ρ' := by
 intro n q e; rw [p.ext n (λ ⟨h1, h2⟩ => by rw [f n h1 h2] at e; cases e)]; exact e
theorem Post.refl {ρ : Ren} {h : H} {w : World} {c : Nat} (r : Rel ρ h w) : Post ρ h w c c ρ h w :=
 ⟨r, λ _ _ => rfl, rfl, rfl, rfl, Nat.le_refl _, λ _ _ _ => rfl, λ n o _ s h1 h2 _ => ⟨n, o, s, h1, h2⟩⟩
theorem Post.trans {ρ : Ren} {h : H} {w : World} {c c1 c2 : Nat} {ρ1 : Ren} {h1 : H} {w1 : World} {ρ2 : Ren} {h2 : H} {w2 : World}
  (p : Post ρ h w c c1 ρ1 h1 w1) (q : Post ρ1 h1 w1 c1 c2 ρ2 h2 w2) (k : c <= c1) (m : c1 <= c2) : Post ρ h w c c2 ρ2 h2 w2 where
 rel := q.rel
 ext n hn := by rw [q.ext n zO, p.ext n zO]
 os := q.os.trans p.os
 tape := q.tape.trans p.tape
 output := q.output.trans p.output
 size := Nat.le_trans p.size q.size
 old b hb hn := by
  rw [q.old b (Nat.lt_of_lt_of_le hb p.size) (λ n o s e f => ?_), p.old b hb hn]; obtain ⟨m, o', t, e', f'⟩ := p.new n o b s e f hb; exact hn m o' t e' f'
 new n o b s e f hb := by
  obtain ⟨m, o', t, e', f'⟩ := q.new n o b s e f (Nat.lt_of_lt_of_le hb p.size); exact p.new m o' b t e' f' hb
theorem Rel.drew {ρ : Ren} {h : H} {w : World} (r : Rel ρ h w) (n : Nat) : Rel ρ h { w with drawn := n } :=
 ⟨λ n o e => by obtain ⟨b, s, f, g⟩ := r.lies n o e; exact ⟨b, s, f, OR.mono (Ren.le_refl ρ) rfl g⟩, r.alone⟩
theorem Post.from_drawn {ρ : Ren} {h : H} {w : World} {c c' : Nat} {ρ' : Ren} {h' : H} {w' : World} {n : Nat} (p : Post ρ h { w with drawn := n } c c' ρ' h' w') : Post ρ h w c c' ρ' h' w' :=
 ⟨p.rel, p.ext, p.os, p.tape, p.output, p.size, p.old, p.new⟩
theorem rowOf_some {h : H} {n : Nat} {cs : List AV} (e : rowOf h n = some cs) : h.get n = some (.row cs) := by
 have e : ifS none AO.row? (h.get n) = some cs := e; cases k : h.get n with
 | none => rw [k] at e; cases e
 | some o =>
   rw [k] at e; cases o with
   | row x => cases e; rfl
   | mp es q => cases e
theorem Rel.cells {ρ : Ren} {h : H} {w : World} (r : Rel ρ h w) {n : Nat} {cs : List AV} (e : h.get n = some (.row cs)) :
  ∃ b s, ρ n = some (b, s) /\ cs.length <= s /\ (∀ i, i < s -> (w.cell? ⟨b, i, none⟩).isSome = true /\ w.frozen? ⟨b, i, none⟩ = false) /\
    ∀ i x, cs[i]? = some x -> ∃ v, w.cell? ⟨b, i, none⟩ = some v /\ VR ρ x v := by
 obtain ⟨b, s, f, arr, t, lo, hi, l, rest, h1, h2, h3, h4, h5⟩ := r.lies n _ e; have hlen := h4.length; have hsz : arr.size = l.length + rest.length := (by rw [<- Array.length_toList, h3, List.length_append]); refine ⟨b, s, f, by omega, λ i hi' => ⟨?_, ?_⟩, λ i x hx => ?_⟩
 . simp [World.cell?, h1, h2, hi']
 . have := h5 i hi'; simp only [World.frozen?, h1]; simp only [Bool.and_eq_false_iff, decide_eq_false_iff_not]; omega
 . obtain ⟨v, hv, k⟩ := h4.get hx; refine ⟨v, ?_, k⟩; have hl : i < l.length := by
    rcases Nat.lt_or_ge i l.length with hh | hh
    . exact hh
    . rw [List.getElem?_eq_none hh] at hv; cases hv
   simp only [World.cell?, h1, Option.isSome_none, Bool.false_eq_true, if_false]; rw [<- Array.getElem?_toList, h3, List.getElem?_append_left hl, hv]
theorem gM (b : Nat) (e : TypeId) (f : Nat × Nat) : ∀ (vs : List Value) (o : Nat) (w : World) (arr : Array Value), w.heap[b]? = some (.cells arr e f) -> o + vs.length <= arr.size ->
  ∃ arr', (w.setCells b o vs).heap[b]? = some (.cells arr' e f) /\ arr'.size = arr.size /\ arr'.toList = arr.toList.take o ++ (vs ++ arr.toList.drop (o + vs.length))
 | [], o, w, arr, h, _ => ⟨arr, h, rfl, by simp⟩
 | v :: vs, o, w, arr, h, k => by
   simp only [List.length_cons] at k
   have h1 : (w.setCell ⟨b, o, none⟩ v).heap[b]? = some (.cells (arr.setIfInBounds o v) e f) := by
    simp only [World.setCell, Array.getElem?_modify, h]; simp
   obtain ⟨arr', h2, h3, h4⟩ := gM b e f vs (o + 1) (w.setCell ⟨b, o, none⟩ v) _ h1 (by simp; omega); refine ⟨arr', h2, by simpa using h3, ?_⟩; rw [h4]; have ho : o < arr.toList.length := (by rw [Array.length_toList]; omega); simp only [Array.toList_setIfInBounds, List.length_cons]; rw [show o + (vs.length + 1) = o + 1 + vs.length by omega]; rw [List.drop_set_of_lt zO, List.set_eq_take_append_cons_drop, if_pos ho]; rw [List.take_append, List.take_take]; simp only [List.length_take, List.cons_append, List.append_assoc]; rw [show min (o + 1) o = o by omega, show o + 1 - min o arr.toList.length = 1 by omega]; simp
theorem d9 (b : Nat) : ∀ (vs : List Value) (o : Nat) (w : World) (k : Nat), k ≠ b -> (w.setCells b o vs).heap[k]? = w.heap[k]?
 | [], _, _, _, _ => rfl
 | v :: vs, o, w, k, h => by
   have h1 := d9 b vs (o + 1) (w.setCell ⟨b, o, none⟩ v) k h
   exact h1.trans (Below.heap_setCell w ⟨b, o, none⟩ v k h)
theorem ix (b : Nat) : ∀ (vs : List Value) (o : Nat) (w : World), (w.setCells b o vs).os = w.os /\ (w.setCells b o vs).tape = w.tape /\ (w.setCells b o vs).output = w.output /\ (w.setCells b o vs).heap.size = w.heap.size
 | [], _, _ => ⟨rfl, rfl, rfl, rfl⟩
 | v :: vs, o, w => by
   obtain ⟨h1, h2, h3, h4⟩ := ix b vs (o + 1) (w.setCell ⟨b, o, none⟩ v)
   exact ⟨h1, h2, h3, h4.trans (by simp [World.setCell])⟩
theorem Rel.store {ρ : Ren} {h : H} {w : World} (r : Rel ρ h w) {n off c : Nat} {cs q : List AV} {vs : List AV} {l : List Value} (e : h.get n = some (.row cs)) (hv : VRs ρ vs l)
  (hq : q = cs.take off ++ (vs ++ cs.drop (off + vs.length))) (hl : off + vs.length <= cs.length) :
  ∃ b s, ρ n = some (b, s) /\ Post ρ h w c c ρ (h.set n (some (.row q))) (w.setCells b off l) := by
 obtain ⟨b, s, f, arr, t, lo, hi, k, rest, h1, h2, h3, h4, h5⟩ := r.lies n _ e; have hlen := h4.length; have hlv := hv.length; have hsz : arr.size = k.length + rest.length := (by rw [<- Array.length_toList, h3, List.length_append]); obtain ⟨arr', g1, g2, g3⟩ := gM b t (lo, hi) l off w arr h1 zO; obtain ⟨o1, o2, o3, o4⟩ := ix b l off w; refine ⟨b, s, f, ⟨⟨λ m o em => ?_, λ m1 m2 p1 p2 b' s' t' e1 e2 f1 f2 => ?_⟩, λ _ _ => rfl, o1, o2, o3, Nat.le_of_eq o4.symm, λ b' _ hn => ?_, λ m o b' s' e1 f1 _ => ?_⟩⟩
 . rw [T.get_set] at em; by_cases hm : m = n
   . rw [if_pos hm] at em; cases em; subst hm; refine ⟨b, s, f, arr', t, lo, hi, k.take off ++ (l ++ k.drop (off + l.length)), rest, g1, g2.trans h2, ?_, ?_, h5⟩
     . rw [g3, h3, List.take_append_of_le_length zO, List.drop_append_of_le_length zO]; simp only [List.append_assoc]
     . rw [hq]; exact (VRs.take _ h4).append (hv.append (by rw [hlv]; exact VRs.drop _ h4))
   . rw [if_neg hm] at em; obtain ⟨b', s', f', g⟩ := r.lies m o em; refine ⟨b', s', f', OR.mono (Ren.le_refl ρ) (d9 b l off w b' λ eb => ?_) g⟩; subst eb; exact hm (r.alone m n _ _ _ _ _ em e f' f)
 . rw [T.get_set] at e1 e2; have l1 : ∃ o, h.get m1 = some o := by
    by_cases hm : m1 = n
    . exact ⟨_, hm ▸ e⟩
    . rw [if_neg hm] at e1; exact ⟨_, e1⟩
   have l2 : ∃ o, h.get m2 = some o := by
    by_cases hm : m2 = n
    . exact ⟨_, hm ▸ e⟩
    . rw [if_neg hm] at e2; exact ⟨_, e2⟩
   obtain ⟨_, l1⟩ := l1; obtain ⟨_, l2⟩ := l2; exact r.alone m1 m2 _ _ _ _ _ l1 l2 f1 f2
 . exact d9 b l off w b' λ eb => hn n _ s e (eb ▸ f)
 . rw [T.get_set] at e1; by_cases hm : m = n
   . exact ⟨n, _, _, e, hm ▸ f1⟩
   . rw [if_neg hm] at e1; exact ⟨m, _, _, e1, f1⟩
def Ren.put (ρ : Ren) (c : Nat) (p : Nat × Nat) : Ren := λ n => if n = c then some p else ρ n
theorem Ren.put_same (ρ : Ren) (c : Nat) (p : Nat × Nat) : ρ.put c p c = some p := if_pos rfl
theorem Ren.put_other (ρ : Ren) {c n : Nat} (p : Nat × Nat) (h : n ≠ c) : ρ.put c p n = ρ n := if_neg h
theorem Ren.le_put {ρ : Ren} {c : Nat} (p : Nat × Nat) (h : ρ c = none) : Ren.le ρ (ρ.put c p) := λ n q e => by
 rw [Ren.put_other ρ p (λ hn => by rw [hn, h] at e; cases e)]
 exact e
theorem Rel.new {ρ : Ren} {h : H} {w : World} (r : Rel ρ h w) {c s : Nat} (hc : ρ c = none) {obj : Obj} {o : AO}
  (ho : OR (ρ.put c (w.heap.size, s)) (w.alloc obj) w.heap.size s o) :
  Post ρ h w c (c + 1) (ρ.put c (w.heap.size, s)) (h.set c (some o)) (w.alloc obj) := by
 have hle := Ren.le_put (w.heap.size, s) hc; have hn0 : ∀ m p, h.get m = some p -> m ≠ c := λ m p e hm => by
  obtain ⟨b, t, f, _⟩ := r.lies m p e; rw [hm, hc] at f; cases f
 have hlt : ∀ m p b t, h.get m = some p -> ρ m = some (b, t) -> b < w.heap.size := λ m p b t e f => by
  obtain ⟨b', t', f', g⟩ := r.lies m p e; rw [f] at f'; cases f'; exact g.lt
 refine ⟨⟨λ m p em => ?_, λ m1 m2 p1 p2 b s1 s2 e1 e2 f1 f2 => ?_⟩, λ n hn => ?_, rfl, rfl, rfl, by show w.heap.size <= (w.heap.push obj).size; simp, λ b hb _ => ?_, λ m p b t em f hb => ?_⟩
 . rw [T.get_set] at em; by_cases hm : m = c
   . rw [if_pos hm] at em; cases em; exact ⟨_, s, by rw [hm, Ren.put_same], ho⟩
   . rw [if_neg hm] at em; obtain ⟨b, t, f, g⟩ := r.lies m p em; exact ⟨b, t, hle _ _ f, OR.mono hle (Below.heap_alloc w obj b g.lt) g⟩
 . rw [T.get_set] at e1 e2; by_cases h1 : m1 = c
   . by_cases h2 : m2 = c
     . rw [h1, h2]
     . rw [if_neg h2] at e2; rw [h1, Ren.put_same] at f1; rw [Ren.put_other ρ _ h2] at f2; cases f1; exact absurd (hlt m2 _ _ _ e2 f2) (Nat.lt_irrefl _)
   . rw [if_neg h1] at e1; rw [Ren.put_other ρ _ h1] at f1; by_cases h2 : m2 = c
     . rw [h2, Ren.put_same] at f2; cases f2; exact absurd (hlt m1 _ _ _ e1 f1) (Nat.lt_irrefl _)
     . rw [if_neg h2] at e2; rw [Ren.put_other ρ _ h2] at f2; exact r.alone m1 m2 _ _ _ _ _ e1 e2 f1 f2
 . exact Ren.put_other ρ _ zO
 . exact Below.heap_alloc w obj b hb
 . rw [T.get_set] at em; by_cases hm : m = c
   . rw [hm, Ren.put_same] at f; cases f; exact absurd hb (Nat.lt_irrefl _)
   . rw [if_neg hm] at em; rw [Ren.put_other ρ _ hm] at f; exact ⟨m, p, t, em, f⟩
theorem Rel.kill {ρ : Ren} {h : H} {w : World} (r : Rel ρ h w) (n : Nat) : Rel ρ (h.set n none) w := by
 have key : ∀ m p, (h.set n none).get m = some p -> h.get m = some p := λ m p e => by
  rw [T.get_set] at e; by_cases hm : m = n
  . rw [if_pos hm] at e; cases e
  . rw [if_neg hm] at e; exact e
 exact ⟨λ m p e => r.lies m p (key m p e), λ m1 m2 p1 p2 b s t e1 e2 => r.alone m1 m2 p1 p2 b s t (key _ _ e1) (key _ _ e2)⟩
theorem Post.kill {ρ : Ren} {h : H} {w : World} (r : Rel ρ h w) (n c : Nat) : Post ρ h w c c ρ (h.set n none) w :=
 ⟨r.kill n, λ _ _ => rfl, rfl, rfl, rfl, Nat.le_refl _, λ _ _ _ => rfl, λ m o b s e f _ => by
   rw [T.get_set] at e
   by_cases hm : m = n
   . rw [if_pos hm] at e; cases e
   . rw [if_neg hm] at e; exact ⟨m, o, s, e, f⟩⟩
theorem Rel.reuse {ρ : Ren} {h : H} {w : World} (r : Rel ρ h w) {n c k : Nat} {cs vs : List AV} {l : List Value} (e : h.get n = some (.row cs)) (hc : ρ c = none) (hv : VRs ρ vs l) (hk : k <= cs.length) :
  ∃ b s, ρ n = some (b, s) /\ (k + l.length <= s -> Post ρ h w c (c + 1) (ρ.put c (b, s)) ((h.set n none).set c (some (.row (cs.take k ++ vs)))) (w.setCells b k l)) := by
 obtain ⟨b, s, f, arr, t, lo, hi, q, rest, h1, h2, h3, h4, h5⟩ := r.lies n _ e; refine ⟨b, s, f, λ hs => ?_⟩; have hle := Ren.le_put (b, s) hc; have hlen := h4.length; obtain ⟨arr', g1, g2, g3⟩ := gM b t (lo, hi) l k w arr h1 zO; obtain ⟨o1, o2, o3, o4⟩ := ix b l k w; have hnc : n ≠ c := λ he => by rw [<- he, f] at hc; cases hc
 have key : ∀ m p, m ≠ c -> ((h.set n none).set c (some (.row (cs.take k ++ vs)))).get m = some p -> h.get m = some p /\ m ≠ n := λ m p hm em => by
  rw [T.get_set, if_neg hm, T.get_set] at em; by_cases hn : m = n
  . rw [if_pos hn] at em; cases em
  . rw [if_neg hn] at em; exact ⟨em, hn⟩
 refine ⟨⟨λ m p em => ?_, λ m1 m2 p1 p2 b' s1 s2 e1 e2 f1 f2 => ?_⟩, λ m hm => Ren.put_other ρ _ zO, o1, o2, o3, Nat.le_of_eq o4.symm, λ b' hb hn => ?_, λ m p b' t' em f' hb => ?_⟩
 . by_cases hm : m = c
   . rw [T.get_set, if_pos hm] at em; cases em; refine ⟨b, s, by rw [hm, Ren.put_same], arr', t, lo, hi, q.take k ++ l, arr.toList.drop (k + l.length), g1, g2.trans h2, ?_, VRs.mono hle _ _ ((VRs.take _ h4).append hv), h5⟩; rw [g3, h3, List.take_append_of_le_length zO, List.append_assoc]
   . obtain ⟨em, hn⟩ := key m p hm em; obtain ⟨b', s', f', g⟩ := r.lies m p em; refine ⟨b', s', hle _ _ f', OR.mono hle (d9 b l k w b' λ eb => ?_) g⟩; subst eb; exact hn (r.alone m n _ _ _ _ _ em e f' f)
 . by_cases h1 : m1 = c
   . by_cases h2 : m2 = c
     . rw [h1, h2]
     . obtain ⟨e2, hn⟩ := key m2 _ h2 e2; rw [h1, Ren.put_same] at f1; rw [Ren.put_other ρ _ h2] at f2; cases f1; exact absurd (r.alone m2 n _ _ _ _ _ e2 e f2 f) hn
   . obtain ⟨e1, hn1⟩ := key m1 _ h1 e1; rw [Ren.put_other ρ _ h1] at f1; by_cases h2 : m2 = c
     . rw [h2, Ren.put_same] at f2; cases f2; exact absurd (r.alone m1 n _ _ _ _ _ e1 e f1 f) hn1
     . obtain ⟨e2, _⟩ := key m2 _ h2 e2; rw [Ren.put_other ρ _ h2] at f2; exact r.alone m1 m2 _ _ _ _ _ e1 e2 f1 f2
 . exact d9 b l k w b' λ eb => hn n _ s e (eb ▸ f)
 . by_cases hm : m = c
   . rw [hm, Ren.put_same] at f'; cases f'; exact ⟨n, _, s, e, f⟩
   . obtain ⟨em, _⟩ := key m p hm em; rw [Ren.put_other ρ _ hm] at f'; exact ⟨m, p, t', em, f'⟩
theorem Rel.setMap {ρ : Ren} {h : H} {w : World} (r : Rel ρ h w) {n c : Nat} {es es' : List (AV × AV × Nat)} {k k' : Nat} {a' : Array MapEntry} (e : h.get n = some (.mp es k)) (he : ERs ρ es' a'.toList) :
  ∃ b s a, ρ n = some (b, s) /\ w.heap[b]? = some (.map a k) /\ ERs ρ es a.toList /\ Post ρ h w c c ρ (h.set n (some (.mp es' k'))) { w with heap := w.heap.setIfInBounds b (.map a' k') } := by
 obtain ⟨b, s, f, a, h1, h2⟩ := r.lies n _ e; have hb : b < w.heap.size := OR.lt (ρ := ρ) (s := s) (o := .mp es k) ⟨a, h1, h2⟩; have key : ∀ m p, m ≠ n -> (h.set n (some (AO.mp es' k'))).get m = some p -> h.get m = some p := λ m p hm em => by rw [T.get_set, if_neg hm] at em; exact em
 have oth : ∀ b', b' ≠ b -> (w.heap.setIfInBounds b (Obj.map a' k'))[b']? = w.heap[b']? := λ b' hb' => Array.getElem?_setIfInBounds_ne (Ne.symm hb'); have lv : ∀ m p, (h.set n (some (AO.mp es' k'))).get m = some p -> ∃ q, h.get m = some q := λ m p em => by
  by_cases hm : m = n
  . exact ⟨_, hm ▸ e⟩
  . exact ⟨_, key m p hm em⟩
 refine ⟨b, s, a, f, h1, h2, ⟨⟨λ m p em => ?_, λ m1 m2 p1 p2 b' s1 s2 e1 e2 f1 f2 => ?_⟩, λ _ _ => rfl, rfl, rfl, rfl, by simp, λ b' _ hn => oth b' λ eb => hn n _ s e (eb ▸ f), λ m p b' t' em f' _ => ?_⟩⟩
 . by_cases hm : m = n
   . rw [T.get_set, if_pos hm] at em; cases em; exact ⟨b, s, hm ▸ f, a', by simp [hb], he⟩
   . have em := key m p hm em; obtain ⟨b', s', f', g⟩ := r.lies m p em; refine ⟨b', s', f', OR.mono (Ren.le_refl ρ) (oth b' λ eb => ?_) g⟩; subst eb; exact hm (r.alone m n _ _ _ _ _ em e f' f)
 . obtain ⟨_, l1⟩ := lv m1 _ e1; obtain ⟨_, l2⟩ := lv m2 _ e2; exact r.alone m1 m2 _ _ _ _ _ l1 l2 f1 f2
 . obtain ⟨_, l1⟩ := lv m _ em; exact ⟨m, _, _, l1, f'⟩
section
variable {α β : Type} {c c' : Nat} {h h' : H} {l : Log} {x : β}
theorem aS {a : α} {x : α} (e : M.pure a c h = .ok x c' h' l) : x = a /\ c' = c /\ h' = h /\ l = [] := by cases e; exact ⟨rfl, rfl, rfl, rfl⟩
theorem cS {f : α -> β} {m : M α} (e : M.map f m c h = .ok x c' h' l) : ∃ a, m c h = .ok a c' h' l /\ x = f a := by
 have e : Rs.rec (motive := λ _ => Rs β) .fail (λ a c h l => .ok (f a) c h l) (m c h) = .ok x c' h' l := e; cases k : m c h with
 | fail => rw [k] at e; cases e
 | ok a c1 h1 l1 => rw [k] at e; cases e; exact ⟨a, rfl, rfl⟩
theorem dy {m : M α} {k : α -> M β} (e : M.bind m k c h = .ok x c' h' l) : ∃ a c1 h1 l1 l2, m c h = .ok a c1 h1 l1 /\ k a c1 h1 = .ok x c' h' l2 /\ l = l1 ++ l2 := by
 have e : Rs.andThen k (m c h) = .ok x c' h' l := e; cases q : m c h with
 | fail => rw [q] at e; cases e
 | ok a c1 h1 l1 =>
   rw [q] at e; have e : Rs.rec (motive := λ _ => Rs β) .fail (λ b c h l2 => .ok b c h (List.append l1 l2)) (k a c1 h1) = .ok x c' h' l := e; cases r : k a c1 h1 with
   | fail => rw [r] at e; cases e
   | ok b c2 h2 l2 => rw [r] at e; cases e; exact ⟨a, c1, h1, l1, l2, rfl, r, rfl⟩
theorem dO {b : Bool} {m : M β} (e : ifB b m fail c h = .ok x c' h' l) : b = true /\ m c h = .ok x c' h' l := by
 cases b
 . cases e
 . exact ⟨rfl, e⟩
theorem bW {o : Option α} {k : α -> M β} (e : ifS fail k o c h = .ok x c' h' l) : ∃ a, o = some a /\ k a c h = .ok x c' h' l := by
 cases o with
 | none => cases e
 | some a => exact ⟨a, rfl, e⟩
theorem qr {o : List α} {k : α -> List α -> M β} (e : ifC fail k o c h = .ok x c' h' l) : ∃ a t, o = a :: t /\ k a t c h = .ok x c' h' l := by
 cases o with
 | nil => cases e
 | cons a t => exact ⟨a, t, rfl, e⟩
theorem DQ {o : Option β} (e : Iz o c h = .ok x c' h' l) : o = some x /\ c' = c /\ h' = h /\ l = [] := by
 cases o with
 | none => cases e
 | some a => cases e; exact ⟨rfl, rfl, rfl, rfl⟩
theorem nH {v : AV} {k : Bool -> M β} (e : onBool fail k v c h = .ok x c' h' l) : ∃ b, v = .bool b /\ k b c h = .ok x c' h' l := by cases v <;> first | exact ⟨_, rfl, e⟩ | cases e
theorem jY {v : AV} {k : IntKind -> Int -> M β} (e : onInt fail k v c h = .ok x c' h' l) : ∃ i n, v = .int i n /\ k i n c h = .ok x c' h' l := by cases v <;> first | exact ⟨_, _, rfl, e⟩ | cases e
theorem iR {v : AV} {k : List Nat -> M β} (e : onStr fail k v c h = .ok x c' h' l) : ∃ b, v = .str b /\ k b c h = .ok x c' h' l := by cases v <;> first | exact ⟨_, rfl, e⟩ | cases e
theorem gN {v : AV} {k : Option (Nat × Nat) -> M β} (e : onPtr fail k v c h = .ok x c' h' l) : ∃ b, v = .ptr b /\ k b c h = .ok x c' h' l := by cases v <;> first | exact ⟨_, rfl, e⟩ | cases e
theorem eU {v : AV} {k : Option (Nat × Nat) -> Nat -> Nat -> Nat -> M β} (e : onSlice fail k v c h = .ok x c' h' l) : ∃ a n m z, v = .slice a n m z /\ k a n m z c h = .ok x c' h' l := by cases v <;> first | exact ⟨_, _, _, _, rfl, e⟩ | cases e
theorem jX {v : AV} {k : Option Nat -> M β} (e : onMap fail k v c h = .ok x c' h' l) : ∃ b, v = .map b /\ k b c h = .ok x c' h' l := by cases v <;> first | exact ⟨_, rfl, e⟩ | cases e
theorem Ah {v : AV} {k : Nat -> List AV -> List AV -> M β} (e : onFn fail k v c h = .ok x c' h' l) : ∃ f a b, v = .fn f a b /\ k f a b c h = .ok x c' h' l := by cases v <;> first | exact ⟨_, _, _, rfl, e⟩ | cases e
theorem mz {v : AV} {k : List AV -> M β} (e : onAgg fail k v c h = .ok x c' h' l) : ∃ b, v = .agg b /\ k b c h = .ok x c' h' l := by cases v <;> first | exact ⟨_, rfl, e⟩ | cases e
theorem yi {v : AV} {k : List AV -> M β} (e : onTuple fail k v c h = .ok x c' h' l) : ∃ b, v = .tuple b /\ k b c h = .ok x c' h' l := by cases v <;> first | exact ⟨_, rfl, e⟩ | cases e
theorem yj {v : AV} {k : Nat -> AV -> M β} (e : onIface fail fail k v c h = .ok x c' h' l) : ∃ t u, v = .iface t u /\ k t u c h = .ok x c' h' l := by cases v <;> first | exact ⟨_, _, rfl, e⟩ | cases e
theorem DO {v : Int} {k : Nat -> M β} (e : onNat fail k v c h = .ok x c' h' l) : ∃ n : Nat, v = .ofNat n /\ k n c h = .ok x c' h' l := by cases v <;> first | exact ⟨_, rfl, e⟩ | cases e
theorem ah {o : Option α} {k : α -> Option β} (e : ifS none k o = some x) : ∃ a, o = some a /\ k a = some x := by
 cases o with
 | none => cases e
 | some a => exact ⟨a, rfl, e⟩
theorem dP {b : Bool} {m : Option β} (e : ifB b m none = some x) : b = true /\ m = some x := by
 cases b
 . cases e
 . exact ⟨rfl, e⟩
end
def ER (ρ : Ren) (e : Env) (tmps : Array Value) : Prop := ∀ t, VR ρ (e.get t) (tmps.getD t undef)
theorem ER.mono {ρ σ : Ren} (k : Ren.le ρ σ) {e : Env} {tmps : Array Value} (h : ER ρ e tmps) : ER σ e tmps := λ t => VR.mono k _ _ (h t)
theorem VR.undefA (ρ : Ren) : VR ρ undefA undef := by
 show VR ρ (.tuple []) (.tuple #[]); simp only [VR]; exact ⟨#[], rfl, by simp [VRs]⟩
theorem DP (ρ : Ren) {v : Value} {a : AV} (e : ofS v = some a) : VR ρ a v := by
 unfold ofS at e; split at e <;> (try cases e) <;> simp [VR, VRs]
theorem Ba (ρ : Ren) : ∀ {l : List Value} {r : List AV}, iF ofS l = some r -> VRs ρ r l
 | [], _, e => by cases e; exact VRs.nil ρ
 | v :: l, r, e => by
   have e : ifS none (λ b => ifS none (λ r => some (b :: r)) (iF ofS l)) (ofS v) = some r := e
   obtain ⟨b, h1, e⟩ := ah e
   obtain ⟨q, h2, e⟩ := ah e
   cases e
   exact VRs.cons (DP ρ h1) (Ba ρ h2)
theorem jb (ρ : Ren) {v : Value} {a : AV} (e : ofV v = some a) : VR ρ a v := by
 unfold ofV at e; split at e
 . obtain ⟨r, h1, e⟩ := ah e; cases e; simp only [VR]; exact ⟨_, rfl, Ba ρ h1⟩
 . cases e; exact VR.undefA ρ
 . exact DP ρ e
theorem aO {ρ : Ren} {e : Env} {a : Act} (h : ER ρ e a.tmps) {x : Operand} {y : Opd} (k : aW x = some y) : VR ρ (ev e y) (a.eval x) := by
 unfold aW at k; split at k
 . cases k; exact h _
 . obtain ⟨v, h1, k⟩ := ah k; cases k; exact jb ρ h1
 . cases k
 . cases k; show VR ρ (.fn _ [] []) (.func (.func _) #[] #[]); simp [VR, VRs]
theorem lf {ρ : Ren} {e : Env} {a : Act} (h : ER ρ e a.tmps) : ∀ {l : List Operand} {r : List Opd}, iD l = some r -> VRs ρ (evs e r) (l.map a.eval)
 | [], _, k => by cases k; exact VRs.nil ρ
 | x :: l, r, k => by
   have k : ifS none (λ b => ifS none (λ r => some (b :: r)) (iD l)) (aW x) = some r := k
   obtain ⟨b, h1, k⟩ := ah k
   obtain ⟨q, h2, k⟩ := ah k
   cases k
   exact VRs.cons (aO h h1) (lf h h2)
theorem E9 {ρ : Ren} {e : Env} {a : Act} (h : ER ρ e a.tmps) {x : Option Operand} {y : Option Opd} (k : kj x = some y) : (x = none /\ y = none) ∨ ∃ x' y', x = some x' /\ y = some y' /\ VR ρ (ev e y') (a.eval x') := by
 cases x with
 | none => cases k; exact .inl ⟨rfl, rfl⟩
 | some x' =>
   obtain ⟨y', h1, k⟩ := ah (show ifS none (λ y => some (some y)) (aW x') = some y from k); cases k; exact .inr ⟨x', y', rfl, rfl, aO h h1⟩
def kH (P : Program) (call : Ctx) : Prop := ∀ f args c h v c' h' l, call f args c h = .ok v c' h' l -> (∀ (xs : Array Value) (w : World), (callFunc f xs).run P w = .ok (.enter f xs) w) /\ ∀ ρ w (xs : Array Value), Rel ρ h w -> VRs ρ args xs.toList -> lV ρ c c' ->
 Calls P f xs w λ e w' => ∃ v' ρ', e = .returned v' /\ VR ρ' v v' /\ Post ρ h w c c' ρ' h' w'
def bd (P : Program) (o : Oper) (f : Ev) : Prop := ∀ call, kH P call -> ∀ e c h v c' h' l, f call e c h = .ok v c' h' l -> ∀ ρ w (a : Act), Rel ρ h w -> ER ρ e a.tmps -> lV ρ c c' ->
 ∀ next Q, (∀ v' ρ' w', VR ρ' v v' -> Post ρ h w c c' ρ' h' w' -> next (a.put o.dst v') w') -> o.wp P a w next Q
section
variable {P : Program} {o : Oper} {f : Ev}
theorem bd.of_val (k : ∀ call e c h v c' h' l, f call e c h = .ok v c' h' l -> c' = c /\ h' = h /\ ∀ ρ w (a : Act), Rel ρ h w -> ER ρ e a.tmps -> ∃ v', (execOp a.eval o).run P w = .ok (.value v') w /\ VR ρ v v') : bd P o f := by
 intro call _ e c h v c' h' l he ρ w a hr hE _ next Q hn; obtain ⟨rfl, rfl, k⟩ := k call e c h v c' h' l he; obtain ⟨v', hv, hV⟩ := k ρ w a hr hE; unfold Oper.wp; rw [hv]; exact hn v' ρ w hV (Post.refl hr)
theorem bd.of_run (k : ∀ call e c h v c' h' l, f call e c h = .ok v c' h' l -> ∀ ρ w (a : Act), Rel ρ h w -> ER ρ e a.tmps -> lV ρ c c' -> ∃ v' ρ' w', (execOp a.eval o).run P w = .ok (.value v') w' /\ VR ρ' v v' /\ Post ρ h w c c' ρ' h' w') : bd P o f := by
 intro call _ e c h v c' h' l he ρ w a hr hE hf next Q hn; obtain ⟨v', ρ', w', hv, hV, hp⟩ := k call e c h v c' h' l he ρ w a hr hE hf; unfold Oper.wp; rw [hv]; exact hn v' ρ' w' hV hp
theorem bd.of_skip (k : ∀ call e c h v c' h' l, f call e c h = .ok v c' h' l -> v = undefA /\ ∀ ρ w (a : Act), Rel ρ h w -> ER ρ e a.tmps -> lV ρ c c' -> ∃ ρ' w', (execOp a.eval o).run P w = .ok .skip w' /\ Post ρ h w c c' ρ' h' w') : bd P o f := by
 intro call _ e c h v c' h' l he ρ w a hr hE hf next Q hn; obtain ⟨rfl, k⟩ := k call e c h v c' h' l he; obtain ⟨ρ', w', hv, hp⟩ := k ρ w a hr hE hf; unfold Oper.wp; rw [hv]; exact hn undef ρ' w' (VR.undefA ρ') hp
end
section
variable {P : Program} {w : World}
theorem bF {s : Sem Value} {v : Value} {w' : World} (h : s.run P w = .ok v w') : (do pure (Next.value (<- s)) : Sem Next).run P w = .ok (.value v) w' := by
 simp [h, Result.andThen]
theorem aB {t : TypeId} {d : TypeDesc} (h : P.underlying t = some d) : (underlying t).run P w = .ok d w := by
 simp [underlying, h]
theorem da {t : TypeId} {i : TypeInfo} (h : P.info? t = some i) : (typeInfo t).run P w = .ok i w := by
 simp [typeInfo, h]
theorem cH {t : TypeId} {n : Nat} (h : cG P t = some n) : (sizeOf t).run P w = .ok n w := by
 obtain ⟨i, h1, h2⟩ := ah h; cases h2; simp [sizeOf, da h1]
theorem fI {t : TypeId} {b : Bool} (h : kD P t = some b) : (isAgg t).run P w = .ok b w := by
 obtain ⟨d, h1, h2⟩ := ah h; cases h2; simp only [isAgg, Sem.run_bind, aB h1, Result.andThen]; unfold Ef; split <;> simp_all
theorem fF {t : TypeId} {z : AV} (h : cX P t = some z) : ∃ i v, P.info? t = some i /\ i.zero = some v /\ ofV v = some z /\ z.cells.length = i.size /\ i.bytes <= 1048576 := by
 obtain ⟨i, h1, h⟩ := ah h; obtain ⟨v, h2, h⟩ := ah h; obtain ⟨z', h3, h⟩ := ah h; obtain ⟨hb, h⟩ := dP h; cases h; cases h4 : Nat.beq (len z.cells) i.size with
 | false => rw [h4] at hb; cases hb
 | true =>
   rw [h4] at hb; have h5 : Nat.ble i.bytes 1048576 = true := hb; exact ⟨i, v, h1, h2, h3, by rw [<- len_eq]; exact Nat.eq_of_beq_eq_true h4, Nat.le_of_ble_eq_true h5⟩
theorem jQ {t : TypeId} {z : AV} (h : cX P t = some z) (ρ : Ren) : ∃ v, (zeroValue t).run P w = .ok v w /\ VR ρ z v /\ VRs ρ z.cells v.cells.toList := by
 obtain ⟨i, v, h1, h2, h3, _, _⟩ := fF h; refine ⟨v, ?_, jb ρ h3, (jb ρ h3).cells⟩; simp [zeroValue, da h1, h2]
end
section
variable {P : Program} {o : Oper}
theorem Ae {x : Operand} {y : Opd} (ho : o.op = .move x ∨ o.op = .assign x) (k : aW x = some y) : bd P o (sd y) := by
 refine bd.of_val λ call e c h v c' h' l he => ?_; obtain ⟨rfl, rfl, rfl, _⟩ := aS he; refine ⟨rfl, rfl, λ ρ w a _ hE => ⟨_, ?_, aO hE k⟩⟩; rcases ho with ho | ho <;> simp [execOp, ho]
theorem Gj {x y z : Operand} {x' y' z' : Opd} (ho : o.op = .pick x y z) (kx : aW x = some x') (ky : aW y = some y') (kz : aW z = some z') : bd P o (Al x' y' z') := by
 refine bd.of_val λ call e c h v c' h' l he => ?_; obtain ⟨b, hb, he⟩ := nH he; obtain ⟨rfl, rfl, rfl, _⟩ := aS he; refine ⟨rfl, rfl, λ ρ w a _ hE => ?_⟩; have hx := aO hE kx; rw [hb] at hx; simp only [VR] at hx; cases b
 . exact ⟨_, by simp [execOp, ho, hx, asBool], aO hE kz⟩
 . exact ⟨_, by simp [execOp, ho, hx, asBool], aO hE ky⟩
theorem vp {x : Operand} {y : Opd} (ho : o.op = .nilCheck x) (k : aW x = some y) : bd P o (kP y) := by
 refine bd.of_val λ call e c h v c' h' l he => ?_; obtain ⟨b, hb, he⟩ := gN he; obtain ⟨p, rfl, he⟩ := bW he; obtain ⟨rfl, rfl, rfl, _⟩ := aS he; refine ⟨rfl, rfl, λ ρ w a _ hE => ?_⟩; have hx := aO hE k; rw [hb] at hx; have hx' := hx; simp only [VR] at hx'; obtain ⟨b, z, _, hv⟩ := hx'; exact ⟨_, by simp [execOp, ho, hv], hx⟩
theorem DG {x : Operand} {y : Opd} {t : TypeId} (ho : o.op = .makeInterface t x) (k : aW x = some y) (hp : nE P t = true) : bd P o (tA t y) := by
 have hd : ∃ d, P.underlying t = some d /\ ∀ m, d ≠ .interface m := by
  unfold nE at hp; split at hp
  . cases hp
  . rename_i d hn hd; exact ⟨d, hd, λ m e => hn m e⟩
  . cases hp
 obtain ⟨d, hd, hi⟩ := hd; refine bd.of_val λ call e c h v c' h' l he => ?_; obtain ⟨rfl, rfl, rfl, _⟩ := aS he; refine ⟨rfl, rfl, λ ρ w a _ hE => ⟨.iface t (a.eval x), ?_, ?_⟩⟩
 . simp only [execOp, ho]; refine bF ?_; simp only [Instr.makeInterface, Sem.run_bind, aB hd, Result.andThen]; cases d <;> first | rfl | exact absurd rfl (hi _)
 . simp only [VR]; exact ⟨_, rfl, aO hE k⟩
theorem Gk {f : FuncId} {x y : Array Operand} {x' y' : List Opd} (ho : o.op = .makeFunc (.func f) x y) (kx : iD x.toList = some x') (ky : iD y.toList = some y') : bd P o (Am f x' y') := by
 refine bd.of_val λ call e c h v c' h' l he => ?_; obtain ⟨rfl, rfl, rfl, _⟩ := aS he; refine ⟨rfl, rfl, λ ρ w a _ hE => ⟨.func (.func f) (x.map a.eval) (y.map a.eval), ?_, ?_⟩⟩
 . simp [execOp, ho, Instr.makeFunc]
 . simp only [VR]; exact ⟨_, _, rfl, by rw [Array.toList_map]; exact lf hE kx, by rw [Array.toList_map]; exact lf hE ky⟩
theorem VRs.head_drop {ρ : Ren} {l : List AV} {r : List Value} (h : VRs ρ l r) {n : Nat} {v : AV} {t : List AV} (e : dropN n l = v :: t) : ∃ u, r[n]? = some u /\ VR ρ v u := by
 rw [dropN_eq] at e; have : l[n]? = some v := by
  have := congrArg List.head? e; simpa [List.head?_drop] using this
 exact h.get this
theorem yf {x : Operand} {y : Opd} {i : Nat} (ho : o.op = .extract x i) (k : aW x = some y) : bd P o (mF y i) := by
 refine bd.of_val λ call e c h v c' h' l he => ?_; obtain ⟨b, hb, he⟩ := yi he; obtain ⟨u, t, hd, he⟩ := qr he; obtain ⟨rfl, rfl, rfl, _⟩ := aS he; refine ⟨rfl, rfl, λ ρ w a _ hE => ?_⟩; have hx := aO hE k; rw [hb] at hx; simp only [VR] at hx; obtain ⟨z, hz, hx⟩ := hx; obtain ⟨q, hq, hV⟩ := hx.head_drop hd; refine ⟨q, ?_, hV⟩; simp only [execOp, ho]; refine bF ?_; rw [Array.getElem?_toList] at hq; simp [Instr.extract, hz, hq]
theorem addr_add (b o n : Nat) : (⟨b, o, none⟩ : Addr).add n = ⟨b, o + n, none⟩ := by
 unfold Addr.add; split <;> simp_all
theorem kY {s : TypeId} {i : Nat} {f : Field} (h : kd P s i = some f) : ∃ fs, P.underlying s = some (.struct fs) /\ fs[i]? = some f := by
 unfold kd at h; split at h
 . rename_i fs e; exact ⟨fs, e, h⟩
 . cases h
theorem tq {x : Operand} {y : Opd} {s : TypeId} {i : Nat} {f : Field} (ho : o.op = .fieldAddr s x i) (k : aW x = some y) (hf : kd P s i = some f) {n : Nat} (hs : cG P f.type = some n) (hn : n ≠ 0) : bd P o (je f.offset y) := by
 refine bd.of_val λ call e c h v c' h' l he => ?_; obtain ⟨b, hb, he⟩ := gN he; obtain ⟨p, rfl, he⟩ := bW he; obtain ⟨rfl, rfl, rfl, _⟩ := aS he; refine ⟨rfl, rfl, λ ρ w a _ hE => ?_⟩; have hx := aO hE k; rw [hb] at hx; simp only [VR] at hx; obtain ⟨b, z, hz, hv⟩ := hx; obtain ⟨fs, h1, h2⟩ := kY hf; refine ⟨.pointer (some ⟨b, p.2 + f.offset, none⟩), ?_, ?_⟩
 . simp only [execOp, ho]; refine bF ?_; simp [Instr.fieldAt, aB h1, h2, hv, Instr.sureAddr, fieldPlace, cH hs, hn, addr_add]
 . simp only [VR]; exact ⟨b, z, hz, rfl⟩
theorem kM {t : TypeId} {w : World} {n : Nat} {l : List AV} {v : AV} {u : List AV} {r : Array Value} {ρ : Ren} (ha : kD P t = some false) (h : VRs ρ l r.toList) (e : dropN n l = v :: u) :
  ∃ q, (part t r n).run P w = .ok q w /\ VR ρ v q := by
 obtain ⟨q, hq, hV⟩ := h.head_drop e; rw [Array.getElem?_toList] at hq; exact ⟨q, by simp [part, fI ha, hq], hV⟩
theorem rR {t : TypeId} {w : World} {n m : Nat} {l u : List AV} {r : Array Value} {ρ : Ren} (ha : kD P t = some true) (hs : cG P t = some m) (h : VRs ρ l r.toList) (e : takeN m (dropN n l) = some u) :
  ∃ q, (part t r n).run P w = .ok q w /\ VR ρ (.agg u) q := by
 obtain ⟨rfl, _⟩ := takeN_eq _ _ _ e; rw [dropN_eq]; refine ⟨.agg (r.extract n (n + m)), by simp [part, fI ha, cH hs], ?_⟩; simp only [VR]; refine ⟨_, rfl, ?_⟩; have := VRs.take m (VRs.drop n h); rw [Array.toList_extract, List.extract_eq_take_drop]; rwa [Nat.add_sub_cancel_left]
theorem BO {x : Operand} {y : Opd} {s : TypeId} {i : Nat} {f : Field} (ho : o.op = .field s x i) (k : aW x = some y) (hf : kd P s i = some f) (ha : kD P f.type = some false) : bd P o (o8 f.offset y) := by
 refine bd.of_val λ call e c h v c' h' l he => ?_; obtain ⟨b, hb, he⟩ := mz he; obtain ⟨u, t, hd, he⟩ := qr he; obtain ⟨rfl, rfl, rfl, _⟩ := aS he; refine ⟨rfl, rfl, λ ρ w a _ hE => ?_⟩; have hx := aO hE k; rw [hb] at hx; simp only [VR] at hx; obtain ⟨z, hz, hx⟩ := hx; obtain ⟨fs, h1, h2⟩ := kY hf; obtain ⟨q, hq, hV⟩ := kM (w := w) ha hx hd; refine ⟨q, ?_, hV⟩; simp only [execOp, ho]; refine bF ?_; simp [Instr.field, aB h1, h2, hz, asAgg, hq]
theorem BL {x : Operand} {y : Opd} {s : TypeId} {i n : Nat} {f : Field} (ho : o.op = .field s x i) (k : aW x = some y) (hf : kd P s i = some f) (ha : kD P f.type = some true) (hs : cG P f.type = some n) : bd P o (jd f.offset n y) := by
 refine bd.of_val λ call e c h v c' h' l he => ?_; obtain ⟨b, hb, he⟩ := mz he; obtain ⟨u, hd, he⟩ := bW he; obtain ⟨rfl, rfl, rfl, _⟩ := aS he; refine ⟨rfl, rfl, λ ρ w a _ hE => ?_⟩; have hx := aO hE k; rw [hb] at hx; simp only [VR] at hx; obtain ⟨z, hz, hx⟩ := hx; obtain ⟨fs, h1, h2⟩ := kY hf; obtain ⟨q, hq, hV⟩ := rR (w := w) ha hs hx hd; refine ⟨q, ?_, hV⟩; simp only [execOp, ho]; refine bF ?_; simp [Instr.field, aB h1, h2, hz, asAgg, hq]
end
section
variable {P : Program} {o : Oper}
theorem Dz (k : IntKind) : (128 : Int) <= 2 ^ k.bits /\ (k.signed = true -> (128 : Int) <= 2 ^ (k.bits - 1)) := by cases k <;> decide
theorem jJ (k : IntKind) (n : Int) : rA k n = k.wrap n := by
 cases n with
 | negSucc m => rfl
 | ofNat m =>
   show ifB (Nat.blt m 128) (.ofNat m) (k.wrap (.ofNat m)) = _; cases h : Nat.blt m 128 with
   | false => rfl
   | true =>
     have hm : m < 128 := (by simpa [Nat.blt_eq] using h); obtain ⟨h1, h2⟩ := Dz k; have e : (Int.ofNat m) % 2 ^ k.bits = Int.ofNat m := Int.emod_eq_of_lt (Int.natCast_nonneg m) (Int.lt_of_lt_of_le (Int.ofNat_lt.2 hm) h1); show (Int.ofNat m) = _; simp only [IntKind.wrap, e]; split
     . rename_i hc; simp only [Bool.and_eq_true, decide_eq_true_eq] at hc; have := Int.lt_of_lt_of_le (Int.ofNat_lt.2 hm) (h2 hc.1); exact absurd hc.2 (Int.not_le.2 this)
     . rfl
theorem eD (m n : Nat) : Nat.blt m n = decide (m < n) := by
 rw [Bool.eq_iff_iff]; simp [Nat.blt_eq]
theorem qE (a b : Int) : eqI a b = (a == b) := by
 cases a with
 | ofNat m =>
   cases b with
   | ofNat n =>
     show Nat.beq m n = _; by_cases e : m = n
     . subst e; simp
     . rw [beq_eq_false_iff_ne.2 (λ q => e (Int.ofNat.inj q))]; exact Bool.eq_false_iff.2 λ q => e (Nat.eq_of_beq_eq_true q)
   | negSucc n => rfl
 | negSucc m =>
   cases b with
   | ofNat n => rfl
   | negSucc n =>
     show Nat.beq m n = _; by_cases e : m = n
     . subst e; simp
     . rw [beq_eq_false_iff_ne.2 (λ q => e (Int.negSucc.inj q))]; exact Bool.eq_false_iff.2 λ q => e (Nat.eq_of_beq_eq_true q)
theorem jg (a b : Int) : ltI a b = decide (a < b) := by
 cases a with
 | ofNat m =>
   cases b with
   | ofNat n =>
     show Nat.blt m n = decide ((m : Int) < (n : Int)); simp only [eD, Int.ofNat_lt]
   | negSucc n =>
     show false = decide ((m : Int) < Int.negSucc n); exact (decide_eq_false zO).symm
 | negSucc m =>
   cases b with
   | ofNat n =>
     show true = decide (Int.negSucc m < (n : Int)); exact (decide_eq_true zO).symm
   | negSucc n =>
     show Nat.blt n m = decide (Int.negSucc m < Int.negSucc n); rw [eD]; exact decide_eq_decide.2 zO
theorem EB : ∀ (x y : List Nat), eqS x y = decide (x = y)
 | [], [] => rfl
 | [], _ :: _ => rfl
 | _ :: _, [] => rfl
 | a :: x, b :: y => by
   show ifB (Nat.beq a b) (eqS x y) false = _
   rw [EB x y]
   cases h : Nat.beq a b with
   | true => rw [Nat.eq_of_beq_eq_true h]; simp [ifB]
   | false =>
     have : a ≠ b := λ e => by subst e; simp at h
     simp [ifB, this]
theorem D0 : ∀ (x y : List UInt8), ltS (x.map UInt8.toNat) (y.map UInt8.toNat) = Op.bytesLess x y
 | [], [] => rfl
 | [], _ :: _ => rfl
 | _ :: _, [] => rfl
 | a :: x, b :: y => by
   show ifB (Nat.blt a.toNat b.toNat) true (ifB (Nat.beq a.toNat b.toNat) (ltS (x.map UInt8.toNat) (y.map UInt8.toNat)) false) = (a < b || (a == b && Op.bytesLess x y))
   rw [D0 x y, eD]
   by_cases h : a.toNat < b.toNat
   . rw [decide_eq_true h]
     have : a < b := UInt8.lt_iff_toNat_lt.2 h
     simp [ifB, this]
   . rw [decide_eq_false h]
     have : ¬ a < b := λ q => h (UInt8.lt_iff_toNat_lt.1 q)
     by_cases e : a = b
     . subst e; simp [ifB]
     . have e' : Nat.beq a.toNat b.toNat = false := Bool.eq_false_iff.2 λ q => e (UInt8.toNat_inj.1 (Nat.eq_of_beq_eq_true q))
       rw [e']
       simp [ifB, this, e]
theorem str_eq {b d : ByteArray} {s u : List Nat} (h1 : b.data.toList.map UInt8.toNat = s) (h2 : d.data.toList.map UInt8.toNat = u) : eqS s u = (b.toList == d.toList) := by
 rw [EB, ByteArray.toList_eq, ByteArray.toList_eq, <- h1, <- h2]; by_cases e : b.data.toList = d.data.toList
 . rw [e]; simp
 . rw [beq_eq_false_iff_ne.2 e]; exact decide_eq_false λ q => e ((List.map_inj_right (λ _ _ h => UInt8.toNat_inj.1 h)).1 q)
theorem IS {b d : ByteArray} {s u : List Nat} (h1 : b.data.toList.map UInt8.toNat = s) (h2 : d.data.toList.map UInt8.toNat = u) : ltS s u = Op.bytesLess b.toList d.toList := by
 rw [ByteArray.toList_eq, ByteArray.toList_eq, <- h1, <- h2, D0]
theorem kJ {b : ByteArray} {s : List Nat} (h1 : b.data.toList.map UInt8.toNat = s) : b.size = s.length := by
 rw [<- h1, List.length_map]; rfl
theorem gR {α : Type} {b : Bool} {x : Option α} {r : α} (h : ifB b none x = some r) : b = false /\ x = some r := by
 cases b
 . exact ⟨rfl, h⟩
 . cases h
theorem VR.int (ρ : Ren) (k : IntKind) (n : Int) : VR ρ (.int k n) (.int k n) := by simp only [VR]
theorem VR.bool (ρ : Ren) (b : Bool) : VR ρ (.bool b) (.bool b) := by simp only [VR]
theorem xQ {op : BinOp} {t : TypeId} {k : IntKind} {a b : Int} {r : AV} {w : World} (ρ : Ren) (h : yJ op k a b = some r) : ∃ v, (binOp op t (.int k a) (.int k b)).run P w = .ok v w /\ VR ρ r v := by
 cases op with
 | add => cases h; exact ⟨_, by simp [binOp, Op.intArith]; rfl, by rw [jJ]; exact VR.int ρ k _⟩
 | sub => cases h; exact ⟨_, by simp [binOp, Op.intArith]; rfl, by rw [jJ]; exact VR.int ρ k _⟩
 | mul => cases h; exact ⟨_, by simp [binOp, Op.intArith]; rfl, by rw [jJ]; exact VR.int ρ k _⟩
 | quo =>
   obtain ⟨h0, h⟩ := gR h; cases h; rw [qE] at h0; have : b ≠ 0 := λ e => by subst e; cases h0
   exact ⟨_, by simp [binOp, Op.intDiv, this], VR.int ρ k _⟩
 | rem =>
   obtain ⟨h0, h⟩ := gR h; cases h; rw [qE] at h0; have : b ≠ 0 := λ e => by subst e; cases h0
   exact ⟨_, by simp [binOp, Op.intDiv, this], VR.int ρ k _⟩
 | and => cases h; exact ⟨_, by simp [binOp, Op.intBits], VR.int ρ k _⟩
 | or => cases h; exact ⟨_, by simp [binOp, Op.intBits], VR.int ρ k _⟩
 | xor => cases h
 | shl =>
   obtain ⟨h0, h⟩ := gR h; cases h; rw [jg] at h0; have : ¬ b < 0 := of_decide_eq_false h0; exact ⟨_, by simp [binOp, Op.shift, this], VR.int ρ k _⟩
 | shr =>
   obtain ⟨h0, h⟩ := gR h; cases h; rw [jg] at h0; have : ¬ b < 0 := of_decide_eq_false h0; exact ⟨_, by simp [binOp, Op.shift, this], VR.int ρ k _⟩
 | andNot => cases h
 | eql => cases h; exact ⟨_, by simp [binOp, Op.intCmp]; rfl, by rw [qE]; exact VR.bool ρ _⟩
 | neq => cases h; exact ⟨_, by simp [binOp, Op.intCmp]; rfl, by rw [qE]; exact VR.bool ρ _⟩
 | lss => cases h; exact ⟨_, by simp [binOp, Op.intCmp]; rfl, by rw [jg]; exact VR.bool ρ _⟩
 | leq => cases h; exact ⟨_, by simp [binOp, Op.intCmp]; rfl, by rw [jg, <- decide_not]; simp only [Int.not_lt]; exact VR.bool ρ _⟩
 | gtr => cases h; exact ⟨_, by simp [binOp, Op.intCmp]; rfl, by rw [jg]; exact VR.bool ρ _⟩
 | geq => cases h; exact ⟨_, by simp [binOp, Op.intCmp]; rfl, by rw [jg, <- decide_not]; simp only [Int.not_lt]; exact VR.bool ρ _⟩
theorem Bz {op : BinOp} {t : TypeId} {k j : IntKind} {a b : Int} {r : AV} {w : World} (ρ : Ren) (h : Dq op k a b = some r) : ∃ v, (binOp op t (.int k a) (.int j b)).run P w = .ok v w /\ VR ρ r v := by
 cases op <;> first
  | (cases h; done)
  | (obtain ⟨h0, h⟩ := gR h; cases h; rw [jg] at h0; have : ¬ b < 0 := of_decide_eq_false h0; exact ⟨_, by simp [binOp, Op.shift, this], VR.int ρ k _⟩)
theorem xO {op : BinOp} {t : TypeId} {a b : ByteArray} {s u : List Nat} {r : AV} {w : World} (ρ : Ren) (h1 : a.data.toList.map UInt8.toNat = s) (h2 : b.data.toList.map UInt8.toNat = u) (h : De op s u = some r) :
  ∃ v, (binOp op t (.string a) (.string b)).run P w = .ok v w /\ VR ρ r v := by
 have he := str_eq h1 h2; have hl := IS h1 h2; have hb : ∀ p q : Bool, (p || q) = ifB p true q := λ p q => by cases p <;> rfl
 cases op with
 | add =>
   obtain ⟨hs, h⟩ := dP h; cases h; have hz : ¬ ((a.size + b.size : Nat) : Int) > IntKind.i64.max := by
    have h3 := kJ h1; have h4 := kJ h2; have h5 := Nat.le_of_ble_eq_true hs; rw [len_eq, len_eq] at h5; have h6 : IntKind.i64.max = 9223372036854775807 := rfl; rw [h6, h3, h4]; have h7 : s.length + u.length <= 1048576 := h5; omega
   refine ⟨.string (a ++ b), by simp only [binOp, Op.stringOp]; rw [if_neg hz]; rfl, ?_⟩; simp only [VR]; refine ⟨_, rfl, ?_⟩; rw [<- h1, <- h2]; show (a ++ b).data.toList.map _ = List.append _ _; simp
 | eql => cases h; exact ⟨_, rfl, by rw [he]; exact VR.bool ρ _⟩
 | neq => cases h; exact ⟨_, rfl, by rw [he]; exact VR.bool ρ _⟩
 | lss => cases h; exact ⟨_, rfl, by rw [hl]; exact VR.bool ρ _⟩
 | leq => cases h; exact ⟨_, rfl, by rw [hl, he, <- hb]; exact VR.bool ρ _⟩
 | gtr => cases h; exact ⟨_, rfl, by rw [hl, he, <- hb]; exact VR.bool ρ _⟩
 | geq => cases h; exact ⟨_, rfl, by rw [hl]; exact VR.bool ρ _⟩
 | _ => cases h
theorem Az {k j : IntKind} (h : Nat.beq (lq k) (lq j) = true) : k = j := by
 cases k <;> cases j <;> first | rfl | cases h
theorem I8 {op : BinOp} {t t' : TypeId} {x y : Operand} {x' y' : Opd} (ho : o.op = .binOp op t x y t') (kx : aW x = some x') (ky : aW y = some y') : bd P o (Gw op x' y') := by
 refine bd.of_val λ call e c h v c' h' l he => ?_; obtain ⟨he, rfl, rfl, _⟩ := DQ he; refine ⟨rfl, rfl, λ ρ w a _ hE => ?_⟩; have hx := aO hE kx; have hy := aO hE ky; have key : ∃ v', (binOp op t (a.eval x) (a.eval y)).run P w = .ok v' w /\ VR ρ v v' /\ (∀ q, a.eval x ≠ .agg q) /\ a.eval x ≠ .nilIface := by
  generalize ev e x' = p at *; generalize ev e y' = q at *; cases p with
  | int k m =>
    cases q with
    | int j n =>
      simp only [VR] at hx hy; rw [hx, hy]; have he : ifB (Nat.beq (lq k) (lq j)) (yJ op k m n) (Dq op k m n) = some v := he; cases hk : Nat.beq (lq k) (lq j) with
      | true =>
        rw [hk] at he; obtain ⟨v', h1, h2⟩ := xQ (P := P) (t := t) (w := w) ρ he; rw [<- Az hk]; exact ⟨v', h1, h2, by simp, by simp⟩
      | false =>
        rw [hk] at he; obtain ⟨v', h1, h2⟩ := Bz (P := P) (t := t) (w := w) (j := j) ρ he; exact ⟨v', h1, h2, by simp, by simp⟩
    | _ => cases he
  | str s =>
    cases q with
    | str u =>
      simp only [VR] at hx hy; obtain ⟨b1, hx, h1⟩ := hx; obtain ⟨b2, hy, h2⟩ := hy; rw [hx, hy]; obtain ⟨v', h3, h4⟩ := xO (P := P) (t := t) (w := w) ρ h1 h2 he; exact ⟨v', h3, h4, by simp, by simp⟩
    | _ => cases he
  | _ => cases he
 obtain ⟨v', h1, h2, h3, h4⟩ := key; refine ⟨v', ?_, h2⟩; simp only [execOp, ho]; refine bF ?_; have hg : (eqGuard op t x y (a.eval x) (a.eval y)).run P w = .ok () w := by
  unfold eqGuard; split <;> simp_all
 simp only [Sem.run_bind, hg, Result.andThen]; exact h1
end
section
variable {P : Program} {o : Oper}
theorem I3 {t : TypeId} {x : Operand} {y : Opd} (ho : o.op = .unOp .not t x) (k : aW x = some y) : bd P o (Gr y) := by
 refine bd.of_val λ call e c h v c' h' l he => ?_; obtain ⟨b, hb, he⟩ := nH he; obtain ⟨rfl, rfl, rfl, _⟩ := aS he; refine ⟨rfl, rfl, λ ρ w a _ hE => ?_⟩; have hx := aO hE k; rw [hb] at hx; simp only [VR] at hx; exact ⟨_, by simp [execOp, ho, hx, Op.unary], VR.bool ρ _⟩
theorem I4 {t : TypeId} {x : Operand} {y : Opd} (ho : o.op = .unOp .neg t x) (k : aW x = some y) : bd P o (Gs y) := by
 refine bd.of_val λ call e c h v c' h' l he => ?_; obtain ⟨b, n, hb, he⟩ := jY he; obtain ⟨rfl, rfl, rfl, _⟩ := aS he; refine ⟨rfl, rfl, λ ρ w a _ hE => ?_⟩; have hx := aO hE k; rw [hb] at hx; simp only [VR] at hx; exact ⟨.int b (b.wrap (0 - n)), by simp [execOp, ho, hx, Op.unary, Op.intArith], by rw [jJ]; exact VR.int ρ b _⟩
theorem Gm {s d : TypeId} {i j : IntKind} {x : Operand} {y : Opd} (ho : o.op = .convert s d x) (k : aW x = some y) (hs : P.underlying s = some (.int i)) (hd : P.underlying d = some (.int j)) : bd P o (Ao j y) := by
 refine bd.of_val λ call e c h v c' h' l he => ?_; obtain ⟨b, n, hb, he⟩ := jY he; obtain ⟨rfl, rfl, rfl, _⟩ := aS he; refine ⟨rfl, rfl, λ ρ w a _ hE => ?_⟩; have hx := aO hE k; rw [hb] at hx; simp only [VR] at hx; exact ⟨.int j (j.wrap n), by simp [execOp, ho, hx, convert, aB hs, aB hd, Conv.intToInt], by rw [jJ]; exact VR.int ρ j _⟩
theorem DH {s d : TypeId} {x : Operand} {y : Opd} (ho : o.op = .convert s d x) (k : aW x = some y) (hs : P.underlying s = some .string) (hd : P.underlying d = some .string) : bd P o (Ak y) := by
 refine bd.of_val λ call e c h v c' h' l he => ?_; obtain ⟨b, hb, he⟩ := iR he; obtain ⟨rfl, rfl, rfl, _⟩ := aS he; refine ⟨rfl, rfl, λ ρ w a _ hE => ?_⟩; have hx := aO hE k; rw [hb] at hx; have hx' := hx; simp only [VR] at hx'; obtain ⟨q, hq, _⟩ := hx'; exact ⟨_, by simp [execOp, ho, hq, convert, aB hs, aB hd], hq ▸ hx⟩
theorem tY : ∀ m : Nat, m < 128 -> (Utf8.encode m).data.toList.map UInt8.toNat = [m] := by decide +kernel
theorem I5 {s d : TypeId} {i : IntKind} {x : Operand} {y : Opd} (ho : o.op = .convert s d x) (k : aW x = some y) (hs : P.underlying s = some (.int i)) (hd : P.underlying d = some .string) : bd P o (Gt y) := by
 refine bd.of_val λ call e c h v c' h' l he => ?_; obtain ⟨b, n, hb, he⟩ := jY he; obtain ⟨m, rfl, he⟩ := DO he; obtain ⟨hm, he⟩ := dO he; obtain ⟨rfl, rfl, rfl, _⟩ := aS he; refine ⟨rfl, rfl, λ ρ w a _ hE => ?_⟩; have hx := aO hE k; rw [hb] at hx; simp only [VR] at hx; refine ⟨.string (Utf8.encode m), by simp [execOp, ho, hx, convert, aB hs, aB hd, Conv.intToString], ?_⟩; simp only [VR]; rw [eD] at hm; exact ⟨_, rfl, tY m (of_decide_eq_true hm)⟩
theorem qH : ∀ (n : Nat) (l : List Nat), EI n l = l.drop n
 | 0, _ => rfl
 | _ + 1, [] => rfl
 | n + 1, _ :: l => qH n l
theorem ux : ∀ (n : Nat) (l : List Nat), Iu n l = l.take n
 | 0, _ => rfl
 | _ + 1, [] => rfl
 | n + 1, a :: l => congrArg (a :: ·) (ux n l)
theorem jy {ρ : Ren} {v : AV} {u : Value} {n : Nat} (h : VR ρ v u) (e : asN v = some n) : ∃ k, u = .int k (n : Int) := by
 cases v with
 | int k m =>
   cases m with
   | ofNat m => cases e; simp only [VR] at h; exact ⟨k, h⟩
   | negSucc m => cases e
 | _ => cases e
theorem vt {t : TypeId} {x i : Operand} {x' i' : Opd} (ho : o.op = .index t x i) (kx : aW x = some x') (ki : aW i = some i') (ht : P.underlying t = some .string) : bd P o (kT x' i') := by
 refine bd.of_val λ call e c h v c' h' l he => ?_; obtain ⟨s, hs, he⟩ := iR he; obtain ⟨n, hn, he⟩ := bW he; obtain ⟨b, r, hd, he⟩ := qr he; obtain ⟨rfl, rfl, rfl, _⟩ := aS he; refine ⟨rfl, rfl, λ ρ w a _ hE => ?_⟩; have hx := aO hE kx; have hi := aO hE ki; obtain ⟨k, hi⟩ := jy hi hn; rw [hs] at hx; simp only [VR] at hx; obtain ⟨q, hq, hx⟩ := hx; refine ⟨.int .u8 b, ?_, VR.int ρ _ _⟩; simp only [execOp, ho]; refine bF ?_; rw [qH] at hd; have hb : s[n]? = some b := (by simpa [List.head?_drop] using congrArg List.head? hd); rw [<- hx, List.getElem?_map] at hb; cases hg : q.data.toList[n]? with
 | none => rw [hg] at hb; cases hb
 | some u =>
   rw [hg] at hb; have hu : u.toNat = b := (by simpa using hb); have hlt : n < q.data.toList.length := by
    rcases Nat.lt_or_ge n q.data.toList.length with hh | hh
    . exact hh
    . rw [List.getElem?_eq_none hh] at hg; cases hg
   have hq2 : q[n]? = some u := by
    rw [ByteArray.getElem?_lt' q n (show n < q.data.size by rw [<- Array.length_toList]; exact hlt)]; rw [List.getElem?_eq_getElem hlt] at hg; exact hg
   simp [Instr.index, hi, asIntOf, aB ht, hq, hq2, hu]
theorem Ea {size n : Nat} {p : Nat × Nat} {i : Option Nat} {c c' : Nat} {h h' : H} {l : Log} {v : AV} (e : ixA size n p i c h = .ok v c' h' l) : ∃ m, i = some m /\ m < n /\ v = .ptr (some (p.1, p.2 + m * size)) /\ c' = c /\ h' = h := by
 obtain ⟨m, rfl, e⟩ := bW e; obtain ⟨hm, e⟩ := dO e; obtain ⟨rfl, rfl, rfl, _⟩ := aS e; rw [eD] at hm; exact ⟨m, rfl, of_decide_eq_true hm, rfl, rfl, rfl⟩
theorem yb {t el : TypeId} {z : Nat} {x i : Operand} {x' i' : Opd} (ho : o.op = .indexAddr t x i) (kx : aW x = some x') (ki : aW i = some i') (ht : P.underlying t = some (.slice el)) (hz : cG P el = some z) : bd P o (mC z x' i') := by
 refine bd.of_val λ call e c h v c' h' l he => ?_; obtain ⟨p, n, m, q, hs, he⟩ := eU he; obtain ⟨p, rfl, he⟩ := bW he; obtain ⟨i0, hi0, hlt, rfl, rfl, rfl⟩ := Ea he; refine ⟨rfl, rfl, λ ρ w a _ hE => ?_⟩; have hx := aO hE kx; have hi := aO hE ki; obtain ⟨k, hi⟩ := jy hi hi0; rw [hs] at hx; simp only [VR] at hx; obtain ⟨b, s, o', k', h1, h2, h3, h4, h5, h6, _⟩ := hx; have h5 : o' = p.2 := by
  rcases h5 with h5 | h5
  . omega
  . exact h5
 subst h5; refine ⟨.pointer (some ⟨b, p.2 + i0 * z, none⟩), ?_, ?_⟩
 . simp only [execOp, ho]; refine bF ?_; have hc : (0 : Int) <= (i0 : Int) /\ (i0 : Int) < (n : Int) := ⟨by omega, by omega⟩; simp [Instr.indexAt, hi, asIntOf, aB ht, h2, cH hz, addr_add, hlt]
 . simp only [VR]; exact ⟨b, s, h1, rfl⟩
theorem ye {t el : TypeId} {n z : Nat} {x i : Operand} {x' i' : Opd} (ho : o.op = .indexAddr t x i) (kx : aW x = some x') (ki : aW i = some i') (ht : P.underlying t = some (.array n el)) (hz : cG P el = some z) : bd P o (mD n z x' i') := by
 refine bd.of_val λ call e c h v c' h' l he => ?_; obtain ⟨p, hs, he⟩ := gN he; obtain ⟨p, rfl, he⟩ := bW he; obtain ⟨i0, hi0, hlt, rfl, rfl, rfl⟩ := Ea he; refine ⟨rfl, rfl, λ ρ w a _ hE => ?_⟩; have hx := aO hE kx; have hi := aO hE ki; obtain ⟨k, hi⟩ := jy hi hi0; rw [hs] at hx; simp only [VR] at hx; obtain ⟨b, s, h1, h2⟩ := hx; refine ⟨.pointer (some ⟨b, p.2 + i0 * z, none⟩), ?_, ?_⟩
 . simp only [execOp, ho]; refine bF ?_; simp [Instr.indexAt, hi, asIntOf, aB ht, h2, cH hz, addr_add, hlt, Instr.sureAddr]
 . simp only [VR]; exact ⟨b, s, h1, rfl⟩
theorem vr {t el : TypeId} {n z : Nat} {g : Bool} {x i : Operand} {x' i' : Opd} (ho : o.op = .index t x i) (kx : aW x = some x') (ki : aW i = some i') (ht : P.underlying t = some (.array n el)) (hz : cG P el = some z) (hg : kD P el = some g) : bd P o (kS n z g x' i') := by
 refine bd.of_val λ call e c h v c' h' l he => ?_; obtain ⟨m, hm, he⟩ := bW he; obtain ⟨hlt, he⟩ := dO he; rw [eD] at hlt; have hlt := of_decide_eq_true hlt; have key : c' = c /\ h' = h /\ ∃ r, ev e x' = .agg r /\ ∀ (ρ : Ren) (w : World) (q : Array Value), VRs ρ r q.toList -> ∃ u, (part el q (m * z)).run P w = .ok u w /\ VR ρ v u := by
  cases g with
  | true =>
    obtain ⟨r, hr, he⟩ := mz (show Ab (m * z) z (ev e x') c h = _ from he); obtain ⟨u, hd, he⟩ := bW he; obtain ⟨rfl, rfl, rfl, _⟩ := aS he; exact ⟨rfl, rfl, r, hr, λ ρ w q hq => rR hg hz hq hd⟩
  | false =>
    obtain ⟨r, hr, he⟩ := mz (show Ad (m * z) (ev e x') c h = _ from he); obtain ⟨u, t, hd, he⟩ := qr he; obtain ⟨rfl, rfl, rfl, _⟩ := aS he; exact ⟨rfl, rfl, r, hr, λ ρ w q hq => kM hg hq hd⟩
 obtain ⟨rfl, rfl, r, hr, key⟩ := key; refine ⟨rfl, rfl, λ ρ w a _ hE => ?_⟩; have hx := aO hE kx; have hi := aO hE ki; obtain ⟨k, hi⟩ := jy hi hm; rw [hr] at hx; simp only [VR] at hx; obtain ⟨q, hq, hx⟩ := hx; obtain ⟨u, h1, h2⟩ := key ρ w q hx; refine ⟨u, ?_, h2⟩; simp only [execOp, ho]; refine bF ?_; simp [Instr.index, hi, asIntOf, aB ht, hq, hlt, cH hz, h1]
theorem wW {ρ : Ren} {e : Env} {a : Act} (hE : ER ρ e a.tmps) {x : Option Operand} {x' : Option Opd} (k : kj x = some x') {d n : Nat} (hn : evB e d x' = some n) :
  (x = none /\ n = d) ∨ ∃ y i, x = some y /\ a.eval y = .int i (n : Int) := by
 rcases E9 hE k with ⟨rfl, rfl⟩ | ⟨y, y', rfl, rfl, hV⟩
 . cases hn; exact .inl ⟨rfl, rfl⟩
 . obtain ⟨i, hi⟩ := jy hV hn; exact .inr ⟨y, i, rfl, hi⟩
theorem lB {ρ : Ren} {e : Env} {a : Act} (hE : ER ρ e a.tmps) {lo hi : Option Operand} {lo' hi' : Option Opd} (kl : kj lo = some lo') (kh : kj hi = some hi') {len cap l h : Nat} (hl : evB e 0 lo' = some l) (hh : evB e len hi' = some h)
  (h1 : l <= h) (h2 : h <= cap) (b : Bool) (w : World) : (Instr.sliceBounds b len cap (lo.map a.eval) (hi.map a.eval) none).run P w = .ok (l, h, cap) w := by
 unfold Instr.sliceBounds; rcases wW hE kh hh with ⟨rfl, rfl⟩ | ⟨y, i, rfl, hy⟩ <;> rcases wW hE kl hl with ⟨rfl, rfl⟩ | ⟨z, j, rfl, hz⟩ <;>
  simp [Instr.sliceBound, asIntOf, *]
theorem nN {l h m : Nat} (e : ifB (Nat.ble l h) (Nat.ble h m) false = true) : l <= h /\ h <= m := by
 cases k : Nat.ble l h with
 | false => rw [k] at e; cases e
 | true => rw [k] at e; exact ⟨Nat.le_of_ble_eq_true k, Nat.le_of_ble_eq_true e⟩
theorem vo {t : TypeId} {x : Operand} {lo hi : Option Operand} {x' : Opd} {lo' hi' : Option Opd} (ho : o.op = .slice t x lo hi none) (kx : aW x = some x') (kl : kj lo = some lo') (kh : kj hi = some hi') (ht : P.underlying t = some .string) : bd P o (kO x' lo' hi') := by
 refine bd.of_val λ call e c h v c' h' l he => ?_; obtain ⟨s, hs, he⟩ := iR he; obtain ⟨l0, hl, he⟩ := bW he; obtain ⟨h0, hh, he⟩ := bW he; obtain ⟨hb, he⟩ := dO he; obtain ⟨rfl, rfl, rfl, _⟩ := aS he; obtain ⟨h1, h2⟩ := nN hb; rw [len_eq] at h2 hh; refine ⟨rfl, rfl, λ ρ w a _ hE => ?_⟩; have hx := aO hE kx; rw [hs] at hx; simp only [VR] at hx; obtain ⟨q, hq, hx⟩ := hx; have hlen := kJ hx; refine ⟨.string (q.extract l0 h0), ?_, ?_⟩
 . simp only [execOp, ho]; refine bF ?_; have := lB (P := P) hE kl kh (cap := s.length) hl hh h1 h2 false w; rw [<- hlen] at this; simp [Instr.sliceAt, Instr.slice, aB ht, hq, this]
 . simp only [VR]; refine ⟨_, rfl, ?_⟩; rw [ux, qH, <- hx]; simp only [ByteArray.data_extract, Array.toList_extract, List.extract_eq_take_drop, List.map_take, List.map_drop]; rfl
theorem FY {size c0 c c' : Nat} {p : Option (Nat × Nat)} {l h : Option Nat} {v : AV} {H0 H1 : H} {g : Log} (e : JU size p c0 l h c H0 = .ok v c' H1 g) :
  ∃ l0 h0, l = some l0 /\ h = some h0 /\ l0 <= h0 /\ h0 <= c0 /\ v = .slice (tf (l0 * size) p) (h0 - l0) (c0 - l0) size /\ c' = c /\ H1 = H0 := by
 obtain ⟨l0, rfl, e⟩ := bW (o := l) e; obtain ⟨h0, rfl, e⟩ := bW (o := h) e; obtain ⟨hb, e⟩ := dO e; obtain ⟨rfl, rfl, rfl, _⟩ := aS e; obtain ⟨h1, h2⟩ := nN hb; exact ⟨l0, h0, rfl, rfl, h1, h2, rfl, rfl, rfl⟩
theorem x8 {t el : TypeId} {z : Nat} {x : Operand} {lo hi : Option Operand} {x' : Opd} {lo' hi' : Option Opd} (ho : o.op = .slice t x lo hi none) (kx : aW x = some x') (kl : kj lo = some lo') (kh : kj hi = some hi') (ht : P.underlying t = some (.slice el)) (hz : cG P el = some z) : bd P o (mB z x' lo' hi') := by
 refine bd.of_val λ call e c h v c' h' l he => ?_; obtain ⟨p, n, m, q, hs, he⟩ := eU he; obtain ⟨hq, he⟩ := dO he; obtain ⟨l0, h0, hl, hh, h1, h2, rfl, rfl, rfl⟩ := FY he; refine ⟨rfl, rfl, λ ρ w a _ hE => ?_⟩; have hx := aO hE kx; rw [hs] at hx; cases p with
 | none =>
   simp only [VR] at hx; have := lB (P := P) hE kl kh (cap := m) hl hh h1 h2 true w; refine ⟨.slice none (h0 - l0) (m - l0), ?_, by simp only [tf, j6, VR]⟩; simp only [execOp, ho]; refine bF ?_; simp [Instr.sliceAt, Instr.slice, aB ht, hx, this, cH hz]
 | some p =>
   simp only [VR] at hx; obtain ⟨b, s, o', k', g1, g2, g3, g4, g5, g6, g7⟩ := hx; have hqz : q = z := Nat.eq_of_beq_eq_true hq; subst hqz; have := lB (P := P) hE kl kh (cap := k') hl hh h1 (Nat.le_trans h2 g3) true w; refine ⟨.slice (some (if k' = l0 then ⟨b, o', none⟩ else ⟨b, o' + l0 * q, none⟩)) (h0 - l0) (k' - l0), ?_, ?_⟩
   . simp only [execOp, ho]; refine bF ?_; simp only [Instr.sliceAt, Instr.slice, Sem.run_bind, aB ht, Result.andThen, g2, Option.map_none, this, cH hz, Sem.run_pure]; congr 2
     split <;> simp [addr_add]
   . simp only [tf, mN, VR]; by_cases hk : k' = l0
     . rw [if_pos hk]; exact ⟨b, s, o', _, g1, rfl, by omega, by omega, .inl zO, by rw [hk]; simp; omega, by omega⟩
     . rw [if_neg hk]; refine ⟨b, s, o' + l0 * q, _, g1, rfl, by omega, by omega, .inr ?_, ?_, by omega⟩
       . rcases g5 with g5 | g5
         . omega
         . rw [g5]; rfl
       . rw [Nat.add_assoc, <- Nat.add_mul]; rw [show l0 + (k' - l0) = k' by omega]; exact g6
end
section
variable {P : Program} {o : Oper}
def kF (P : Program) (t : TypeId) (x y : Operand) (f : AV -> AV -> Option Bool) : Prop := ∀ ρ p q r, f p q = some r -> ∀ u v, VR ρ p u -> VR ρ q v -> ∀ w : World,
 (∀ op, (eqGuard op t x y u v).run P w = .ok () w) /\ (binOp .eql t u v).run P w = .ok (.bool r) w /\ (binOp .neq t u v).run P w = .ok (.bool (!r)) w
theorem Iy {op : BinOp} {pos : Bool} {t t' : TypeId} {x y : Operand} {x' y' : Opd} {f : AV -> AV -> Option Bool} (ho : o.op = .binOp op t x y t') (kx : aW x = some x') (ky : aW y = some y')
  (hp : (op = .eql /\ pos = true) ∨ (op = .neq /\ pos = false)) (hf : kF P t x y f) : bd P o (oEq f pos x' y') := by
 refine bd.of_val λ call e c h v c' h' l he => ?_; obtain ⟨r, hr, he⟩ := bW he; obtain ⟨rfl, rfl, rfl, _⟩ := aS he; refine ⟨rfl, rfl, λ ρ w a _ hE => ?_⟩; obtain ⟨h1, h2, h3⟩ := hf ρ _ _ r hr _ _ (aO hE kx) (aO hE ky) w; refine ⟨.bool (if pos then r else !r), ?_, ?_⟩
 . simp only [execOp, ho]; refine bF ?_; rcases hp with ⟨rfl, rfl⟩ | ⟨rfl, rfl⟩ <;> simp [h1, h2, h3]
 . cases pos <;> exact VR.bool ρ _
theorem sb {v : AV} {β : Type} {k : Bool -> Option β} {r : β} (e : onBool none k v = some r) : ∃ b, v = .bool b /\ k b = some r := by cases v <;> first | exact ⟨_, rfl, e⟩ | cases e
theorem vA {v : AV} {β : Type} {k : IntKind -> Int -> Option β} {r : β} (e : onInt none k v = some r) : ∃ i n, v = .int i n /\ k i n = some r := by cases v <;> first | exact ⟨_, _, rfl, e⟩ | cases e
theorem vx {v : AV} {β : Type} {k : List Nat -> Option β} {r : β} (e : onStr none k v = some r) : ∃ b, v = .str b /\ k b = some r := by cases v <;> first | exact ⟨_, rfl, e⟩ | cases e
theorem vy {v : AV} {β : Type} {k : Option (Nat × Nat) -> Option β} {r : β} (e : onPtr none k v = some r) : ∃ b, v = .ptr b /\ k b = some r := by cases v <;> first | exact ⟨_, rfl, e⟩ | cases e
theorem pW {v : AV} {β : Type} {k : Option (Nat × Nat) -> Nat -> Nat -> Nat -> Option β} {r : β} (e : onSlice none k v = some r) : ∃ a n m z, v = .slice a n m z /\ k a n m z = some r := by cases v <;> first | exact ⟨_, _, _, _, rfl, e⟩ | cases e
theorem vz {v : AV} {β : Type} {k : Option Nat -> Option β} {r : β} (e : onMap none k v = some r) : ∃ b, v = .map b /\ k b = some r := by cases v <;> first | exact ⟨_, rfl, e⟩ | cases e
theorem vB {v : AV} {β : Type} {k : List AV -> Option β} {r : β} (e : onAgg none k v = some r) : ∃ b, v = .agg b /\ k b = some r := by cases v <;> first | exact ⟨_, rfl, e⟩ | cases e
theorem Eg {α β : Type} {l : List α} {k : α -> List α -> Option β} {r : β} (e : ifC none k l = some r) : ∃ a t, l = a :: t /\ k a t = some r := by
 cases l with
 | nil => cases e
 | cons a t => exact ⟨a, t, rfl, e⟩
theorem Jv (a b : Bool) : ifB a b (not b) = (a == b) := by cases a <;> cases b <;> rfl
def qy : FK -> TypeDesc -> Prop
 | .int, d => ∃ k, d = .int k
 | .str, d => d = .string
 | .bool, d => d = .bool
theorem nT {t : TypeId} {k : FK} (h : fkO P t = some k) : ∃ d, P.underlying t = some d /\ qy k d := by
 unfold fkO at h; split at h <;> first
  | (rename_i e; cases h; exact ⟨_, e, _, rfl⟩)
  | (rename_i e; cases h; exact ⟨_, e, rfl⟩)
  | cases h
theorem nV {k : FK} {ρ : Ren} {p q : AV} {r : Bool} (h : fK k p q = some r) {u v : Value} (hu : VR ρ p u) (hv : VR ρ q v) :
  match k with
  | .int => ∃ i m n, u = .int i m /\ v = .int i n /\ r = (m == n)
  | .str => ∃ a b, u = .string a /\ v = .string b /\ r = (a.toList == b.toList)
  | .bool => ∃ a b, u = .bool a /\ v = .bool b /\ r = (a == b) := by
 cases k with
 | int =>
   obtain ⟨i, m, rfl, h⟩ := vA (show onInt none _ p = some r from h); obtain ⟨j, n, rfl, h⟩ := vA h; obtain ⟨hk, h⟩ := dP h; cases h; simp only [VR] at hu hv; rw [Az hk] at hu; exact ⟨j, m, n, hu, hv, qE m n⟩
 | str =>
   obtain ⟨a, rfl, h⟩ := vx (show onStr none _ p = some r from h); obtain ⟨b, rfl, h⟩ := vx h; cases h; simp only [VR] at hu hv; obtain ⟨x, hu, h1⟩ := hu; obtain ⟨y, hv, h2⟩ := hv; exact ⟨x, y, hu, hv, str_eq h1 h2⟩
 | bool =>
   obtain ⟨a, rfl, h⟩ := sb (show onBool none _ p = some r from h); obtain ⟨b, rfl, h⟩ := sb h; cases h; simp only [VR] at hu hv; exact ⟨a, b, hu, hv, Jv a b⟩
theorem pP {k : FK} {t : TypeId} (ht : fkO P t = some k) {ρ : Ren} {p q : AV} {r : Bool} (h : fK k p q = some r) {u v : Value} (hu : VR ρ p u) (hv : VR ρ q v) (d : Nat) (w : World) : (Op.equalIn (d + 1) t u v).run P w = .ok r w := by
 obtain ⟨D, hD, hf⟩ := nT ht; have := nV h hu hv; cases k with
 | int =>
   obtain ⟨i, m, n, rfl, rfl, rfl⟩ := this; obtain ⟨j, rfl⟩ := hf; exact run_equalIn_int w d t i j m n hD
 | str =>
   obtain ⟨a, b, rfl, rfl, rfl⟩ := this; exact run_equalIn_string w d t a b (hf ▸ hD)
 | bool =>
   obtain ⟨a, b, rfl, rfl, rfl⟩ := this; exact run_equalIn_bool' w d t a b (hf ▸ hD)
theorem kF.of_equal {t : TypeId} {x y : Operand} {f : AV -> AV -> Option Bool} (h : ∀ ρ p q r, f p q = some r -> ∀ u v, VR ρ p u -> VR ρ q v -> ∀ w : World,
  (∀ op, (eqGuard op t x y u v).run P w = .ok () w) /\ (∀ d, (Op.equalIn (d + 1) t u v).run P w = .ok r w) /\ (binOp .eql t u v = do pure (.bool (<- Op.equal t u v))) /\ (binOp .neq t u v = do pure (.bool (!(<- Op.equal t u v))))) : kF P t x y f := by
 intro ρ p q r hr u v hu hv w; obtain ⟨h1, h2, h3, h4⟩ := h ρ p q r hr u v hu hv w; have h2 : (Op.equal t u v).run P w = .ok r w := h2 9999; exact ⟨h1, by rw [h3]; simp [h2], by rw [h4]; simp [h2]⟩
theorem Hn {t : TypeId} {x y : Operand} (ht : P.underlying t = some .bool) : kF P t x y (fK .bool) := by
 refine kF.of_equal λ ρ p q r hr u v hu hv w => ?_; have hk : fkO P t = some .bool := (by unfold fkO; rw [ht]); have h2 := λ d => pP hk hr hu hv d w; obtain ⟨a, b, rfl, rfl, _⟩ := nV hr hu hv; exact ⟨λ op => by cases op <;> rfl, h2, rfl, rfl⟩
theorem Jt {t e : TypeId} {z : Nat} {x y : Operand} (ht : P.underlying t = some (.pointer e)) (hz : cG P e = some z) (hn : z ≠ 0) : kF P t x y IG := by
 refine kF.of_equal λ ρ p q r hr u v hu hv w => ?_; obtain ⟨a, rfl, hr⟩ := vy (v := p) hr; obtain ⟨b, rfl, hr⟩ := vy (v := q) hr; have key : ∃ i j, u = .pointer i /\ v = .pointer j /\ ∀ d, (Op.equalIn (d + 1) t u v).run P w = .ok r w := by
  cases a with
  | none =>
    simp only [VR] at hu; subst hu; cases hr; cases b with
    | none => simp only [VR] at hv; subst hv; exact ⟨_, _, rfl, rfl, λ d => by simp [Op.equalIn, aB ht, ifS]⟩
    | some b => simp only [VR] at hv; obtain ⟨_, _, _, rfl⟩ := hv; exact ⟨_, _, rfl, rfl, λ d => by simp [Op.equalIn, aB ht, ifS]⟩
  | some a =>
    simp only [VR] at hu; obtain ⟨k, z', h1, rfl⟩ := hu; cases b with
    | none => cases hr; simp only [VR] at hv; subst hv; exact ⟨_, _, rfl, rfl, λ d => by simp [Op.equalIn, aB ht]⟩
    | some b =>
      simp only [VR] at hv; obtain ⟨k', z'', h2, rfl⟩ := hv; obtain ⟨hk, hr⟩ := dP (show ifB (Nat.beq a.1 b.1) (some (Nat.beq a.2 b.2)) none = some r from hr); cases hr; rw [Nat.eq_of_beq_eq_true hk, h2] at h1; cases h1; refine ⟨_, _, rfl, rfl, ?_⟩; have : Nat.beq a.2 b.2 = ((⟨k, a.2, none⟩ : Addr) == ⟨k, b.2, none⟩) := by
       by_cases e : a.2 = b.2
       . rw [e]; simp
       . have e1 : Nat.beq a.2 b.2 = false := Bool.eq_false_iff.2 λ h => e (Nat.eq_of_beq_eq_true h); rw [e1]; exact (beq_eq_false_iff_ne.2 λ h => e (Addr.mk.inj h).2.1).symm
      rw [this]; simp [Op.equalIn, aB ht, cH hz, hn, sameAddr]
 obtain ⟨i, j, rfl, rfl, h2⟩ := key; exact ⟨λ op => by cases op <;> rfl, h2, rfl, rfl⟩
theorem Kg {t e : TypeId} {x y : Operand} (ht : P.underlying t = some (.slice e)) : kF P t x y Kk := by
 refine kF.of_equal λ ρ p q r hr u v hu hv w => ?_; obtain ⟨a, n, m, z, rfl, hr⟩ := pW (v := p) hr; obtain ⟨b, n', m', z', rfl, hr⟩ := pW (v := q) hr; have key : ∃ i n m j n' m', u = .slice i n m /\ v = .slice j n' m' /\ ∀ d, (Op.equalIn (d + 1) t u v).run P w = .ok r w := by
  cases a with
  | none =>
    simp only [VR] at hu; subst hu; cases hr; cases b with
    | none => simp only [VR] at hv; subst hv; exact ⟨_, _, _, _, _, _, rfl, rfl, λ d => by simp [Op.equalIn, aB ht, ifS]⟩
    | some b => simp only [VR] at hv; obtain ⟨_, _, _, _, _, rfl, _⟩ := hv; exact ⟨_, _, _, _, _, _, rfl, rfl, λ d => by simp [Op.equalIn, aB ht, ifS]⟩
  | some a =>
    simp only [VR] at hu; obtain ⟨_, _, _, _, _, rfl, _⟩ := hu; cases b with
    | none => cases hr; simp only [VR] at hv; subst hv; exact ⟨_, _, _, _, _, _, rfl, rfl, λ d => by simp [Op.equalIn, aB ht]⟩
    | some b => cases hr
 obtain ⟨i, n, m, j, n', m', rfl, rfl, h2⟩ := key; exact ⟨λ op => by cases op <;> rfl, h2, rfl, rfl⟩
theorem Ju {t k e : TypeId} {x y : Operand} (ht : P.underlying t = some (.map k e)) : kF P t x y II := by
 refine kF.of_equal λ ρ p q r hr u v hu hv w => ?_; obtain ⟨a, rfl, hr⟩ := vz (v := p) hr; obtain ⟨b, rfl, hr⟩ := vz (v := q) hr; have key : ∃ i j, u = .map i /\ v = .map j /\ ∀ d, (Op.equalIn (d + 1) t u v).run P w = .ok r w := by
  cases a with
  | none =>
    simp only [VR] at hu; subst hu; cases hr; cases b with
    | none => simp only [VR] at hv; subst hv; exact ⟨_, _, rfl, rfl, λ d => by simp [Op.equalIn, aB ht, ifS]⟩
    | some b => simp only [VR] at hv; obtain ⟨_, _, _, rfl⟩ := hv; exact ⟨_, _, rfl, rfl, λ d => by simp [Op.equalIn, aB ht, ifS]⟩
  | some a =>
    simp only [VR] at hu; obtain ⟨_, _, _, rfl⟩ := hu; cases b with
    | none => cases hr; simp only [VR] at hv; subst hv; exact ⟨_, _, rfl, rfl, λ d => by simp [Op.equalIn, aB ht]⟩
    | some b => cases hr
 obtain ⟨i, j, rfl, rfl, h2⟩ := key; exact ⟨λ op => by cases op <;> rfl, h2, rfl, rfl⟩
theorem pd {v : AV} {b : Bool} (h : Jb v = some b) : (b = true /\ v = .nilFn) ∨ (b = false /\ ∃ f a c, v = .fn f a c) := by
 cases v <;> first | (cases h; exact .inl ⟨rfl, rfl⟩) | (cases h; exact .inr ⟨rfl, _, _, _, rfl⟩) | cases h
theorem pb {v : AV} {b : Bool} (h : Ja v = some b) : (b = true /\ v = .nilIface) ∨ (b = false /\ ∃ t x, v = .iface t x) := by
 cases v <;> first | (cases h; exact .inl ⟨rfl, rfl⟩) | (cases h; exact .inr ⟨rfl, _, _, rfl⟩) | cases h
theorem Ar {a b : Option Bool} {r : Bool} (h : Jc a b = some r) : (a = some true /\ b = some r) ∨ (a = some false /\ b = some true /\ r = false) := by
 cases a with
 | none => cases h
 | some a =>
   cases b with
   | none => cases h
   | some b => cases a <;> cases b <;> first | (cases h; exact .inl ⟨rfl, rfl⟩) | (cases h; exact .inr ⟨rfl, rfl, rfl⟩) | cases h
theorem Kj {t : TypeId} {ps rs : Array TypeId} {b : Bool} {x y : Operand} (ht : P.underlying t = some (.func ps rs b)) : kF P t x y Kn := by
 refine kF.of_equal λ ρ p q r hr u v hu hv w => ?_; rcases Ar hr with ⟨h1, h2⟩ | ⟨h1, h2, rfl⟩
 . rcases pd h1 with ⟨_, rfl⟩ | ⟨e, _⟩
   . simp only [VR] at hu; subst hu; rcases pd h2 with ⟨rfl, rfl⟩ | ⟨rfl, f, a, c, rfl⟩
     . simp only [VR] at hv; subst hv; exact ⟨λ op => by cases op <;> rfl, λ d => by simp [Op.equalIn, aB ht], rfl, rfl⟩
     . simp only [VR] at hv; obtain ⟨_, _, rfl, _⟩ := hv; exact ⟨λ op => by cases op <;> rfl, λ d => by simp [Op.equalIn, aB ht], rfl, rfl⟩
   . cases e
 . rcases pd h1 with ⟨e, _⟩ | ⟨_, f, a, c, rfl⟩
   . cases e
   . rcases pd h2 with ⟨_, rfl⟩ | ⟨e, _⟩
     . simp only [VR] at hu hv; obtain ⟨_, _, rfl, _⟩ := hu; subst hv; exact ⟨λ op => by cases op <;> rfl, λ d => by simp [Op.equalIn, aB ht], rfl, rfl⟩
     . cases e
theorem yH {x : Operand} (h : kW x = true) : ∃ v, x = .const v := by
 cases x <;> first | exact ⟨_, rfl⟩ | cases h
theorem Kh {t : TypeId} {ms : Array (String × TypeId)} {x y : Operand} (ht : P.underlying t = some (.interface ms)) (hc : kW x = true ∨ kW y = true) : kF P t x y Kl := by
 refine kF.of_equal λ ρ p q r hr u v hu hv w => ?_; rcases Ar hr with ⟨h1, h2⟩ | ⟨h1, h2, rfl⟩
 . rcases pb h1 with ⟨_, rfl⟩ | ⟨e, _⟩
   . simp only [VR] at hu; subst hu; rcases pb h2 with ⟨rfl, rfl⟩ | ⟨rfl, f, a, rfl⟩
     . simp only [VR] at hv; subst hv; refine ⟨λ op => ?_, λ d => by simp [Op.equalIn, aB ht], rfl, rfl⟩; rcases hc with hc | hc <;> obtain ⟨z, rfl⟩ := yH hc <;> cases op <;> simp [eqGuard]
     . simp only [VR] at hv; obtain ⟨_, rfl, _⟩ := hv; exact ⟨λ op => by cases op <;> rfl, λ d => by simp [Op.equalIn, aB ht], rfl, rfl⟩
   . cases e
 . rcases pb h1 with ⟨e, _⟩ | ⟨_, f, a, rfl⟩
   . cases e
   . rcases pb h2 with ⟨_, rfl⟩ | ⟨e, _⟩
     . simp only [VR] at hu hv; obtain ⟨_, rfl, _⟩ := hu; subst hv; exact ⟨λ op => by cases op <;> rfl, λ d => by simp [Op.equalIn, aB ht], rfl, rfl⟩
     . cases e
theorem uM {w : World} {ρ : Ren} (d : Nat) {a b : List AV} {xs ys : Array Value} (ha : VRs ρ a xs.toList) (hb : VRs ρ b ys.toList) : ∀ (fs : List Field) (ks : List (Nat × FK)) (r : Bool), iF (qz P) fs = some ks ->
  List.rec (motive := λ _ => Option Bool) (some true) (λ k _ r => ifC none (λ p _ => ifC none (λ q _ => ifS none (λ t => ifB t r (some false)) (fK k.2 p q)) (dropN k.1 b)) (dropN k.1 a)) ks = some r ->
  (Op.eqFields (d + 1) xs ys fs).run P w = .ok r w
 | [], ks, r, hk, hr => by
   cases hk
   cases hr
   rfl
 | f :: fs, ks, r, hk, hr => by
   obtain ⟨k, h1, hk⟩ := ah (show ifS none (λ b => ifS none (λ r => some (b :: r)) (iF (qz P) fs)) (qz P f) = some ks from hk)
   obtain ⟨ks', h2, hk⟩ := ah hk
   cases hk
   obtain ⟨hn, h1⟩ := dP h1
   obtain ⟨fk, h3, h1⟩ := ah h1
   cases h1
   obtain ⟨p, t1, hp, hr⟩ := Eg hr
   obtain ⟨q, t2, hq, hr⟩ := Eg hr
   obtain ⟨t, ht, hr⟩ := ah hr
   have hagg : kD P f.type = some false := by
    obtain ⟨D, hD, hf⟩ := nT h3; unfold kD; rw [hD]; cases fk with
    | int => obtain ⟨_, rfl⟩ := hf; rfl
    | str => have hf : D = .string := hf; subst hf; rfl
    | bool => have hf : D = .bool := hf; subst hf; rfl
   obtain ⟨u, g1, g2⟩ := kM (w := w) hagg ha hp; obtain ⟨v, g3, g4⟩ := kM (w := w) hagg hb hq; have g5 := pP h3 ht g2 g4 d w; have hn' : f.name ≠ "_" := (by simpa using hn); simp only [Op.eqFields, if_pos hn', Sem.run_bind, g1, g3, g5, Result.andThen]; cases t with
   | true =>
     simp only [Bool.not_true, Bool.false_eq_true, if_false]; exact uM d ha hb fs ks' r h2 hr
   | false =>
     cases hr; rfl
theorem Ki {t : TypeId} {fs : Array Field} {ks : List (Nat × FK)} {x y : Operand} (ht : P.underlying t = some (.struct fs)) (hg : P.eqGuardType P.depth t = false) (hp : P.stoodInHeld t = false) (hk : iF (qz P) fs.toList = some ks) : kF P t x y (Km ks) := by
 intro ρ p q r hr u v hu hv w; obtain ⟨a, rfl, hr⟩ := vB (v := p) hr; obtain ⟨b, rfl, hr⟩ := vB (v := q) hr; simp only [VR] at hu hv; obtain ⟨xs, rfl, hu⟩ := hu; obtain ⟨ys, rfl, hv⟩ := hv; have hfs : P.fieldsOf t = fs := (by simp [Program.fieldsOf, ht]); have h1 : (Op.equalIn 10000 t (.agg xs) (.agg ys)).run P w = .ok r w := by
  rw [show (10000 : Nat) = 9999 + 1 from rfl, run_equalIn_struct w 9999 t xs ys (by rw [hfs]; exact ht) hp, hfs]; exact uM 9998 hu hv fs.toList ks r hk hr
 exact ⟨λ op => run_eqGuard_agg w op t x y xs ys hg, by rw [run_eql_struct, h1]; rfl, by rw [run_neq_struct, h1]; rfl⟩
theorem AM {t : TypeId} {x y : Operand} {f : AV -> AV -> Option Bool} (h : Co P t x y = some f) : kF P t x y f := by
 unfold Co at h; split at h
 . rename_i ht; cases h; exact Hn ht
 . rename_i e ht; obtain ⟨z, hz, h⟩ := ah h; obtain ⟨hn, h⟩ := gR h; cases h; exact Jt ht hz λ e => by subst e; cases hn
 . rename_i ht; cases h; exact Kg ht
 . rename_i ht; cases h; exact Ju ht
 . rename_i ht; cases h; exact Kj ht
 . rename_i ht; obtain ⟨hc, h⟩ := dP h; cases h; refine Kh ht ?_; cases hx : kW x with
   | true => exact .inl rfl
   | false => rw [hx] at hc; exact .inr hc
 . rename_i ht; obtain ⟨hc, h⟩ := dP h; obtain ⟨ks, hk, h⟩ := ah h; cases h; cases hg : P.eqGuardType P.depth _ with
   | true => rw [hg] at hc; cases hc
   | false =>
     rw [hg] at hc; exact Ki ht hg (by simpa using (show (not (P.stoodInHeld _)) = true from hc)) hk
 . cases h
theorem Gp {op : BinOp} {t t' : TypeId} {x y : Operand} {x' y' : Opd} {f : Ev} (ho : o.op = .binOp op t x y t') (kx : aW x = some x') (ky : aW y = some y') (h : Fd P op t x y x' y' = some f) : bd P o f := by
 unfold Fd at h; cases hs : tO P t with
 | true => rw [hs] at h; cases h; exact I8 ho kx ky
 | false =>
   rw [hs] at h; cases op with
   | eql =>
     obtain ⟨g, hg, h⟩ := ah (show ifS none (λ f => some (oEq f true x' y')) (Co P t x y) = some f from h); cases h; exact Iy ho kx ky (.inl ⟨rfl, rfl⟩) (AM hg)
   | neq =>
     obtain ⟨g, hg, h⟩ := ah (show ifS none (λ f => some (oEq f false x' y')) (Co P t x y) = some f from h); cases h; exact Iy ho kx ky (.inr ⟨rfl, rfl⟩) (AM hg)
   | _ => cases h
end
end Go.Sx
